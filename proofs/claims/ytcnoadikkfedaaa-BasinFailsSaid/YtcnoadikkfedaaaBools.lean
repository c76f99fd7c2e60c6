/- Slices of bools as they come in. No program's functions. -/
import Derived.Test.YtcnoadikkfedaaaLawKit
import Derived.Deep.Grids
namespace Go.Proofs.Ytcnoadikkfedaaa
open Go.ChangeShapes Go.WideShapes Go.ChangeAt Go.RowKit Go.Deep

/-- A slice of bools that came in. -/
structure BoolsIn (w : World) (A : Option Addr) (n c : Nat) (B : Nat → Bool) : Prop where
  cap : n ≤ c
  most : c ≤ 9223372036854775807
  bare : A = none → n = 0 ∧ c = 0
  cell : ∀ ad, A = some ad → ∀ t, t < n → w.cell? (ad.add t) = some (.bool (B t))

theorem BoolsIn.addr {w : World} {A : Option Addr} {n c : Nat} {B : Nat → Bool} (h : BoolsIn w A n c B) (hn : 0 < n) : ∃ ad, A = some ad := by
  cases A with
  | none => have := (h.bare rfl).1; omega
  | some ad => exact ⟨ad, rfl⟩

section
variable {H : Type} {enc : TypeId × Value → H} {P : Program}
theorem view_bools {W : World} {T E : TypeId} {A : Option Addr} {n c : Nat} {d : DataW H} {p : List MemPlace}
    (hT : P.underlying T = some (.slice E)) (hE : P.underlying E = some .bool) (hc : P.cellsOf E = 1)
    (h : DataW.Trod enc P W 0 (fun _ => true) true T (.slice A n c) d p) : ∃ B : Nat → Bool, BoolsIn W A n c B := by
  obtain ⟨fuel, hf⟩ := h
  rcases open_bools hT hE hc hf with ⟨hcs, _⟩ | ⟨a, len', cap', B, hcs, _, hl, hm, _, hcell⟩
  · simp [Value.cells] at hcs
    obtain ⟨rfl, rfl, rfl⟩ := hcs
    exact ⟨fun _ => false, Nat.le_refl _, by omega, fun _ => ⟨rfl, rfl⟩, (fun ad h => by cases h)⟩
  · simp [Value.cells] at hcs
    obtain ⟨rfl, rfl, rfl⟩ := hcs
    unfold maxLen at hm
    refine ⟨B, hl, hm, (fun h => by cases h), fun ad h t ht => ?_⟩
    obtain rfl := Option.some.inj h
    exact hcell t (by omega)
end
end Go.Proofs.Ytcnoadikkfedaaa
