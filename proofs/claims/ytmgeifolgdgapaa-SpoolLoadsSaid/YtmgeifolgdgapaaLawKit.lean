
/- Words and small lemmas that the texts of every law share: answers that only draw or only make memory, slices of numbers as they come in, and a law's end. -/
import Derived.ProofKit
import Derived.OpenShut
import Derived.SizedLaws
import Derived.Below
import Derived.Carry
import Derived.Deep.Draws
import Derived.Deep.QuietTactic
namespace Go.Proofs.Ytmgeifolgdgapaa
open Go.ChangeShapes Go.WideShapes Go.ChangeAt Go.RowKit

/-- 'e' is the answer 'v', and nothing but draws has happened. -/
def Drawn (v : Value) (w : World) (e : Ending) (w' : World) : Prop := ∃ nq : Nat, e = .returned v ∧ w.drewN nq = w'

/-- 'e' is the answer 'v'; nothing that was there has changed. -/
def Fresh (v : Value) (w : World) (e : Ending) (w' : World) : Prop := e = .returned v ∧ Below w.heap.size w w'

theorem drawn_end {v v' : Value} {w wr : World} {n m : Nat} (h : w.drewN n = wr) (hv : v = v') : Drawn v' w (.returned v) (wr.drewN m) :=
  ⟨n + m, by rw [hv], by rw [← h, World.drewN_drewN]⟩
theorem same_turned {P : Program} {f : FuncId} {args : Array Value} {w : World} {v : Value} (h : Calls P f args w fun e w' => e = .returned v ∧ w = w') : Calls P f args w fun e w' => e = .returned v ∧ w' = w :=
  h.mono fun _ _ ⟨he, hw⟩ => ⟨he, hw.symm⟩
theorem drawn_turned {P : Program} {f : FuncId} {args : Array Value} {w : World} {v : Value} (h : Calls P f args w (Drawn v w)) : Calls P f args w fun e w' => e = .returned v ∧ ∃ m, w' = w.drewN m :=
  h.mono fun _ _ ⟨m, he, hw⟩ => ⟨he, m, hw.symm⟩
theorem drawn_of_same {P : Program} {f : FuncId} {args : Array Value} {w : World} {v : Value} (h : Calls P f args w fun e w' => e = .returned v ∧ w = w') : Calls P f args w (Drawn v w) :=
  h.mono fun _ _ ⟨he, hw⟩ => ⟨0, he, hw⟩
theorem below_drewN {B : Nat} {a w : World} (h : Below B a w) (n : Nat) : Below B a (w.drewN n) := ⟨h.os, h.tape, h.output, h.size, h.block⟩

/-- A slice of numbers that came in: its numbers are Z, it may be nil. -/
structure IntsIn (w : World) (k : IntKind) (A : Option Addr) (n c : Nat) (Z : List Int) : Prop where
  len : Z.length = n
  cap : n ≤ c
  most : c ≤ 9223372036854775807
  bare : A = none → n = 0 ∧ c = 0
  cell : ∀ ad, A = some ad → ∀ t, t < n → w.cell? (ad.add t) = some (.int k (Z.getD t 0))
  wf : ∀ z ∈ Z, (Lit.int k z).wf = true

theorem IntsIn.addr {w : World} {k : IntKind} {A : Option Addr} {n c : Nat} {Z : List Int} (h : IntsIn w k A n c Z) (hn : 0 < n) : ∃ ad, A = some ad := by
  cases A with
  | none => have := (h.bare rfl).1; omega
  | some ad => exact ⟨ad, rfl⟩

/-- Its first m numbers alone. -/
theorem IntsIn.first {w : World} {k : IntKind} {A : Option Addr} {n c : Nat} {Z : List Int} (h : IntsIn w k A n c Z) {m : Nat} (hm : m ≤ n) : IntsIn w k A m c (Z.take m) where
  len := by rw [List.length_take, h.len]; omega
  cap := Nat.le_trans hm h.cap
  most := h.most
  bare := fun e => ⟨by have := (h.bare e).1; omega, (h.bare e).2⟩
  cell := fun ad e t ht => by
    rw [h.cell ad e t (by omega), List.getD_eq_getElem?_getD, List.getD_eq_getElem?_getD, List.getElem?_take, if_pos ht]
  wf := fun z hz => h.wf z (List.mem_of_mem_take hz)

section
variable {H : Type} {enc : TypeId × Value → H} {P : Program}
theorem view_ints {W : World} {T E : TypeId} {k : IntKind} {A : Option Addr} {n c : Nat} {d : DataW H} {p : List MemPlace}
    (hT : P.underlying T = some (.slice E)) (hE : P.underlying E = some (.int k)) (hc : P.cellsOf E = 1)
    (h : DataW.Trod enc P W 0 (fun _ => true) true T (.slice A n c) d p) :
    ∃ Z : List Int, IntsIn W k A n c Z ∧ ((d = .nil ∧ n = 0) ∨ ∃ el sp, d = .slice el sp ∧ el.length = n) := by
  obtain ⟨fuel, hf⟩ := h
  rcases open_ints hT hE hc hf with ⟨hcs, hx⟩ | ⟨a, len', cap', zs, hcs, _, hl, hm, hz, hx, hcell, hwz⟩
  · simp [Value.cells] at hcs
    obtain ⟨rfl, rfl, rfl⟩ := hcs
    simp only [Prod.mk.injEq] at hx
    obtain ⟨rfl, rfl⟩ := hx
    exact ⟨[], ⟨rfl, Nat.le_refl _, by omega, fun _ => ⟨rfl, rfl⟩, (fun ad h => by cases h), (fun n hn => by cases hn)⟩, Or.inl ⟨rfl, rfl⟩⟩
  · simp [Value.cells] at hcs
    obtain ⟨rfl, rfl, rfl⟩ := hcs
    simp only [Prod.mk.injEq] at hx
    obtain ⟨rfl, rfl⟩ := hx
    simp only [if_true] at hz
    unfold maxLen at hm
    refine ⟨zs.take n, ⟨(by simp; omega), hl, hm, (fun h => by cases h), fun ad h t ht => ?_, fun z hn => hwz z (List.mem_of_mem_take hn)⟩, Or.inr ⟨_, _, rfl, by simp [lits]; omega⟩⟩
    obtain rfl := Option.some.inj h
    rw [hcell t (by omega)]
    simp [List.getD, ht]

theorem reach_of {ts : List TypeId} {ds : List (DataW H)} (h : (DataW.weightsEach P ts ds).all (· ≤ reachBytes) = true) {j : Nat} {t e : TypeId} {d : DataW H} {n b : Nat}
    (ht : ts[j]? = some t) (hd : ds[j]? = some d) (hu : P.underlying t = some (.slice e)) (hb : P.bytesOf e = b) (hdd : (d = .nil ∧ n = 0) ∨ ∃ el sp, d = .slice el sp ∧ el.length = n) : n * b ≤ 140737488351232 := by
  rcases hdd with ⟨_, rfl⟩ | ⟨el, sp, rfl, hl⟩
  · omega
  · have h1 := sized_slice h ht hd hu
    rw [hb, Nat.add_mul, hl] at h1
    unfold reachBytes at h1
    omega
end
end Go.Proofs.Ytmgeifolgdgapaa
