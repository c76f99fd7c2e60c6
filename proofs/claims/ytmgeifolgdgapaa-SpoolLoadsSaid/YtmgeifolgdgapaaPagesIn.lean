
/- Pages as they come in: a slice of slices of bytes. -/
import Derived.Test.YtmgeifolgdgapaaLfPages
import Derived.Deep.Slices
import Derived.Deep.Fields
import Derived.Deep.Grids
namespace Go.Proofs.Ytmgeifolgdgapaa
open Go.ChangeShapes Go.WideShapes Go.ChangeAt Go.RowKit Go.Deep

section
variable {H : Type} {enc : TypeId × Value → H} {P : Program} {W : World}

theorem bytes_cell {T E : TypeId} (hT : P.underlying T = some (.slice E)) (hE : P.underlying E = some (.int .u8)) (hc : P.cellsOf E = 1)
    {v : Value} {q : Nat} {x : DataW H × List MemPlace} (h : DataW.trod enc P W 0 (fun _ => true) true q T [v] = some x) : ∃ n f, Reads W v n f := by
  have h0 : ∃ A m c, v = .slice A m c := by
    rcases open_ints hT hE hc h with ⟨h1, -⟩ | ⟨a, len, cap, -, h1, -⟩
    · exact ⟨_, _, _, by simpa using h1⟩
    · exact ⟨_, _, _, by simpa using h1⟩
  obtain ⟨A, m, c, rfl⟩ := h0
  obtain ⟨Z, hz, -⟩ := view_ints (d := x.1) (p := x.2) hT hE hc ⟨q, h⟩
  exact ⟨m, ofInts Z, reads_in hz⟩

theorem view_pages {T E U : TypeId} {A : Option Addr} {n c : Nat} {d : DataW H} {p : List MemPlace}
    (hT : P.underlying T = some (.slice E)) (hE : P.underlying E = some (.slice U)) (hU : P.underlying U = some (.int .u8)) (hc : P.cellsOf E = 1) (hu : P.cellsOf U = 1)
    (h : DataW.Trod enc P W 0 (fun _ => true) true T (.slice A n c) d p) : ∃ L F, ReadsP W (.slice A n c) n L F := by
  obtain ⟨fuel, hf⟩ := h
  rcases open_slice hT hf with ⟨h1, _⟩ | ⟨a, len, cap, m, n', D, Pl, h1, -, hl, hm, hmm, _, hi⟩
  · simp [Value.cells] at h1
    obtain ⟨rfl, rfl, rfl⟩ := h1
    exact ⟨fun _ => 0, fun _ _ => 0, none, 0, rfl, Nat.le_refl _, by omega, fun _ => rfl, fun i hi => absurd hi (by omega)⟩
  · simp [Value.cells] at h1
    obtain ⟨rfl, rfl, rfl⟩ := h1
    unfold maxLen at hm
    have hmc : m = c := by simpa using hmm
    have hP : ∀ i, ∃ y : Value × Nat × (Nat → Nat), i < n → W.cell? (a.add i) = some y.1 ∧ Reads W y.1 y.2.1 y.2.2 := by
      intro i
      by_cases hin : i < n
      · obtain ⟨cs, hcs, htr⟩ := hi i (by omega)
        rw [hc] at hcs
        obtain ⟨-, hcl, hat⟩ := World.cells?_some hcs
        obtain ⟨u, rfl⟩ : ∃ u, cs = [u] := by
          rcases cs with _ | ⟨u, _ | ⟨_, _⟩⟩
          · simp at hcl
          · exact ⟨u, rfl⟩
          · simp at hcl
        obtain ⟨k, f, hr⟩ := bytes_cell hE hU hu htr
        refine ⟨(u, k, f), fun _ => ⟨?_, hr⟩⟩
        have := hat 0 (by omega)
        rw [Go.Deep.add_add] at this
        simpa using this
      · exact ⟨(.slice none 0 0, 0, fun _ => 0), fun h => absurd h hin⟩
    obtain ⟨Q, hQ⟩ := Classical.axiomOfChoice hP
    exact ⟨fun i => (Q i).2.1, fun i => (Q i).2.2, some a, c, rfl, hl, hm, (fun e => nomatch e), fun i hi => ⟨a, (Q i).1, rfl, (hQ i hi).1, (hQ i hi).2⟩⟩
end
end Go.Proofs.Ytmgeifolgdgapaa
