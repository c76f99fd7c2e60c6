
/- Whether bytes are a sealed sector: the document's answer, in one. -/
import Derived.Test.YtmgeifolgdgapaaSeRef
namespace Go.Proofs.Ytmgeifolgdgapaa
open Go.RowKit

/-- Bytes that are a sealed sector. -/
def Sealed (n : Nat) (f : Nat → Nat) : Prop := n = 64 ∧ ∀ i, i < 4 → f (60 + i) = sumB (crc f 60) i
theorem refOpen_any (v : Value) (n : Nat) (f : Nat → Nat) (w : World) (hv : Reads w v n f) :
    Calls Try.prog 23 #[v] w fun e w' =>
      (Sealed n f ∧ Gives 60 f w e w') ∨ (¬ Sealed n f ∧ ∃ x : Int, x ≠ 0 ∧ e = .returned (.tuple #[.slice none 0 0, .int .i64 x]) ∧ Below w.heap.size w w') := by
  obtain ⟨A, c, rfl, p1, p2, p3, p4⟩ := hv
  by_cases h64 : n = 64
  · subst h64
    obtain ⟨ad, rfl⟩ := p4.addr (by omega)
    by_cases hs : ∀ i, i < 4 → f (60 + i) = sumB (crc f 60) i
    · exact (refOpen_ok ad c f w p1 p2 p4 hs).mono fun e w' h => .inl ⟨⟨rfl, hs⟩, h⟩
    · exact (refOpen_bad ad c f w p1 p2 p4 hs).mono fun e w' h => .inr ⟨fun k => hs k.2, 2, by omega, h⟩
  · refine (refOpen_len A n c w h64).mono fun e w' h => .inr ⟨fun k => h64 k.1, 6, by omega, ?_⟩
    obtain ⟨he, hw⟩ := h
    exact ⟨he, by rw [← hw]; exact Below.refl _ _⟩

theorem Gives.reads {n : Nat} {f : Nat → Nat} {w w' : World} {e : Ending} (h : Gives n f w e w') (hf : ∀ i, i < n → f i < 256) :
    ∃ v, e = .returned (.tuple #[v, .int .i64 0]) ∧ Reads w' v n f ∧ Below w.heap.size w w' := by
  obtain ⟨v, he, hr, hb⟩ := h
  obtain ⟨g, cap, rfl, _, _, h1, h2, hs⟩ := hr.bytes (Nat.le_refl _) hf
  exact ⟨_, he, ⟨_, _, rfl, h1, h2, (by intro e; cases e), hs⟩, hb⟩
end Go.Proofs.Ytmgeifolgdgapaa
