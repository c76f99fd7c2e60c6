
/- Two byte rows compared. -/
import Derived.Test.YtmgeifolgdgapaaBytes
namespace Go.Proofs.Ytmgeifolgdgapaa
open Go.RowKit

/-- Two byte rows: the same? -/
theorem equal_any (v u : Value) (n m : Nat) (f g : Nat → Nat) (w : World) (hv : Reads w v n f) (hu : Reads w u m g) :
    Calls Try.prog 34 #[v, u] w fun e w' => ∃ b, e = .returned (.bool b) ∧ (b = true ↔ n = m ∧ ∀ i, i < n → f i = g i) ∧ w = w' := by
  have c1 := hv.conv
  have c2 := hu.conv
  have hlen : ∀ (h : Nat → Nat) (k : Nat), (str h k).toList.length = k := fun h k => by rw [str_list]; simp
  have hb : (((str f n).toList == (str g m).toList) = true ↔ n = m ∧ ∀ i, i < n → f i = g i) := by
    constructor
    · intro h
      have he : (str f n).toList = (str g m).toList := by simpa using h
      have hl : n = m := by rw [← hlen f n, ← hlen g m, he]
      subst hl
      obtain ⟨_, _, rfl, _, _, _, p⟩ := hv
      obtain ⟨_, _, rfl, _, _, _, q⟩ := hu
      exact ⟨rfl, str_inj p.small q.small h⟩
    · rintro ⟨rfl, h⟩
      exact str_same h
  obtain ⟨X, eX⟩ : ∃ X, X = str f n := ⟨_, rfl⟩
  obtain ⟨Y, eY⟩ : ∃ Y, Y = str g m := ⟨_, rfl⟩
  rw [← eX] at c1 hb
  rw [← eY] at c2 hb
  obtain ⟨b, eb⟩ : ∃ b, b = (X.toList == Y.toList) := ⟨_, rfl⟩
  rw [← eb] at hb
  have ebr := eb.symm
  have HB := Lib.hid hb
  obtain ⟨A, c, rfl, _, _, _, _⟩ := hv
  obtain ⟨B, d, rfl, _, _, _, _⟩ := hu
  clear eX eY hb eb hlen
  go_enter Try.func34, Try.ntmps34
  go_wp2
  go_ret
  exact ⟨_, rfl, HB.out, rfl⟩

theorem Reads.first {w : World} {A : Option Addr} {n c m : Nat} {f : Nat → Nat} (h : Reads w (.slice A n c) n f) (hm : m ≤ n) : Reads w (.slice A m c) m f := by
  obtain ⟨A', c', e, h1, h2, h3, hs⟩ := h
  cases e
  exact ⟨A, c, rfl, by omega, h2, h3, hs.first hm⟩
end Go.Proofs.Ytmgeifolgdgapaa
