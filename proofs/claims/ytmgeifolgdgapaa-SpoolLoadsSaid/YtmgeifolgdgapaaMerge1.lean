/- Small whole numbers as floats: how they compare, and that they come back. Plain facts, by the kernel, for the numbers from 0 to 24. Bytes as floats: how they compare with the bounds of places. Plain facts, by the kernel. -/
import Derived.WalkLawsBesides
namespace Go.Proofs.Ytmgeifolgdgapaa
open Go

/-- A whole number as the bits of a float64. -/
def fl (n : Nat) : Nat := floatOfInt .f64 (n : Int)

theorem fl_cast (n : Nat) : floatOfInt .f64 (n : Int) = fl n := rfl

theorem fl_order (a b : Nat) (ha : a < 25) (hb : b < 25) : FloatKind.f64.format.order (fl a) (fl b) = some (compare a b) := by
  have h : ∀ a : Fin 25, ∀ b : Fin 25, FloatKind.f64.format.order (fl a.val) (fl b.val) = some (compare a.val b.val) := by decide +kernel
  exact h ⟨a, ha⟩ ⟨b, hb⟩

theorem fl_lt (a b : Nat) (hb : b < 25) (h : a < b) : FloatKind.f64.format.order (fl a) (fl b) = some .lt := by
  rw [fl_order a b (by omega) hb]; simp [Nat.compare_eq_lt, h]

theorem fl_eq (a : Nat) (ha : a < 25) : FloatKind.f64.format.order (fl a) (fl a) = some .eq := by
  rw [fl_order a a ha ha]; simp

theorem fl_zero (a : Nat) (ha : a < 25) : (FloatKind.f64.format.order (fl a) 0 == some .gt || FloatKind.f64.format.order (fl a) 0 == some .eq) = true := by
  have h : ∀ a : Fin 25, (FloatKind.f64.format.order (fl a.val) 0 == some .gt || FloatKind.f64.format.order (fl a.val) 0 == some .eq) = true := by decide +kernel
  exact h ⟨a, ha⟩

theorem fl_back (a : Nat) (ha : a < 25) : floatToIntVal .f64 (fl a) .i64 = some (a : Int) := by
  have h : ∀ a : Fin 25, floatToIntVal .f64 (fl a.val) .i64 = some (a.val : Int) := by decide +kernel
  exact h ⟨a, ha⟩

theorem half_zero : (FloatKind.f64.format.order 4602678819172646912 0 == some .gt || FloatKind.f64.format.order 4602678819172646912 0 == some .eq) = true := by decide +kernel
theorem half_lt : FloatKind.f64.format.order 4602678819172646912 (fl 24) = some .lt := by decide +kernel
theorem half_back : floatToIntVal .f64 4602678819172646912 .i64 = some 0 := by decide +kernel
theorem half_not : FloatKind.f64.format.order (fl 0) 4602678819172646912 = some .lt := by decide +kernel
theorem three : fl 3 = 4613937818241073152 := by decide +kernel
theorem two : fl 2 = 4611686018427387904 := by decide +kernel
end Go.Proofs.Ytmgeifolgdgapaa

namespace Go.Proofs.Ytmgeifolgdgapaa
open Go

theorem fb_order (a b : Nat) (ha : a < 256) (hb : b < 25) : FloatKind.f64.format.order (fl a) (fl b) = some (compare a b) := by
  have h : ∀ a : Fin 256, ∀ b : Fin 25, FloatKind.f64.format.order (fl a.val) (fl b.val) = some (compare a.val b.val) := by decide +kernel
  exact h ⟨a, ha⟩ ⟨b, hb⟩
theorem fb_zero (a : Nat) (ha : a < 256) : (FloatKind.f64.format.order (fl a) 0 == some .gt || FloatKind.f64.format.order (fl a) 0 == some .eq) = true := by
  have h : ∀ a : Fin 256, (FloatKind.f64.format.order (fl a.val) 0 == some .gt || FloatKind.f64.format.order (fl a.val) 0 == some .eq) = true := by decide +kernel
  exact h ⟨a, ha⟩
theorem fl_nil : fl 0 = 0 := by decide +kernel
theorem fb_not_lt (a m : Nat) (ha : a < 256) (hm : m < 25) (h : m ≤ a) : (FloatKind.f64.format.order (fl a) (fl m) == some .lt) = false := by
  rw [fb_order a m ha hm]
  have : compare a m ≠ .lt := fun e => by have := Nat.compare_eq_lt.1 e; omega
  cases hc : compare a m <;> first | rfl | exact absurd hc this
theorem fb_eq (a m : Nat) (ha : a < 256) (hm : m < 25) : (FloatKind.f64.format.order (fl a) (fl m) == some .eq) = decide (a = m) := by
  rw [fb_order a m ha hm]
  by_cases e : a = m
  · subst e
    rw [Nat.compare_eq_eq.2 rfl]
    simp
  · have : compare a m ≠ .eq := fun h => e (Nat.compare_eq_eq.1 h)
    rw [decide_eq_false e]
    cases hc : compare a m <;> first | rfl | exact absurd hc this
theorem fb_nil (a : Nat) (ha : a < 256) : (FloatKind.f64.format.order (fl a) 0 == some .eq) = decide (a = 0) := by
  have h := fb_eq a 0 ha (by omega)
  rw [fl_nil] at h
  exact h
end Go.Proofs.Ytmgeifolgdgapaa

