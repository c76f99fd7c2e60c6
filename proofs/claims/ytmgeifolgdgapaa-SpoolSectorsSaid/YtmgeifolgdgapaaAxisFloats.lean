
/- Small whole numbers as floats: how they compare, and that they come back. Plain facts, by the kernel, for the numbers from 0 to 24. -/
import Derived.WalkLawsBesides
namespace Go.Proofs.Ytmgeifolgdgapaa
open Go

/-- A whole number as the bits of a float64. -/
def fl (n : Nat) : Nat := floatOfInt .f64 (n : Int)

theorem fl_cast (n : Nat) : floatOfInt .f64 (n : Int) = fl n := rfl

theorem fl_order (a b : Nat) (ha : a < 25) (hb : b < 25) : FloatKind.f64.format.order (fl a) (fl b) = some (compare a b) := by
  have h : ∀ a : Fin 25, ∀ b : Fin 25, FloatKind.f64.format.order (fl a.val) (fl b.val) = some (compare a.val b.val) := by decide +kernel
  exact h ⟨a, ha⟩ ⟨b, hb⟩

theorem fl_lt (a b : Nat) (hb : b < 25) (h : a < b) : FloatKind.f64.format.order (fl a) (fl b) = some .lt := by
  rw [fl_order a b (by omega) hb]; simp [Nat.compare_eq_lt, h]

theorem fl_eq (a : Nat) (ha : a < 25) : FloatKind.f64.format.order (fl a) (fl a) = some .eq := by
  rw [fl_order a a ha ha]; simp

theorem fl_zero (a : Nat) (ha : a < 25) : (FloatKind.f64.format.order (fl a) 0 == some .gt || FloatKind.f64.format.order (fl a) 0 == some .eq) = true := by
  have h : ∀ a : Fin 25, (FloatKind.f64.format.order (fl a.val) 0 == some .gt || FloatKind.f64.format.order (fl a.val) 0 == some .eq) = true := by decide +kernel
  exact h ⟨a, ha⟩

theorem fl_back (a : Nat) (ha : a < 25) : floatToIntVal .f64 (fl a) .i64 = some (a : Int) := by
  have h : ∀ a : Fin 25, floatToIntVal .f64 (fl a.val) .i64 = some (a.val : Int) := by decide +kernel
  exact h ⟨a, ha⟩

theorem half_zero : (FloatKind.f64.format.order 4602678819172646912 0 == some .gt || FloatKind.f64.format.order 4602678819172646912 0 == some .eq) = true := by decide +kernel
theorem half_lt : FloatKind.f64.format.order 4602678819172646912 (fl 24) = some .lt := by decide +kernel
theorem half_back : floatToIntVal .f64 4602678819172646912 .i64 = some 0 := by decide +kernel
theorem half_not : FloatKind.f64.format.order (fl 0) 4602678819172646912 = some .lt := by decide +kernel
theorem three : fl 3 = 4613937818241073152 := by decide +kernel
theorem two : fl 2 = 4611686018427387904 := by decide +kernel
end Go.Proofs.Ytmgeifolgdgapaa
