/- What index, Parts, isWidth and Flat of package axis answer at places: a contract each (a part of XAxisWalks, for seats that reach no other function of it). -/
import Derived.Test.YtdocclkphffpkaaGreatAxisFloats
import Derived.Test.YtdocclkphffpkaaGreatRows
import Derived.WalkKit
import Derived.WalkSpells
import Derived.WalkLawsBesides
import Derived.Deep.QuietTactic
import Derived.BigQuiet
import Derived.Lib.Hide
namespace Go.Proofs.YtdocclkphffpkaaGreat
open Go.RowKit

set_option maxHeartbeats 400000 in
theorem index_any (a m : Nat) (w : World) (hm : m < 25) (h : a < m) :
    Calls Tryz.prog 117 #[.float .f64 (fl a), .int .i64 (m : Int)] w fun e w' => e = .returned (.tuple #[.int .i64 (a : Int), .bool true]) ∧ w = w' := by
  have h1 := fl_zero a (by omega)
  have h2 : FloatKind.f64.format.order (fl a) (floatOfInt .f64 (m : Int)) = some .lt := fl_lt a m (by omega) h
  have h3 : FloatKind.f64.format.order (floatOfInt .f64 (a : Int)) (fl a) = some .eq := fl_eq a (by omega)
  have h4 := fun w => run_convert_float_int (P := Tryz.prog) w 104 3 .f64 .i64 (fl a) a (by kernel_rfl) Tryz.underlying3 (fl_back a (by omega))
  go_enter Tryz.func117, Tryz.ntmps117
  go_wp2
  go_ret2
  exact ⟨rfl, rfl⟩

theorem parts_any (a b : Nat) (w : World) (ha : a < 24) (hb : b < 16) :
    Calls Tryz.prog 107 #[.complex .f64 (fl a) (fl b)] w fun e w' => e = .returned (.tuple #[.int .i64 (a : Int), .int .i64 (b : Int), .int .i64 0]) ∧ w = w' := by
  go_enter Tryz.func107, Tryz.ntmps107
  go_wp2_with fail
  refine (index_any a 24 _ (by omega) ha).mono ?_
  rintro e w' ⟨rfl, rfl⟩
  go_wp2_with fail
  refine (index_any b 16 _ (by omega) hb).mono ?_
  rintro e w' ⟨rfl, rfl⟩
  go_wp2
  go_ret3
  exact ⟨rfl, rfl⟩

theorem width_any (n : Int) (w : World) (h1 : 1 ≤ n) (h2 : n ≤ 16) :
    Calls Tryz.prog 106 #[.int .i64 n] w fun e w' => e = .returned (.bool true) ∧ w = w' := by
  go_enter Tryz.func106, Tryz.ntmps106
  go_wp2
  go_ret
  exact ⟨rfl, rfl⟩

theorem flat_any (a b : Nat) (n : Int) (w : World) (ha : a < 24) (h1 : 1 ≤ n) (h2 : n ≤ 16) (hb : (b : Int) < n) :
    Calls Tryz.prog 92 #[.complex .f64 (fl a) (fl b), .int .i64 n] w fun e w' => e = .returned (.tuple #[.int .i64 ((a : Int) * n + b), .int .i64 0]) ∧ w = w' := by
  have hm : (a : Int) * n ≤ 23 * 16 := Int.mul_le_mul (by omega) h2 (by omega) (by omega)
  have hm0 : 0 ≤ (a : Int) * n := Int.mul_nonneg (by omega) (by omega)
  go_enter Tryz.func92, Tryz.ntmps92
  go_wp2_with fail
  refine (width_any n _ h1 h2).mono ?_
  rintro e w' ⟨rfl, rfl⟩
  go_wp2_with fail
  refine (parts_any a b _ ha (by omega)).mono ?_
  rintro e w' ⟨rfl, rfl⟩
  go_wp2
  go_ret2
  exact ⟨rfl, rfl⟩

theorem fl_int {x : Int} (h : 0 ≤ x) : floatOfInt .f64 x = fl x.toNat := by unfold fl; rw [Int.toNat_of_nonneg h]
theorem fl_none : floatOfInt .f64 0 = 0 := by decide +kernel

theorem flat_int (x y n : Int) (w : World) (hx0 : 0 ≤ x) (hx : x < 24) (h1 : 1 ≤ n) (h2 : n ≤ 16) (hy0 : 0 ≤ y) (hy : y < n) :
    Calls Tryz.prog 92 #[.complex .f64 (floatOfInt .f64 x) (floatOfInt .f64 y), .int .i64 n] w fun e w' => e = .returned (.tuple #[.int .i64 (x * n + y), .int .i64 0]) ∧ w = w' := by
  have h := flat_any x.toNat y.toNat n w (by omega) h1 h2 (by omega)
  rw [← fl_int hx0, ← fl_int hy0, Int.toNat_of_nonneg hx0, Int.toNat_of_nonneg hy0] at h
  exact h
theorem lt_int {x y : Int} (h0 : 0 ≤ x) (h : x < y) (hy : y < 25) : FloatKind.f64.format.order (floatOfInt .f64 x) (floatOfInt .f64 y) = some .lt := by
  rw [fl_int h0, fl_int (by omega)]; exact fl_lt _ _ (by omega) (by omega)
end Go.Proofs.YtdocclkphffpkaaGreat
