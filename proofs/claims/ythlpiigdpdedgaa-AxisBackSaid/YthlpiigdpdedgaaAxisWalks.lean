/- What each function of package axis answers: a contract each, at places and widths. -/
import Derived.Test.YthlpiigdpdedgaaAxisFloats
import Derived.Test.YthlpiigdpdedgaaRows
import Derived.WalkKit
import Derived.WalkSpells
import Derived.WalkLawsBesides
import Derived.Deep.QuietTactic
import Derived.BigQuiet
import Derived.Lib.Hide
namespace Go.Proofs.Ythlpiigdpdedgaa
open Go.RowKit

set_option maxHeartbeats 400000 in
theorem index_any (a m : Nat) (w : World) (hm : m < 25) (h : a < m) :
    Calls Try.prog 12 #[.float .f64 (fl a), .int .i64 (m : Int)] w fun e w' => e = .returned (.tuple #[.int .i64 (a : Int), .bool true]) ∧ w = w' := by
  have h1 := fl_zero a (by omega)
  have h2 : FloatKind.f64.format.order (fl a) (floatOfInt .f64 (m : Int)) = some .lt := fl_lt a m (by omega) h
  have h3 : FloatKind.f64.format.order (floatOfInt .f64 (a : Int)) (fl a) = some .eq := fl_eq a (by omega)
  have h4 := fun w => run_convert_float_int (P := Try.prog) w 24 3 .f64 .i64 (fl a) a (by kernel_rfl) Try.underlying3 (fl_back a (by omega))
  go_enter Try.func12, Try.ntmps12
  go_wp2
  go_ret2
  exact ⟨rfl, rfl⟩

/-- One half is no whole number. -/
theorem index_half (w : World) :
    Calls Try.prog 12 #[.float .f64 4602678819172646912, .int .i64 ((24 : Nat) : Int)] w fun e w' => e = .returned (.tuple #[.int .i64 0, .bool false]) ∧ w = w' := by
  have h1 := half_zero
  have h2 : FloatKind.f64.format.order 4602678819172646912 (floatOfInt .f64 24) = some .lt := half_lt
  have h3 : FloatKind.f64.format.order (floatOfInt .f64 0) 4602678819172646912 = some .lt := half_not
  have h4 := fun w => run_convert_float_int (P := Try.prog) w 24 3 .f64 .i64 4602678819172646912 0 (by kernel_rfl) Try.underlying3 half_back
  go_enter Try.func12, Try.ntmps12
  go_wp2
  go_ret2
  exact ⟨rfl, rfl⟩

theorem parts_any (a b : Nat) (w : World) (ha : a < 24) (hb : b < 16) :
    Calls Try.prog 9 #[.complex .f64 (fl a) (fl b)] w fun e w' => e = .returned (.tuple #[.int .i64 (a : Int), .int .i64 (b : Int), .int .i64 0]) ∧ w = w' := by
  go_enter Try.func9, Try.ntmps9
  go_wp2_with fail
  refine (index_any a 24 _ (by omega) ha).mono ?_
  rintro e w' ⟨rfl, rfl⟩
  go_wp2_with fail
  refine (index_any b 16 _ (by omega) hb).mono ?_
  rintro e w' ⟨rfl, rfl⟩
  go_wp2
  go_ret3
  exact ⟨rfl, rfl⟩

theorem parts_half (w : World) :
    Calls Try.prog 9 #[.complex .f64 4602678819172646912 0] w fun e w' => e = .returned (.tuple #[.int .i64 0, .int .i64 0, .int .i64 2]) ∧ w = w' := by
  go_enter Try.func9, Try.ntmps9
  go_wp2_with fail
  refine (index_half _).mono ?_
  rintro e w' ⟨rfl, rfl⟩
  go_wp2
  go_ret3
  exact ⟨rfl, rfl⟩

theorem whole_any (a b : Nat) (w : World) (ha : a < 24) (hb : b < 16) :
    Calls Try.prog 11 #[.complex .f64 (fl a) (fl b)] w fun e w' => e = .returned (.bool true) ∧ w = w' := by
  go_enter Try.func11, Try.ntmps11
  go_wp2_with fail
  refine (parts_any a b _ ha hb).mono ?_
  rintro e w' ⟨rfl, rfl⟩
  go_wp2
  go_ret
  exact ⟨rfl, rfl⟩

theorem whole_half (w : World) :
    Calls Try.prog 11 #[.complex .f64 4602678819172646912 0] w fun e w' => e = .returned (.bool false) ∧ w = w' := by
  go_enter Try.func11, Try.ntmps11
  go_wp2_with fail
  refine (parts_half _).mono ?_
  rintro e w' ⟨rfl, rfl⟩
  go_wp2
  go_ret
  exact ⟨rfl, rfl⟩

theorem width_any (n : Int) (w : World) (h1 : 1 ≤ n) (h2 : n ≤ 16) :
    Calls Try.prog 8 #[.int .i64 n] w fun e w' => e = .returned (.bool true) ∧ w = w' := by
  go_enter Try.func8, Try.ntmps8
  go_wp2
  go_ret
  exact ⟨rfl, rfl⟩

theorem compose_any (a b : Nat) (w : World) :
    Calls Try.prog 10 #[.int .i64 (a : Int), .int .i64 (b : Int)] w fun e w' => e = .returned (.complex .f64 (fl a) (fl b)) ∧ w = w' := by
  go_enter Try.func10, Try.ntmps10
  go_wp2
  go_ret
  exact ⟨rfl, rfl⟩

/-- A place whose slot lies below the width: its number. -/
theorem flat_any (a b : Nat) (n : Int) (w : World) (ha : a < 24) (h1 : 1 ≤ n) (h2 : n ≤ 16) (hb : (b : Int) < n) :
    Calls Try.prog 4 #[.complex .f64 (fl a) (fl b), .int .i64 n] w fun e w' => e = .returned (.tuple #[.int .i64 ((a : Int) * n + b), .int .i64 0]) ∧ w = w' := by
  have hm : (a : Int) * n ≤ 23 * 16 := Int.mul_le_mul (by omega) h2 (by omega) (by omega)
  have hm0 : 0 ≤ (a : Int) * n := Int.mul_nonneg (by omega) (by omega)
  go_enter Try.func4, Try.ntmps4
  go_wp2_with fail
  refine (width_any n _ h1 h2).mono ?_
  rintro e w' ⟨rfl, rfl⟩
  go_wp2_with fail
  refine (parts_any a b _ ha (by omega)).mono ?_
  rintro e w' ⟨rfl, rfl⟩
  go_wp2
  go_ret2
  exact ⟨rfl, rfl⟩

end Go.Proofs.Ythlpiigdpdedgaa
