/- What compose, Place and Step of package axis answer at places: a contract each (a part of XAxisPlace over XAxisFlat, for seats that reach no other function of it). -/
import Derived.Test.YtokklimfncljnaaAxisFlat
import Derived.Test.YtokklimfncljnaaLawKit
import Derived.IntWalk
namespace Go.Proofs.Ytokklimfncljnaa
open Go.RowKit

theorem compose_int (x y : Int) (w : World) :
    Calls Try.prog 32 #[.int .i64 x, .int .i64 y] w fun e w' => e = .returned (.complex .f64 (floatOfInt .f64 x) (floatOfInt .f64 y)) ∧ w' = w := by
  go_enter Try.func32, Try.ntmps32
  go_wp2
  go_ret
  exact ⟨rfl, rfl⟩

set_option maxHeartbeats 400000 in
theorem place_any (k n : Int) (w : World) (h1 : 1 ≤ n) (h2 : n ≤ 16) (hk : 0 ≤ k) (hk2 : k < 24 * n) :
    Calls Try.prog 28 #[.int .i64 k, .int .i64 n] w (Drawn (.tuple #[.complex .f64 (fl (k / n).toNat) (fl (k % n).toNat), .int .i64 0]) w) := by
  have hn : ¬ n = 0 := by omega
  have hd0 : 0 ≤ k / n := Int.ediv_nonneg hk (by omega)
  have hd1 : k / n < 24 := Int.ediv_lt_of_lt_mul (by omega) hk2
  have hm0 : 0 ≤ k % n := Int.emod_nonneg k (by omega)
  have hq : IntKind.i64.wrap (k.tdiv n) = k / n := by rw [Int.tdiv_eq_ediv_of_nonneg hk]; exact IntWalk.i64_in _ (by omega)
  have hr : k.tmod n = k % n := Int.tmod_eq_emod_of_nonneg hk
  go_enter Try.func28, Try.ntmps28
  go_wp2_with fail
  refine (width_any n _ h1 h2).mono ?_
  rintro e w' ⟨rfl, rfl⟩
  go_wp2
  go_quiet ((go_at_call 32; exact Calls.quiet_of_same (compose_int _ _ _)))
  go_wp2
  go_ret2
  refine ⟨_, ?_, rfl⟩
  show Ending.returned (.tuple #[.complex .f64 (floatOfInt .f64 (k / n)) (floatOfInt .f64 (k % n)), .int .i64 0]) = _
  rw [fl_int hd0, fl_int hm0]

/-- A step that stays among the places. -/
theorem step_any (a b : Nat) (k n : Int) (w : World) (ha : a < 24) (h1 : 1 ≤ n) (h2 : n ≤ 16) (hb : (b : Int) < n) (hk : 0 ≤ (a : Int) * n + b + k) (hk2 : (a : Int) * n + b + k < 24 * n) :
    Calls Try.prog 24 #[.complex .f64 (fl a) (fl b), .int .i64 k, .int .i64 n] w
      (Drawn (.tuple #[.complex .f64 (fl (((a : Int) * n + b + k) / n).toNat) (fl (((a : Int) * n + b + k) % n).toNat), .int .i64 0]) w) := by
  have hm : (a : Int) * n ≤ 23 * 16 := Int.mul_le_mul (by omega) h2 (by omega) (by omega)
  have hm0 : 0 ≤ (a : Int) * n := Int.mul_nonneg (by omega) (by omega)
  have hkk : k ≤ 24 * n := by omega
  go_enter Try.func24, Try.ntmps24
  go_wp2_with fail
  refine (flat_any a b n _ ha h1 h2 hb).mono ?_
  rintro e w' ⟨rfl, rfl⟩
  go_wp2_with fail
  refine (place_any ((a : Int) * n + b + k) n _ h1 h2 hk hk2).mono ?_
  rintro e w' ⟨nq, rfl, rfl⟩
  go_wp2
  go_ret2
  exact ⟨_, rfl, rfl⟩

/-- No step at all. -/
theorem step_still (a b : Nat) (w : World) (ha : a < 24) (hb : b < 16) :
    Calls Try.prog 24 #[.complex .f64 (fl a) (fl b), .int .i64 0, .int .i64 16] w (Drawn (.tuple #[.complex .f64 (fl a) (fl b), .int .i64 0]) w) := by
  have h := step_any a b 0 16 w ha (by omega) (by omega) (by omega) (by omega) (by omega)
  rw [show (((a : Int) * 16 + b + 0) / 16).toNat = a by omega, show (((a : Int) * 16 + b + 0) % 16).toNat = b by omega] at h
  exact h
end Go.Proofs.Ytokklimfncljnaa
