/- What Place and Step answer, at numbers that are places' and at others. -/
import Derived.Test.YthlpiigdpdedgaaAxisWalks
import Derived.IntWalk
namespace Go.Proofs.Ythlpiigdpdedgaa
open Go.RowKit

theorem compose_int (x y : Int) (w : World) :
    Calls Try.prog 10 #[.int .i64 x, .int .i64 y] w fun e w' => e = .returned (.complex .f64 (floatOfInt .f64 x) (floatOfInt .f64 y)) ∧ w' = w := by
  go_enter Try.func10, Try.ntmps10
  go_wp2
  go_ret
  exact ⟨rfl, rfl⟩

theorem fl_int {x : Int} (h : 0 ≤ x) : floatOfInt .f64 x = fl x.toNat := by unfold fl; rw [Int.toNat_of_nonneg h]

/-- 'e' is the answer 'v', and nothing but draws has happened. -/
def Drawn (v : Value) (w : World) (e : Ending) (w' : World) : Prop := ∃ nq : Nat, e = .returned v ∧ w.drewN nq = w'

set_option maxHeartbeats 400000 in
theorem place_any (k n : Int) (w : World) (h1 : 1 ≤ n) (h2 : n ≤ 16) (hk : 0 ≤ k) (hk2 : k < 24 * n) :
    Calls Try.prog 5 #[.int .i64 k, .int .i64 n] w (Drawn (.tuple #[.complex .f64 (fl (k / n).toNat) (fl (k % n).toNat), .int .i64 0]) w) := by
  have hn : ¬ n = 0 := by omega
  have hd0 : 0 ≤ k / n := Int.ediv_nonneg hk (by omega)
  have hd1 : k / n < 24 := Int.ediv_lt_of_lt_mul (by omega) hk2
  have hm0 : 0 ≤ k % n := Int.emod_nonneg k (by omega)
  have hq : IntKind.i64.wrap (k.tdiv n) = k / n := by rw [Int.tdiv_eq_ediv_of_nonneg hk]; exact IntWalk.i64_in _ (by omega)
  have hr : k.tmod n = k % n := Int.tmod_eq_emod_of_nonneg hk
  go_enter Try.func5, Try.ntmps5
  go_wp2_with fail
  refine (width_any n _ h1 h2).mono ?_
  rintro e w' ⟨rfl, rfl⟩
  go_wp2
  go_quiet ((go_at_call 10; exact Calls.quiet_of_same (compose_int _ _ _)))
  go_wp2
  go_ret2
  refine ⟨_, ?_, rfl⟩
  show Ending.returned (.tuple #[.complex .f64 (floatOfInt .f64 (k / n)) (floatOfInt .f64 (k % n)), .int .i64 0]) = _
  rw [fl_int hd0, fl_int hm0]

theorem place_out (k n : Int) (w : World) (h1 : 1 ≤ n) (h2 : n ≤ 16) (hk : k < 0 ∨ 24 * n ≤ k) :
    Calls Try.prog 5 #[.int .i64 k, .int .i64 n] w fun e w' => e = .returned (.tuple #[.complex .f64 0 0, .int .i64 5]) ∧ w = w' := by
  rcases hk with hk | hk
  · go_enter Try.func5, Try.ntmps5
    go_wp2_with fail
    refine (width_any n _ h1 h2).mono ?_
    rintro e w' ⟨rfl, rfl⟩
    go_wp2
    go_ret2
    exact ⟨rfl, rfl⟩
  · have hk' : ¬ k < 0 := by omega
    go_enter Try.func5, Try.ntmps5
    go_wp2_with fail
    refine (width_any n _ h1 h2).mono ?_
    rintro e w' ⟨rfl, rfl⟩
    go_wp2
    go_ret2
    exact ⟨rfl, rfl⟩

/-- A step that stays among the places. -/
theorem step_any (a b : Nat) (k n : Int) (w : World) (ha : a < 24) (h1 : 1 ≤ n) (h2 : n ≤ 16) (hb : (b : Int) < n) (hk : 0 ≤ (a : Int) * n + b + k) (hk2 : (a : Int) * n + b + k < 24 * n) :
    Calls Try.prog 6 #[.complex .f64 (fl a) (fl b), .int .i64 k, .int .i64 n] w
      (Drawn (.tuple #[.complex .f64 (fl (((a : Int) * n + b + k) / n).toNat) (fl (((a : Int) * n + b + k) % n).toNat), .int .i64 0]) w) := by
  have hm : (a : Int) * n ≤ 23 * 16 := Int.mul_le_mul (by omega) h2 (by omega) (by omega)
  have hm0 : 0 ≤ (a : Int) * n := Int.mul_nonneg (by omega) (by omega)
  have hkk : k ≤ 24 * n := by omega
  go_enter Try.func6, Try.ntmps6
  go_wp2_with fail
  refine (flat_any a b n _ ha h1 h2 hb).mono ?_
  rintro e w' ⟨rfl, rfl⟩
  go_wp2_with fail
  refine (place_any ((a : Int) * n + b + k) n _ h1 h2 hk hk2).mono ?_
  rintro e w' ⟨nq, rfl, rfl⟩
  go_wp2
  go_ret2
  exact ⟨_, rfl, rfl⟩

/-- A step that leads out of them. -/
theorem step_out (a b : Nat) (k n : Int) (w : World) (ha : a < 24) (h1 : 1 ≤ n) (h2 : n ≤ 16) (hb : (b : Int) < n) (hlo : -1000000 ≤ k) (hk : (a : Int) * n + b + k < 0 ∨ 24 * n ≤ (a : Int) * n + b + k) :
    Calls Try.prog 6 #[.complex .f64 (fl a) (fl b), .int .i64 k, .int .i64 n] w fun e w' => e = .returned (.tuple #[.complex .f64 0 0, .int .i64 5]) ∧ w = w' := by
  have hm : (a : Int) * n ≤ 23 * 16 := Int.mul_le_mul (by omega) h2 (by omega) (by omega)
  have hm0 : 0 ≤ (a : Int) * n := Int.mul_nonneg (by omega) (by omega)
  by_cases hkk : k ≤ 24 * n
  · go_enter Try.func6, Try.ntmps6
    go_wp2_with fail
    refine (flat_any a b n _ ha h1 h2 hb).mono ?_
    rintro e w' ⟨rfl, rfl⟩
    go_wp2_with fail
    refine (place_out ((a : Int) * n + b + k) n _ h1 h2 hk).mono ?_
    rintro e w' ⟨rfl, rfl⟩
    go_wp2
    go_ret2
    exact ⟨rfl, rfl⟩
  · go_enter Try.func6, Try.ntmps6
    go_wp2_with fail
    refine (flat_any a b n _ ha h1 h2 hb).mono ?_
    rintro e w' ⟨rfl, rfl⟩
    go_wp2
    go_ret2
    exact ⟨rfl, rfl⟩

end Go.Proofs.Ythlpiigdpdedgaa
