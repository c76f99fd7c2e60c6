
/- Whether a delta's own fields may be: the package's answer. -/
import Derived.Test.YtmgeifolgdgapaaDeOwn
namespace Go.Proofs.Ytmgeifolgdgapaa
open Go.RowKit

set_option maxRecDepth 100000 in
set_option maxHeartbeats 800000 in
theorem fields1 (v o n a b : Nat) (w : World) :
    Calls Try.prog 43 #[.agg #[.int .i64 1, .int .i64 (v : Int), .int .i64 (o : Int), .int .i64 (n : Int), .complex .f64 (fl a) (fl b)]] w (Fresh (.bool (decide (1 ≤ n ∧ n ≤ 32))) w) := by
  have hc := isSize_byte n
  obtain ⟨x, hx⟩ : ∃ x, x = decide (1 ≤ n ∧ n ≤ 32) := ⟨_, rfl⟩
  rw [← hx] at hc ⊢
  have HC := Lib.hid hc
  clear hc hx
  go_enter Try.func43, Try.ntmps43
  go_wp2_with fail
  with_reducible refine (HC.out _).mono ?_
  rintro e w1 ⟨rfl, rfl⟩
  go_wp2
  go_ret
  exact ⟨rfl, (Below.refl _ w).alloc (Nat.le_refl _) _⟩

set_option maxRecDepth 100000 in
set_option maxHeartbeats 800000 in
theorem fields2 (v o n a b : Nat) (w : World) :
    Calls Try.prog 43 #[.agg #[.int .i64 2, .int .i64 (v : Int), .int .i64 (o : Int), .int .i64 (n : Int), .complex .f64 (fl a) (fl b)]] w (Fresh (.bool true) w) := by
  go_enter Try.func43, Try.ntmps43
  go_wp2
  go_ret
  exact ⟨rfl, (Below.refl _ w).alloc (Nat.le_refl _) _⟩

set_option maxRecDepth 100000 in
set_option maxHeartbeats 800000 in
theorem fields3 (v o n a b : Nat) (w : World) :
    Calls Try.prog 43 #[.agg #[.int .i64 3, .int .i64 (v : Int), .int .i64 (o : Int), .int .i64 (n : Int), .complex .f64 (fl a) (fl b)]] w (Fresh (.bool (decide (o < 8 ∧ o ≠ v))) w) := by
  have hc := isVolume_any o
  by_cases h1 : o < 8
  · rw [decide_eq_true h1] at hc
    have HC := Lib.hid hc
    clear hc
    rcases same_int o v with ⟨h2, y, z⟩ | ⟨h2, y, z⟩
    · rw [decide_eq_false fun h => h.2 h2]
      clear h2
      go_enter Try.func43, Try.ntmps43
      go_wp2_with fail
      with_reducible refine (HC.out _).mono ?_
      rintro e w1 ⟨rfl, rfl⟩
      go_wp2
      go_ret
      exact ⟨rfl, (Below.refl _ w).alloc (Nat.le_refl _) _⟩
    · rw [decide_eq_true ⟨h1, h2⟩]
      clear h2
      go_enter Try.func43, Try.ntmps43
      go_wp2_with fail
      with_reducible refine (HC.out _).mono ?_
      rintro e w1 ⟨rfl, rfl⟩
      go_wp2
      go_ret
      exact ⟨rfl, (Below.refl _ w).alloc (Nat.le_refl _) _⟩
  · rw [decide_eq_false h1] at hc
    rw [decide_eq_false fun h => h1 h.1]
    have HC := Lib.hid hc
    clear hc
    go_enter Try.func43, Try.ntmps43
    go_wp2_with fail
    with_reducible refine (HC.out _).mono ?_
    rintro e w1 ⟨rfl, rfl⟩
    go_wp2
    go_ret
    exact ⟨rfl, (Below.refl _ w).alloc (Nat.le_refl _) _⟩

set_option maxRecDepth 100000 in
set_option maxHeartbeats 800000 in
theorem fields4 (v o n a b : Nat) (w : World) (h5 : a < 256) (h6 : b < 256) :
    Calls Try.prog 43 #[.agg #[.int .i64 4, .int .i64 (v : Int), .int .i64 (o : Int), .int .i64 (n : Int), .complex .f64 (fl a) (fl b)]] w (Fresh (.bool (decide ((a < 24 ∧ b < 16) ∧ n < 32))) w) := by
  have hc := fun w => whole_byte a b w h5 h6
  by_cases h1 : a < 24 ∧ b < 16
  · rw [decide_eq_true h1] at hc
    have HC := Lib.hid hc
    have H1 := Lib.hid h1
    clear hc h1
    by_cases h2 : n < 32
    · have d : decide ((n : Int) < 32) = true := by simp; omega
      rw [decide_eq_true ⟨H1.out, h2⟩]
      go_enter Try.func43, Try.ntmps43
      go_wp2_with fail
      with_reducible refine (HC.out _).mono ?_
      rintro e w1 ⟨rfl, rfl⟩
      go_wp2
      go_ret
      exact ⟨rfl, (Below.refl _ w).alloc (Nat.le_refl _) _⟩
    · have d : decide ((n : Int) < 32) = false := by simp; omega
      rw [decide_eq_false fun h => h2 h.2]
      go_enter Try.func43, Try.ntmps43
      go_wp2_with fail
      with_reducible refine (HC.out _).mono ?_
      rintro e w1 ⟨rfl, rfl⟩
      go_wp2
      go_ret
      exact ⟨rfl, (Below.refl _ w).alloc (Nat.le_refl _) _⟩
  · rw [decide_eq_false h1] at hc
    rw [decide_eq_false fun h => h1 h.1]
    have HC := Lib.hid hc
    clear hc
    go_enter Try.func43, Try.ntmps43
    go_wp2_with fail
    with_reducible refine (HC.out _).mono ?_
    rintro e w1 ⟨rfl, rfl⟩
    go_wp2
    go_ret
    exact ⟨rfl, (Below.refl _ w).alloc (Nat.le_refl _) _⟩

set_option maxRecDepth 100000 in
set_option maxHeartbeats 800000 in
theorem fields5 (v o n a b : Nat) (w : World) :
    Calls Try.prog 43 #[.agg #[.int .i64 5, .int .i64 (v : Int), .int .i64 (o : Int), .int .i64 (n : Int), .complex .f64 (fl a) (fl b)]] w (Fresh (.bool (decide (n < 32))) w) := by
  by_cases h2 : n < 32
  · have d : decide ((n : Int) < 32) = true := by simp; omega
    rw [decide_eq_true h2]
    go_enter Try.func43, Try.ntmps43
    go_wp2
    go_ret
    exact ⟨rfl, (Below.refl _ w).alloc (Nat.le_refl _) _⟩
  · have d : decide ((n : Int) < 32) = false := by simp; omega
    rw [decide_eq_false h2]
    go_enter Try.func43, Try.ntmps43
    go_wp2
    go_ret
    exact ⟨rfl, (Below.refl _ w).alloc (Nat.le_refl _) _⟩

end Go.Proofs.Ytmgeifolgdgapaa
