
/- Whether small numbers are a delta: the package's answer. -/
import Derived.Test.YtmgeifolgdgapaaDeCheck
namespace Go.Proofs.Ytmgeifolgdgapaa
open Go.RowKit

theorem isVolume_any (v : Nat) (w : World) :
    Calls Try.prog 42 #[.int .i64 (v : Int)] w fun e w' => e = .returned (.bool (decide (v < 8))) ∧ w = w' := by
  by_cases h : v < 8
  · rw [decide_eq_true h]
    have d : decide ((v : Int) < 8) = true := by simp; omega
    go_enter Try.func42, Try.ntmps42
    go_wp2
    go_ret
    exact ⟨rfl, rfl⟩
  · rw [decide_eq_false h]
    have d : decide ((v : Int) < 8) = false := by simp; omega
    go_enter Try.func42, Try.ntmps42
    go_wp2
    go_ret
    exact ⟨rfl, rfl⟩
theorem isSize_byte (n : Nat) (w : World) :
    Calls Try.prog 53 #[.int .i64 (n : Int)] w fun e w' => e = .returned (.bool (decide (1 ≤ n ∧ n ≤ 32))) ∧ w = w' := by
  by_cases h1 : 1 ≤ n
  · by_cases h2 : n ≤ 32
    · rw [decide_eq_true ⟨h1, h2⟩]
      have d : decide ((n : Int) ≤ 32) = true := by simp; omega
      go_enter Try.func53, Try.ntmps53
      go_wp2
      go_ret
      exact ⟨rfl, rfl⟩
    · rw [decide_eq_false fun h => h2 h.2]
      have d : decide ((n : Int) ≤ 32) = false := by simp; omega
      go_enter Try.func53, Try.ntmps53
      go_wp2
      go_ret
      exact ⟨rfl, rfl⟩
  · rw [decide_eq_false fun h => h1 h.1]
    go_enter Try.func53, Try.ntmps53
    go_wp2
    go_ret
    exact ⟨rfl, rfl⟩

theorem delta_size : (Try.prog.info? 52).map (·.size) = some 5 := by kernel_rfl
theorem second_new (w : World) (X Y : Obj) : ((w.alloc X).alloc Y).heap[w.heap.size + 1]? = some Y := by
  have h := heap_alloc_new (w.alloc X) Y
  rw [World.size_alloc] at h
  exact h
theorem put_complex (a : Addr) (x y : Nat) (m : Mode) (w : World) : (store a (.complex .f64 x y) m).run Try.prog w = stored Try.prog w a (.complex .f64 x y) m := run_store Try.prog w a _ m rfl

set_option maxRecDepth 100000 in
set_option maxHeartbeats 800000 in
theorem other1 (v o n a b : Nat) (w : World) :
    Calls Try.prog 44 #[.agg #[.int .i64 1, .int .i64 (v : Int), .int .i64 (o : Int), .int .i64 (n : Int), .complex .f64 (fl a) (fl b)]] w fun e w' => e = .returned (.agg #[.int .i64 0, .int .i64 0, .int .i64 (o : Int), .int .i64 0, .complex .f64 (fl a) (fl b)]) ∧ Below w.heap.size w w' := by
  have hst := put_complex
  go_enter Try.func44, Try.ntmps44
  go_wp2
  refine bodyPost_ret (results_cell_row (fn := Try.f44) rfl _ _ (w.heap.size + 1) 52 _ (0, 0) _ rfl (second_new w _ _) Try.underlying52 rfl delta_size) rfl ?_
  exact ⟨rfl, ((Below.refl _ w).alloc (Nat.le_refl _) _).alloc (by simp) _⟩

set_option maxRecDepth 100000 in
set_option maxHeartbeats 800000 in
theorem other2 (v o n a b : Nat) (w : World) :
    Calls Try.prog 44 #[.agg #[.int .i64 2, .int .i64 (v : Int), .int .i64 (o : Int), .int .i64 (n : Int), .complex .f64 (fl a) (fl b)]] w fun e w' => e = .returned (.agg #[.int .i64 0, .int .i64 0, .int .i64 (o : Int), .int .i64 (n : Int), .complex .f64 (fl a) (fl b)]) ∧ Below w.heap.size w w' := by
  have hst := put_complex
  go_enter Try.func44, Try.ntmps44
  go_wp2
  refine bodyPost_ret (results_cell_row (fn := Try.f44) rfl _ _ (w.heap.size + 1) 52 _ (0, 0) _ rfl (second_new w _ _) Try.underlying52 rfl delta_size) rfl ?_
  exact ⟨rfl, ((Below.refl _ w).alloc (Nat.le_refl _) _).alloc (by simp) _⟩

set_option maxRecDepth 100000 in
set_option maxHeartbeats 800000 in
theorem other3 (v o n a b : Nat) (w : World) :
    Calls Try.prog 44 #[.agg #[.int .i64 3, .int .i64 (v : Int), .int .i64 (o : Int), .int .i64 (n : Int), .complex .f64 (fl a) (fl b)]] w fun e w' => e = .returned (.agg #[.int .i64 0, .int .i64 0, .int .i64 0, .int .i64 (n : Int), .complex .f64 (fl a) (fl b)]) ∧ Below w.heap.size w w' := by
  have hst := put_complex
  go_enter Try.func44, Try.ntmps44
  go_wp2
  refine bodyPost_ret (results_cell_row (fn := Try.f44) rfl _ _ (w.heap.size + 1) 52 _ (0, 0) _ rfl (second_new w _ _) Try.underlying52 rfl delta_size) rfl ?_
  exact ⟨rfl, ((Below.refl _ w).alloc (Nat.le_refl _) _).alloc (by simp) _⟩

set_option maxRecDepth 100000 in
set_option maxHeartbeats 800000 in
theorem other4 (v o n a b : Nat) (w : World) :
    Calls Try.prog 44 #[.agg #[.int .i64 4, .int .i64 (v : Int), .int .i64 (o : Int), .int .i64 (n : Int), .complex .f64 (fl a) (fl b)]] w fun e w' => e = .returned (.agg #[.int .i64 0, .int .i64 0, .int .i64 (o : Int), .int .i64 0, .complex .f64 0 0]) ∧ Below w.heap.size w w' := by
  have hst := put_complex
  go_enter Try.func44, Try.ntmps44
  go_wp2
  refine bodyPost_ret (results_cell_row (fn := Try.f44) rfl _ _ (w.heap.size + 1) 52 _ (0, 0) _ rfl (second_new w _ _) Try.underlying52 rfl delta_size) rfl ?_
  exact ⟨rfl, ((Below.refl _ w).alloc (Nat.le_refl _) _).alloc (by simp) _⟩

set_option maxRecDepth 100000 in
set_option maxHeartbeats 800000 in
theorem other5 (v o n a b : Nat) (w : World) :
    Calls Try.prog 44 #[.agg #[.int .i64 5, .int .i64 (v : Int), .int .i64 (o : Int), .int .i64 (n : Int), .complex .f64 (fl a) (fl b)]] w fun e w' => e = .returned (.agg #[.int .i64 0, .int .i64 0, .int .i64 (o : Int), .int .i64 0, .complex .f64 (fl a) (fl b)]) ∧ Below w.heap.size w w' := by
  have hst := put_complex
  go_enter Try.func44, Try.ntmps44
  go_wp2
  refine bodyPost_ret (results_cell_row (fn := Try.f44) rfl _ _ (w.heap.size + 1) 52 _ (0, 0) _ rfl (second_new w _ _) Try.underlying52 rfl delta_size) rfl ?_
  exact ⟨rfl, ((Below.refl _ w).alloc (Nat.le_refl _) _).alloc (by simp) _⟩

end Go.Proofs.Ytmgeifolgdgapaa
