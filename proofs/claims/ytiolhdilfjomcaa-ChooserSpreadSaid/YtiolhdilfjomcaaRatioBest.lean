/- What Best answers, and the document's own answer: a contract each, over any two slices that read as lists. -/
import Derived.Test.YtiolhdilfjomcaaRatioRef
import Derived.Test.YtiolhdilfjomcaaRatioFirst
import Derived.Deep.Draws
namespace Go.Proofs.Ytiolhdilfjomcaa
open Go.RowKit

/-- How Best's loop stands. -/
def BestLoop (X Y : Nat → Int) (j : Nat) (w : World) (b k : Value) (wr : World) : Prop :=
  ∃ i m : Nat, i ≤ j ∧ k = .int .i64 (i : Int) ∧ b = .int .i64 (best X Y i : Int) ∧ w.drewN m = wr

theorem best_err (A B : Option Addr) (n m c d : Nat) (w : World) (hn : n ≤ 9223372036854775807) (hm : m ≤ 9223372036854775807) (h : n ≠ m ∨ n = 0 ∨ 4096 < n) :
    Calls Try.prog 15 #[.slice A n c, .slice B m d] w fun e w' => e = .returned (.tuple #[.int .i64 0, .int .i64 1]) ∧ w = w' := by
  by_cases h1 : n = m
  · subst h1
    rcases h with h | h | h
    · exact absurd rfl h
    · subst h
      go_enter Try.func15, Try.ntmps15
      go_wp2
      go_ret2
      exact ⟨rfl, rfl⟩
    · go_enter Try.func15, Try.ntmps15
      go_wp2
      go_ret2
      exact ⟨rfl, rfl⟩
  · clear h
    go_enter Try.func15, Try.ntmps15
    go_wp2
    go_ret2
    exact ⟨rfl, rfl⟩

theorem best_any (X Y : Nat → Int) (A B : Addr) (n j c d : Nat) (w : World) (hn : 0 < n) (hn' : n ≤ 4096) (hj : j ≤ n)
    (hx : ∀ t, t < n → w.cell? (A.add t) = some (.int .i64 (X t))) (hy : ∀ t, t < n → w.cell? (B.add t) = some (.int .i64 (Y t)))
    (hf : ∀ i, i < j → Fit (X i) (Y i)) (hno : j < n → ¬ Fit (X j) (Y j)) :
    Calls Try.prog 15 #[.slice (some A) n c, .slice (some B) n d] w (Drawn (.tuple #[.int .i64 (bestAt X Y n j), .int .i64 (bestErr n j)]) w) := by
  have hz : ((n : Int) == 0) = false := by simp; omega
  go_enter Try.func15, Try.ntmps15
  go_wp2
  go_loopw [6, 28] (fun b k wr => BestLoop X Y j w b k wr) (fun _ k _ => n - (intOf k).toNat)
  case atStart => exact ⟨0, 0, by omega, rfl, rfl, rfl⟩
  case round =>
    obtain ⟨i, m, hi, rfl, rfl, hw⟩ := hrel
    by_cases hin : i < n
    · have hb := best_lt X Y (k := i) (n := n) (by omega) hn
      have gx : wr.cell? (A.add i) = some (.int .i64 (X i)) := by rw [← hw]; exact hx i hin
      have gy : wr.cell? (B.add i) = some (.int .i64 (Y i)) := by rw [← hw]; exact hy i hin
      have gx' : wr.cell? (A.add (best X Y i)) = some (.int .i64 (X (best X Y i))) := by rw [← hw]; exact hx _ hb
      have gy' : wr.cell? (B.add (best X Y i)) = some (.int .i64 (Y (best X Y i))) := by rw [← hw]; exact hy _ hb
      have HW := Lib.hid hw
      clear hw hx hy
      by_cases hij : i < j
      · have f1 := hf i hij
        have f2 : Fit (X (best X Y i)) (Y (best X Y i)) := by
          by_cases h0 : i = 0
          · rw [h0] at hij ⊢; exact hf _ hij
          · exact hf _ (by have := best_lt X Y (k := i) (n := i) (Nat.le_refl _) (by omega); omega)
        clear hf hno hz
        obtain ⟨b, eb⟩ : ∃ b, b = best X Y i := ⟨_, rfl⟩
        rw [← eb] at gx' gy' hb f2
        rw [← eb]
        have EB := Lib.hid eb
        clear eb
        obtain ⟨r, er⟩ : ∃ r, r = rel (X i) (Y i) (X b) (Y b) := ⟨_, rfl⟩
        have hc : ∀ W, Calls Try.prog 23 #[.int .i64 (X i), .int .i64 (Y i), .int .i64 (X b), .int .i64 (Y b)] W fun e w' => e = .returned (.tuple #[.int .i64 r, .int .i64 0]) ∧ w' = W := fun W => by
          rw [er]; exact same_turned (compare_yes _ _ _ _ _ f1 f2)
        have ER := Lib.hid er
        have HC := Lib.hid hc
        clear er hc f1 f2
        by_cases hr : 0 < r
        · go_wp2
          go_quiet ((go_at_call 23; exact Calls.quiet_of_same (HC.out _)))
          go_wp2
          go_roundw
          case rel => exact ⟨i + 1, m + _, by omega, by go_num, by rw [best_up (by rw [← EB.out, ← ER.out]; exact hr)], by rw [← HW.out, World.drewN_drewN]⟩
          case measure => simp [intOf]; omega
        · go_wp2
          go_quiet ((go_at_call 23; exact Calls.quiet_of_same (HC.out _)))
          go_wp2
          go_roundw
          case rel => exact ⟨i + 1, m + _, by omega, by go_num, by rw [best_stays (by rw [← EB.out, ← ER.out]; omega), EB.out], by rw [← HW.out, World.drewN_drewN]⟩
          case measure => simp [intOf]; omega
      · obtain rfl : i = j := by omega
        have hc : ∀ W, Calls Try.prog 23 #[.int .i64 (X i), .int .i64 (Y i), .int .i64 (X (best X Y i)), .int .i64 (Y (best X Y i))] W fun e w' => e = .returned (.tuple #[.int .i64 0, .int .i64 1]) ∧ w' = W := fun W =>
          same_turned (compare_no _ _ _ _ _ (fun h => hno hin h.1))
        have HC := Lib.hid hc
        clear hc hf hno hz
        go_wp2
        go_quiet ((go_at_call 23; exact Calls.quiet_of_same (HC.out _)))
        go_wp2
        go_ret2
        refine drawn_end HW.out ?_
        unfold bestAt bestErr
        rw [if_neg (by omega), if_neg (by omega)]
        rfl
    · obtain rfl : i = n := by omega
      obtain rfl : i = j := by omega
      have HW := Lib.hid hw
      clear hw hx hy hf hno hz
      go_wp2
      go_ret2
      refine ⟨m, ?_, HW.out⟩
      unfold bestAt bestErr
      rw [if_pos rfl, if_pos rfl]
      rfl

end Go.Proofs.Ytiolhdilfjomcaa
