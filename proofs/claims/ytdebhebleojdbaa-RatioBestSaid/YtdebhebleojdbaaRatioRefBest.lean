/- The document's own answer for the first of the greatest of quotients: a contract, over any two slices that read as lists. -/
import Derived.Test.YtdebhebleojdbaaRatioBest
namespace Go.Proofs.Ytdebhebleojdbaa
open Go.RowKit

/-- How its first loop stands: the first i quotients may be. -/
def FitLoop (j : Nat) (w : World) (k : Value) (wr : World) : Prop := ∃ i m : Nat, i ≤ j ∧ k = .int .i64 (i : Int) ∧ w.drewN m = wr
/-- How its second loop stands: none ahead of i is the one. -/
def PickLoop (X Y : Nat → Int) (n : Nat) (w : World) (k : Value) (wr : World) : Prop := ∃ i m : Nat, i ≤ best X Y n ∧ k = .int .i64 (i : Int) ∧ w.drewN m = wr
/-- How the loop inside it stands: what holds of i against the first k. -/
def GoodLoop (X Y : Nat → Int) (n i : Nat) (w : World) (b k : Value) (wr : World) : Prop :=
  ∃ q m : Nat, q ≤ n ∧ k = .int .i64 (q : Int) ∧ b = .bool (allGood X Y i q) ∧ w.drewN m = wr

theorem refBest_err (A B : Option Addr) (n m c d : Nat) (w : World) (hn : n ≤ 9223372036854775807) (hm : m ≤ 9223372036854775807) (h : n ≠ m ∨ n = 0 ∨ 4096 < n) :
    Calls Try.prog 16 #[.slice A n c, .slice B m d] w fun e w' => e = .returned (.tuple #[.int .i64 0, .int .i64 1]) ∧ w = w' := by
  by_cases h1 : n = m
  · subst h1
    rcases h with h | h | h
    · exact absurd rfl h
    · subst h
      go_enter Try.func16, Try.ntmps16
      go_wp2
      go_ret2
      exact ⟨rfl, rfl⟩
    · go_enter Try.func16, Try.ntmps16
      go_wp2
      go_ret2
      exact ⟨rfl, rfl⟩
  · clear h
    go_enter Try.func16, Try.ntmps16
    go_wp2
    go_ret2
    exact ⟨rfl, rfl⟩

theorem good_lt {X Y : Nat → Int} {i k : Nat} (h : rel (X i) (Y i) (X k) (Y k) < 0) : good X Y i k = false := by
  unfold good; rw [decide_eq_true h]; rfl
theorem good_eq {X Y : Nat → Int} {i k : Nat} (h : rel (X i) (Y i) (X k) (Y k) = 0) (hk : k < i) : good X Y i k = false := by
  unfold good; rw [decide_eq_true h, decide_eq_true hk]; simp
theorem good_ge {X Y : Nat → Int} {i k : Nat} (h : rel (X i) (Y i) (X k) (Y k) = 0) (hk : ¬ k < i) : good X Y i k = true := by
  unfold good; rw [decide_eq_false (by omega), decide_eq_false hk]; simp
theorem good_gt {X Y : Nat → Int} {i k : Nat} (h : 0 < rel (X i) (Y i) (X k) (Y k)) : good X Y i k = true := by
  unfold good; rw [decide_eq_false (by omega), decide_eq_false (by omega)]; simp

theorem refBest_any (X Y : Nat → Int) (A B : Addr) (n j c d : Nat) (w : World) (hn : 0 < n) (hn' : n ≤ 4096) (hj : j ≤ n)
    (hx : ∀ t, t < n → w.cell? (A.add t) = some (.int .i64 (X t))) (hy : ∀ t, t < n → w.cell? (B.add t) = some (.int .i64 (Y t)))
    (hf : ∀ i, i < j → Fit (X i) (Y i)) (hno : j < n → ¬ Fit (X j) (Y j)) :
    Calls Try.prog 16 #[.slice (some A) n c, .slice (some B) n d] w (Drawn (.tuple #[.int .i64 (bestAt X Y n j), .int .i64 (bestErr n j)]) w) := by
  have hz : decide ((n : Int) < 1) = false := by simp; omega
  have hz2 : decide (4096 < (n : Int)) = false := by simp; omega
  go_enter Try.func16, Try.ntmps16
  go_wp2
  go_loopw [6] (fun k wr => FitLoop j w k wr) (fun k _ => n - (intOf k).toNat)
  case atStart => exact ⟨0, 0, by omega, rfl, rfl⟩
  case round =>
    obtain ⟨i, m, hi, rfl, hw⟩ := hrel
    by_cases hin : i < n
    · have gx : wr.cell? (A.add i) = some (.int .i64 (X i)) := by rw [← hw]; exact hx i hin
      have gy : wr.cell? (B.add i) = some (.int .i64 (Y i)) := by rw [← hw]; exact hy i hin
      have HW := Lib.hid hw
      clear hw hx hy
      by_cases hij : i < j
      · have f1 := hf i hij
        have hc : ∀ W, Calls Try.prog 19 #[.int .i64 (X i), .int .i64 (Y i)] W fun e w' => e = .returned (.bool true) ∧ w' = W := fun W =>
          same_turned (may_yes _ _ _ f1.1 f1.2.1 f1.2.2.1 f1.2.2.2)
        have HC := Lib.hid hc
        clear hc hf hno hz hz2 f1
        go_wp2
        go_quiet ((go_at_call 19; exact Calls.quiet_of_same (HC.out _)))
        go_wp2
        go_roundw
        case rel => exact ⟨i + 1, m + _, by omega, by go_num, by rw [← HW.out, World.drewN_drewN]⟩
        case measure => simp [intOf]; omega
      · obtain rfl : i = j := by omega
        have f1 := hno hin
        have hc : ∀ W, Calls Try.prog 19 #[.int .i64 (X i), .int .i64 (Y i)] W fun e w' => e = .returned (.bool false) ∧ w' = W := fun W =>
          same_turned (may_no _ _ _ f1)
        have HC := Lib.hid hc
        clear hc hf hno hz hz2 f1
        go_wp2
        go_quiet ((go_at_call 19; exact Calls.quiet_of_same (HC.out _)))
        go_wp2
        go_ret2
        refine drawn_end HW.out ?_
        unfold bestAt bestErr
        rw [if_neg (by omega), if_neg (by omega)]
        rfl
    · obtain rfl : n = i := by omega
      obtain rfl : n = j := by omega
      have hlt := best_lt X Y (Nat.le_refl n) hn
      have HT := Lib.hid (allGood_best hf)
      have HA := Lib.hid (fun q hq => allGood_ahead (i := q) hf hq)
      have HF := Lib.hid hf
      have HX := Lib.hid hx
      have HY := Lib.hid hy
      have HW := Lib.hid hw
      clear hf hx hy hw hno hz hz2 hin hi hj
      go_wp2
      go_loopw [7] (fun k wr => PickLoop X Y n w k wr) (fun k _ => n - (intOf k).toNat)
      case atStart => exact ⟨0, m, by omega, rfl, HW.out⟩
      case round =>
        clear HW
        obtain ⟨q, m2, hq, rfl, hw2⟩ := hrel
        have HW2 := Lib.hid hw2
        have hqn : q < n := by omega
        clear hw2
        go_wp2
        go_loopw [8, 9] (fun b k wr => GoodLoop X Y n q w b k wr) (fun _ k _ => n - (intOf k).toNat)
        case atStart => exact ⟨0, m2, by omega, rfl, rfl, HW2.out⟩
        case round =>
          clear HW2
          obtain ⟨k, m3, hk, rfl, rfl, hw3⟩ := hrel
          have HW3 := Lib.hid hw3
          clear hw3
          by_cases hkn : k < n
          · have gx : wr.cell? (A.add q) = some (.int .i64 (X q)) := by rw [← HW3.out]; exact HX.out q hqn
            have gy : wr.cell? (B.add q) = some (.int .i64 (Y q)) := by rw [← HW3.out]; exact HY.out q hqn
            have gx' : wr.cell? (A.add k) = some (.int .i64 (X k)) := by rw [← HW3.out]; exact HX.out k hkn
            have gy' : wr.cell? (B.add k) = some (.int .i64 (Y k)) := by rw [← HW3.out]; exact HY.out k hkn
            obtain ⟨r, er⟩ : ∃ r, r = rel (X q) (Y q) (X k) (Y k) := ⟨_, rfl⟩
            have hc : ∀ W, Calls Try.prog 11 #[.int .i64 (X q), .int .i64 (Y q), .int .i64 (X k), .int .i64 (Y k)] W fun e w' => e = .returned (.tuple #[.int .i64 r, .int .i64 0]) ∧ ∃ m, w' = W.drewN m := fun W => by
              rw [er]; exact drawn_turned (refCompare_yes _ _ _ _ _ (HF.out q hqn) (HF.out k hkn))
            have HC := Lib.hid hc
            have ER := Lib.hid er
            clear hc er
            have hcase : (r < 0 ∧ good X Y q k = false) ∨ (0 ≤ r ∧ (r == 0) = true ∧ k < q ∧ good X Y q k = false) ∨ (0 ≤ r ∧ (r == 0) = true ∧ q ≤ k ∧ good X Y q k = true) ∨ (0 < r ∧ (r == 0) = false ∧ good X Y q k = true) := by
              rw [ER.out]
              by_cases h1 : rel (X q) (Y q) (X k) (Y k) < 0
              · exact .inl ⟨h1, good_lt h1⟩
              · by_cases h2 : rel (X q) (Y q) (X k) (Y k) = 0
                · by_cases h3 : k < q
                  · exact .inr (.inl ⟨by omega, by simp [h2], h3, good_eq h2 h3⟩)
                  · exact .inr (.inr (.inl ⟨by omega, by simp [h2], by omega, good_ge h2 h3⟩))
                · exact .inr (.inr (.inr ⟨by omega, by simp [h2], good_gt (by omega)⟩))
            rcases hcase with ⟨c1, hg⟩ | ⟨c1, c2, c3, hg⟩ | ⟨c1, c2, c3, hg⟩ | ⟨c1, c2, hg⟩
            all_goals
              have HG := Lib.hid hg
              clear hg
              go_wp2
              go_quiet ((go_at_call 11; exact Calls.quiet_of (HC.out _)))
              go_wp2
              go_roundw
              case rel =>
                exact ⟨k + 1, m3 + _, by omega, by go_num, by rw [allGood, HG.out]; simp, by rw [← HW3.out, World.drewN_drewN]⟩
              case measure => simp [intOf]; omega
          · obtain rfl : n = k := by omega
            by_cases hqb : q < best X Y n
            · have HG := Lib.hid (HA.out q hqb)
              rw [HG.out]
              clear HG
              go_wp2
              go_roundw
              case rel => exact ⟨q + 1, m3, by omega, by go_num, HW3.out⟩
              case measure => simp [intOf]; omega
            · obtain rfl : q = best X Y n := by omega
              rw [HT.out]
              go_wp2
              go_ret2
              refine ⟨m3, ?_, HW3.out⟩
              unfold bestAt bestErr
              rw [if_pos rfl, if_pos rfl]
              rfl

end Go.Proofs.Ytdebhebleojdbaa
