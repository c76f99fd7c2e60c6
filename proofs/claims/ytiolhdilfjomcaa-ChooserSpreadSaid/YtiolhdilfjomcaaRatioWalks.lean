/- What each function of package ratio answers, and the document's own answers: a contract each. -/
import Derived.Test.YtiolhdilfjomcaaRatioMath
import Derived.Test.YtiolhdilfjomcaaRows
import Derived.WalkKit
import Derived.WalkSpells
import Derived.WalkLawsBesides
import Derived.Deep.QuietTactic
import Derived.BigQuiet
import Derived.LoopTactic
import Derived.IntWalk
import Derived.Lib.Hide
namespace Go.Proofs.Ytiolhdilfjomcaa
open Go.RowKit

theorem isValid_yes (a b : Int) (w : World) (h0 : 0 ≤ a) (h1 : a ≤ 1048576) (h2 : 1 ≤ b) (h3 : b ≤ 1048576) :
    Calls Try.prog 26 #[.int .i64 a, .int .i64 b] w fun e w' => e = .returned (.bool true) ∧ w = w' := by
  go_enter Try.func26, Try.ntmps26
  go_wp2
  go_ret
  exact ⟨rfl, rfl⟩

theorem isValid_no (a b : Int) (w : World) (h : ¬ Fit a b) :
    Calls Try.prog 26 #[.int .i64 a, .int .i64 b] w fun e w' => e = .returned (.bool false) ∧ w = w' := by
  unfold Fit at h
  by_cases h0 : a < 0
  · clear h
    go_enter Try.func26, Try.ntmps26
    go_wp2
    go_ret
    exact ⟨rfl, rfl⟩
  · have h0' : 0 ≤ a := by omega
    clear h0
    by_cases h1 : 1048576 < a
    · clear h
      go_enter Try.func26, Try.ntmps26
      go_wp2
      go_ret
      exact ⟨rfl, rfl⟩
    · have h1' : a ≤ 1048576 := by omega
      clear h1
      by_cases h2 : b < 1
      · clear h
        go_enter Try.func26, Try.ntmps26
        go_wp2
        go_ret
        exact ⟨rfl, rfl⟩
      · have h2' : 1 ≤ b := by omega
        have h3 : decide (b ≤ 1048576) = false := by simp; omega
        clear h2 h
        go_enter Try.func26, Try.ntmps26
        go_wp2
        go_ret
        exact ⟨rfl, rfl⟩

theorem may_yes (a b : Int) (w : World) (h0 : 0 ≤ a) (h1 : a ≤ 1048576) (h2 : 1 ≤ b) (h3 : b ≤ 1048576) :
    Calls Try.prog 24 #[.int .i64 a, .int .i64 b] w fun e w' => e = .returned (.bool true) ∧ w = w' := by
  go_enter Try.func24, Try.ntmps24
  go_wp2
  go_ret
  exact ⟨rfl, rfl⟩

theorem may_no (a b : Int) (w : World) (h : ¬ Fit a b) :
    Calls Try.prog 24 #[.int .i64 a, .int .i64 b] w fun e w' => e = .returned (.bool false) ∧ w = w' := by
  unfold Fit at h
  by_cases h0 : a < 0
  · clear h
    go_enter Try.func24, Try.ntmps24
    go_wp2
    go_ret
    exact ⟨rfl, rfl⟩
  · have h0' : 0 ≤ a := by omega
    clear h0
    by_cases h1 : 1048576 < a
    · clear h
      go_enter Try.func24, Try.ntmps24
      go_wp2
      go_ret
      exact ⟨rfl, rfl⟩
    · have h1' : a ≤ 1048576 := by omega
      clear h1
      by_cases h2 : b < 1
      · clear h
        go_enter Try.func24, Try.ntmps24
        go_wp2
        go_ret
        exact ⟨rfl, rfl⟩
      · have h2' : 1 ≤ b := by omega
        have h3 : decide (b ≤ 1048576) = false := by simp; omega
        clear h2 h
        go_enter Try.func24, Try.ntmps24
        go_wp2
        go_ret
        exact ⟨rfl, rfl⟩

theorem isNaN_any (x : Int) (w : World) :
    Calls Try.prog 28 #[.int .i64 x] w fun e w' => e = .returned (.bool false) ∧ w = w' := by
  go_enter Try.func28, Try.ntmps28
  go_wp2
  go_ret
  exact ⟨rfl, rfl⟩

theorem cmp_any (x y : Int) (w : World) :
    Calls Try.prog 27 #[.int .i64 x, .int .i64 y] w fun e w' => e = .returned (.int .i64 (sgn x y)) ∧ w = w' := by
  rcases sgn_cases x y with ⟨h, e⟩ | ⟨h, e⟩ | ⟨h, e⟩
  · have H := Lib.hid e
    clear e
    go_enter Try.func27, Try.ntmps27
    go_wp2_with (go_at_call 28; refine (isNaN_any _ _).mono ?_; rintro e w' ⟨rfl, rfl⟩)
    go_ret
    exact ⟨by rw [H.out]; rfl, rfl⟩
  · have H := Lib.hid e
    clear e
    subst h
    go_enter Try.func27, Try.ntmps27
    go_wp2_with (go_at_call 28; refine (isNaN_any _ _).mono ?_; rintro e w' ⟨rfl, rfl⟩)
    go_ret
    exact ⟨by rw [H.out]; rfl, rfl⟩
  · have H := Lib.hid e
    clear e
    go_enter Try.func27, Try.ntmps27
    go_wp2_with (go_at_call 28; refine (isNaN_any _ _).mono ?_; rintro e w' ⟨rfl, rfl⟩)
    go_ret
    exact ⟨by rw [H.out]; rfl, rfl⟩

theorem compare_yes (a b c d : Int) (w : World) (h : Fit a b) (k : Fit c d) :
    Calls Try.prog 23 #[.int .i64 a, .int .i64 b, .int .i64 c, .int .i64 d] w fun e w' => e = .returned (.tuple #[.int .i64 (rel a b c d), .int .i64 0]) ∧ w = w' := by
  obtain ⟨h0, h1, h2, h3⟩ := h
  obtain ⟨k0, k1, k2, k3⟩ := k
  obtain ⟨m0, m1⟩ := mul_bd (d := d) h0 h1 (by omega) k3
  obtain ⟨m2, m3⟩ := mul_bd (d := b) k0 k1 (by omega) h3
  go_enter Try.func23, Try.ntmps23
  go_wp2_with (first | (go_at_call 26; refine (isValid_yes _ _ _ (by assumption) (by assumption) (by assumption) (by assumption)).mono ?_; rintro e w' ⟨rfl, rfl⟩) | (go_at_call 27; refine (cmp_any _ _ _).mono ?_; rintro e w' ⟨rfl, rfl⟩))
  go_ret2
  exact ⟨rfl, rfl⟩

theorem compare_no (a b c d : Int) (w : World) (h : ¬ (Fit a b ∧ Fit c d)) :
    Calls Try.prog 23 #[.int .i64 a, .int .i64 b, .int .i64 c, .int .i64 d] w fun e w' => e = .returned (.tuple #[.int .i64 0, .int .i64 1]) ∧ w = w' := by
  by_cases h1 : Fit a b
  · have h2 : ¬ Fit c d := fun k => h ⟨h1, k⟩
    obtain ⟨h3, h4, h5, h6⟩ := h1
    clear h
    go_enter Try.func23, Try.ntmps23
    go_wp2_with fail
    refine (isValid_yes a b _ h3 h4 h5 h6).mono ?_
    rintro e w' ⟨rfl, rfl⟩
    go_wp2_with fail
    refine (isValid_no c d _ h2).mono ?_
    rintro e w' ⟨rfl, rfl⟩
    go_wp2
    go_ret2
    exact ⟨rfl, rfl⟩
  · clear h
    go_enter Try.func23, Try.ntmps23
    go_wp2_with fail
    refine (isValid_no a b _ h1).mono ?_
    rintro e w' ⟨rfl, rfl⟩
    go_wp2
    go_ret2
    exact ⟨rfl, rfl⟩

end Go.Proofs.Ytiolhdilfjomcaa
