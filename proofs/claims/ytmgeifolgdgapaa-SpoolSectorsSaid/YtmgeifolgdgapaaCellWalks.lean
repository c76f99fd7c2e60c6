
/- What the functions of package cell that read alone answer: a contract each. -/
import Derived.Test.YtmgeifolgdgapaaCellMath
import Derived.Test.YtmgeifolgdgapaaBytes
namespace Go.Proofs.Ytmgeifolgdgapaa
open Go.RowKit

theorem isSize_yes (k : Nat) (w : World) (h1 : 1 ≤ k) (h4 : k ≤ 4) :
    Calls Try.prog 55 #[.int .i64 (k : Int)] w fun e w' => e = .returned (.bool true) ∧ w = w' := by
  have d : decide ((k : Int) ≤ 4) = true := by simp; omega
  go_enter Try.func55, Try.ntmps55
  go_wp2
  go_ret
  exact ⟨rfl, rfl⟩

theorem isSize_no (s : Int) (w : World) (h : ¬ (1 ≤ s ∧ s ≤ 4)) :
    Calls Try.prog 55 #[.int .i64 s] w fun e w' => e = .returned (.bool false) ∧ w = w' := by
  by_cases h1 : 1 ≤ s
  · have h4 : ¬ s ≤ 4 := by omega
    go_enter Try.func55, Try.ntmps55
    go_wp2
    go_ret
    exact ⟨rfl, rfl⟩
  · go_enter Try.func55, Try.ntmps55
    go_wp2
    go_ret
    exact ⟨rfl, rfl⟩

theorem fits_any (n : Int) (k : Nat) (w : World) (h1 : 1 ≤ k) (h4 : k ≤ 4) :
    Calls Try.prog 56 #[.int .i64 n, .int .i64 (k : Int)] w fun e w' => e = .returned (.bool (decide (0 ≤ n ∧ n < ((256 ^ k : Nat) : Int)))) ∧ w = w' := by
  rcases (by omega : k = 1 ∨ k = 2 ∨ k = 3 ∨ k = 4) with rfl | rfl | rfl | rfl
  all_goals
    go_enter Try.func56, Try.ntmps56
    go_wp2
    all_goals
      go_ret
      refine ⟨congrArg (fun b => Ending.returned (.bool b)) (?_ : _ = _), rfl⟩
      rw [Bool.eq_iff_iff]
      simp
      omega

theorem or_byte {x z : Nat} (hx : x < 1099511627776) (hz : z < 256) : bits .or .i64 ((x : Int) * 256) (z : Int) = ((x * 256 + z : Nat) : Int) := by
  rw [bits_join .i64 62 (by decide) (fun n h0 h1 => by rw [IntKind.wrap_i64]; omega) 8 _ _ (by omega) (by omega) (by omega) (by omega) (by omega) (by omega)]
  omega

end Go.Proofs.Ytmgeifolgdgapaa
