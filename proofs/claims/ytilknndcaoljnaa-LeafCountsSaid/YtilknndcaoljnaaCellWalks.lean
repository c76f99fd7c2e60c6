/- What the functions of package cell that read alone answer: a contract each. -/
import Derived.Test.YtilknndcaoljnaaCellMath
import Derived.Test.YtilknndcaoljnaaBytes
namespace Go.Proofs.Ytilknndcaoljnaa
open Go.RowKit

theorem isSize_yes (k : Nat) (w : World) (h1 : 1 ≤ k) (h4 : k ≤ 4) :
    Calls Try.prog 19 #[.int .i64 (k : Int)] w fun e w' => e = .returned (.bool true) ∧ w = w' := by
  have d : decide ((k : Int) ≤ 4) = true := by simp; omega
  go_enter Try.func19, Try.ntmps19
  go_wp2
  go_ret
  exact ⟨rfl, rfl⟩

theorem isSize_no (s : Int) (w : World) (h : ¬ (1 ≤ s ∧ s ≤ 4)) :
    Calls Try.prog 19 #[.int .i64 s] w fun e w' => e = .returned (.bool false) ∧ w = w' := by
  by_cases h1 : 1 ≤ s
  · have h4 : ¬ s ≤ 4 := by omega
    go_enter Try.func19, Try.ntmps19
    go_wp2
    go_ret
    exact ⟨rfl, rfl⟩
  · go_enter Try.func19, Try.ntmps19
    go_wp2
    go_ret
    exact ⟨rfl, rfl⟩

theorem fits_any (n : Int) (k : Nat) (w : World) (h1 : 1 ≤ k) (h4 : k ≤ 4) :
    Calls Try.prog 52 #[.int .i64 n, .int .i64 (k : Int)] w fun e w' => e = .returned (.bool (decide (0 ≤ n ∧ n < ((256 ^ k : Nat) : Int)))) ∧ w = w' := by
  rcases (by omega : k = 1 ∨ k = 2 ∨ k = 3 ∨ k = 4) with rfl | rfl | rfl | rfl
  all_goals
    go_enter Try.func52, Try.ntmps52
    go_wp2
    all_goals
      go_ret
      refine ⟨congrArg (fun b => Ending.returned (.bool b)) (?_ : _ = _), rfl⟩
      rw [Bool.eq_iff_iff]
      simp
      omega

theorem or_byte {x z : Nat} (hx : x < 1099511627776) (hz : z < 256) : bits .or .i64 ((x : Int) * 256) (z : Int) = ((x * 256 + z : Nat) : Int) := by
  rw [bits_join .i64 62 (by decide) (fun n h0 h1 => by rw [IntKind.wrap_i64]; omega) 8 _ _ (by omega) (by omega) (by omega) (by omega) (by omega) (by omega)]
  omega

theorem number_any (A : Option Addr) (n c : Nat) (f : Nat → Nat) (w : World) (hn : n ≤ 4) (h : BytesAt w A n f) :
    Calls Try.prog 20 #[.slice A n c] w fun e w' => e = .returned (.int .i64 (val f n : Int)) ∧ w = w' := by
  have HB := Lib.hid h
  clear h
  go_enter Try.func20, Try.ntmps20
  go_wp2
  go_loop [2, 7] (fun x k => ∃ i : Nat, i ≤ n ∧ x = .int .i64 (val f i : Int) ∧ k = .int .i64 (i : Int)) (fun _ k => n - (intOf k).toNat)
  case atStart => exact ⟨0, by omega, rfl, rfl⟩
  case round =>
    obtain ⟨i, hi, rfl, rfl⟩ := hrel
    obtain ⟨x, hx⟩ : ∃ x, x = val f i := ⟨_, rfl⟩
    rw [← hx]
    by_cases hk : i < n
    · obtain ⟨ad, rfl⟩ := HB.out.addr (by omega)
      have hc := HB.out.at_ hk
      have hz := HB.out.small i hk
      obtain ⟨z, ez⟩ : ∃ z, z = f i := ⟨_, rfl⟩
      rw [← ez] at hc hz
      have EZ := Lib.hid ez
      have HX := Lib.hid hx
      clear ez hx
      have hl : x < 1099511627776 := by
        have h1 := val_lt (f := f) (k := i) (fun j hj => HB.out.small j (by omega))
        have h2 := pow_le_four (k := i) (by omega)
        rw [HX.out]
        omega
      have hor := or_byte hl hz
      go_wp2
      clear hor hc hz
      go_round
      case rel => exact ⟨i + 1, by omega, by rw [HX.out, EZ.out]; rfl, by go_num⟩
      case measure => simp [intOf]; omega
    · obtain rfl : i = n := by omega
      have HX := Lib.hid hx
      clear hx
      go_wp2
      go_ret
      exact ⟨by rw [HX.out]; rfl, rfl⟩
end Go.Proofs.Ytilknndcaoljnaa
