
/- Whether two bytes are the parts of a place: the package's answer, and the document's. -/
import Derived.Test.YtmgeifolgdgapaaMerge1
import Derived.Test.YtmgeifolgdgapaaRows
import Derived.WalkKit
import Derived.WalkSpells
import Derived.WalkLawsBesides
import Derived.Deep.QuietTactic
import Derived.BigQuiet
import Derived.Lib.Hide
namespace Go.Proofs.Ytmgeifolgdgapaa
open Go.RowKit

theorem index_low (a m : Nat) (w : World) (hm : m < 25) (h : a < m) :
    Calls Try.prog 61 #[.float .f64 (fl a), .int .i64 (m : Int)] w fun e w' => e = .returned (.tuple #[.int .i64 (a : Int), .bool true]) ∧ w = w' := by
  have h1 := fl_zero a (by omega)
  have h2 : FloatKind.f64.format.order (fl a) (floatOfInt .f64 (m : Int)) = some .lt := fl_lt a m (by omega) h
  have h3 : FloatKind.f64.format.order (floatOfInt .f64 (a : Int)) (fl a) = some .eq := fl_eq a (by omega)
  have h4 := fun w => run_convert_float_int (P := Try.prog) w 94 3 .f64 .i64 (fl a) a (by kernel_rfl) Try.underlying3 (fl_back a (by omega))
  go_enter Try.func61, Try.ntmps61
  go_wp2
  go_ret2
  exact ⟨rfl, rfl⟩
theorem index_out (a m : Nat) (w : World) (ha : a < 256) (hm : m < 25) (h : m ≤ a) :
    Calls Try.prog 61 #[.float .f64 (fl a), .int .i64 (m : Int)] w fun e w' => e = .returned (.tuple #[.int .i64 0, .bool false]) ∧ w = w' := by
  have h1 := fb_zero a ha
  have h2 : (FloatKind.f64.format.order (fl a) (floatOfInt .f64 (m : Int)) == some .lt) = false := fb_not_lt a m ha hm h
  go_enter Try.func61, Try.ntmps61
  go_wp2
  go_ret2
  exact ⟨rfl, rfl⟩

/-- The parts of a place, or none. -/
def partsV (a b : Nat) : Value := if a < 24 ∧ b < 16 then .tuple #[.int .i64 (a : Int), .int .i64 (b : Int), .int .i64 0] else .tuple #[.int .i64 0, .int .i64 0, .int .i64 2]
theorem parts_byte (a b : Nat) (w : World) (ha : a < 256) (hb : b < 256) :
    Calls Try.prog 58 #[.complex .f64 (fl a) (fl b)] w fun e w' => e = .returned (partsV a b) ∧ w = w' := by
  unfold partsV
  by_cases h1 : a < 24
  · by_cases h2 : b < 16
    · rw [if_pos ⟨h1, h2⟩]
      go_enter Try.func58, Try.ntmps58
      go_wp2_with fail
      refine (index_low a 24 _ (by omega) h1).mono ?_
      rintro e w' ⟨rfl, rfl⟩
      go_wp2_with fail
      refine (index_low b 16 _ (by omega) h2).mono ?_
      rintro e w' ⟨rfl, rfl⟩
      go_wp2
      go_ret3
      exact ⟨rfl, rfl⟩
    · rw [if_neg fun h => h2 h.2]
      go_enter Try.func58, Try.ntmps58
      go_wp2_with fail
      refine (index_low a 24 _ (by omega) h1).mono ?_
      rintro e w' ⟨rfl, rfl⟩
      go_wp2_with fail
      refine (index_out b 16 _ hb (by omega) (by omega)).mono ?_
      rintro e w' ⟨rfl, rfl⟩
      go_wp2
      go_ret3
      exact ⟨rfl, rfl⟩
  · rw [if_neg fun h => h1 h.1]
    go_enter Try.func58, Try.ntmps58
    go_wp2_with fail
    refine (index_out a 24 _ ha (by omega) (by omega)).mono ?_
    rintro e w' ⟨rfl, rfl⟩
    go_wp2
    go_ret3
    exact ⟨rfl, rfl⟩

theorem whole_byte (a b : Nat) (w : World) (ha : a < 256) (hb : b < 256) :
    Calls Try.prog 54 #[.complex .f64 (fl a) (fl b)] w fun e w' => e = .returned (.bool (decide (a < 24 ∧ b < 16))) ∧ w = w' := by
  by_cases h : a < 24 ∧ b < 16
  · have e1 : decide (a < 24 ∧ b < 16) = true := decide_eq_true h
    rw [e1]
    have hp := fun w => parts_byte a b w ha hb
    unfold partsV at hp
    rw [if_pos h] at hp
    clear h e1
    go_enter Try.func54, Try.ntmps54
    go_wp2_with fail
    refine (hp _).mono ?_
    rintro e w' ⟨rfl, rfl⟩
    go_wp2
    go_ret
    exact ⟨rfl, rfl⟩
  · have e1 : decide (a < 24 ∧ b < 16) = false := decide_eq_false h
    rw [e1]
    have hp := fun w => parts_byte a b w ha hb
    unfold partsV at hp
    rw [if_neg h] at hp
    clear h e1
    go_enter Try.func54, Try.ntmps54
    go_wp2_with fail
    refine (hp _).mono ?_
    rintro e w' ⟨rfl, rfl⟩
    go_wp2
    go_ret
    exact ⟨rfl, rfl⟩

/-- The document's part of a byte. -/
def partB (a m : Nat) : Int := if a < m then (a : Int) else -1
theorem part_byte (a m : Nat) (w : World) (ha : a < 256) (hm : m < 25) :
    Calls Try.prog 51 #[.float .f64 (fl a), .int .i64 (m : Int)] w fun e w' => e = .returned (.int .i64 (partB a m)) ∧ w = w' := by
  go_enter Try.func51, Try.ntmps51
  go_wp2
  go_loop [5] (fun x => ∃ i : Nat, i ≤ m ∧ i ≤ a ∧ x = .int .i64 (i : Int)) (fun x => m - (intOf x).toNat)
  case atStart => exact ⟨0, Nat.zero_le _, Nat.zero_le _, rfl⟩
  case round =>
    obtain ⟨i, hi, hia, rfl⟩ := hrel
    by_cases him : i < m
    · by_cases he : a = i
      · have e1 : (FloatKind.f64.format.order (fl a) (floatOfInt .f64 (i : Int)) == some .eq) = true := by
          have h := fb_eq a i ha (by omega)
          rw [decide_eq_true he] at h
          exact h
        have ep : partB a m = (i : Int) := by unfold partB; rw [if_pos (by omega), he]
        have EP := Lib.hid ep
        clear ep he hia
        go_wp2
        go_ret
        exact ⟨by rw [EP.out]; rfl, rfl⟩
      · have e1 : (FloatKind.f64.format.order (fl a) (floatOfInt .f64 (i : Int)) == some .eq) = false := by
          have h := fb_eq a i ha (by omega)
          rw [decide_eq_false he] at h
          exact h
        have hia2 : i + 1 ≤ a := by omega
        clear he hia
        go_wp2
        go_round
        case rel => exact ⟨i + 1, by omega, hia2, by go_num⟩
        case measure => simp [intOf]; omega
    · have ep : partB a m = -1 := by unfold partB; rw [if_neg (by omega)]
      have EP := Lib.hid ep
      obtain rfl : i = m := by omega
      clear ep
      go_wp2
      go_ret
      exact ⟨by rw [EP.out]; rfl, rfl⟩
theorem refParts_byte (a b : Nat) (w : World) (ha : a < 256) (hb : b < 256) :
    Calls Try.prog 40 #[.complex .f64 (fl a) (fl b)] w fun e w' => e = .returned (partsV a b) ∧ w = w' := by
  unfold partsV
  by_cases h1 : a < 24
  · by_cases h2 : b < 16
    · rw [if_pos ⟨h1, h2⟩]
      have p1 := fun w => part_byte a 24 w ha (by omega)
      have p2 := fun w => part_byte b 16 w hb (by omega)
      unfold partB at p1 p2
      rw [if_pos h1] at p1
      rw [if_pos h2] at p2
      go_enter Try.func40, Try.ntmps40
      go_wp2_with fail
      refine (p1 _).mono ?_
      rintro e w' ⟨rfl, rfl⟩
      go_wp2_with fail
      refine (p2 _).mono ?_
      rintro e w' ⟨rfl, rfl⟩
      go_wp2
      go_ret3
      exact ⟨rfl, rfl⟩
    · rw [if_neg fun h => h2 h.2]
      have p1 := fun w => part_byte a 24 w ha (by omega)
      have p2 := fun w => part_byte b 16 w hb (by omega)
      unfold partB at p1 p2
      rw [if_pos h1] at p1
      rw [if_neg h2] at p2
      go_enter Try.func40, Try.ntmps40
      go_wp2_with fail
      refine (p1 _).mono ?_
      rintro e w' ⟨rfl, rfl⟩
      go_wp2_with fail
      refine (p2 _).mono ?_
      rintro e w' ⟨rfl, rfl⟩
      go_wp2
      go_ret3
      exact ⟨rfl, rfl⟩
  · rw [if_neg fun h => h1 h.1]
    have p1 := fun w => part_byte a 24 w ha (by omega)
    have p2 := fun w => part_byte b 16 w hb (by omega)
    unfold partB at p1
    rw [if_neg h1] at p1
    obtain ⟨y, ey⟩ : ∃ y, y = partB b 16 := ⟨_, rfl⟩
    rw [← ey] at p2
    clear ey
    go_enter Try.func40, Try.ntmps40
    go_wp2_with fail
    refine (p1 _).mono ?_
    rintro e w' ⟨rfl, rfl⟩
    go_wp2_with fail
    refine (p2 _).mono ?_
    rintro e w' ⟨rfl, rfl⟩
    go_wp2
    go_ret3
    exact ⟨rfl, rfl⟩
theorem refWhole_byte (a b : Nat) (w : World) (ha : a < 256) (hb : b < 256) :
    Calls Try.prog 50 #[.complex .f64 (fl a) (fl b)] w fun e w' => e = .returned (.bool (decide (a < 24 ∧ b < 16))) ∧ w = w' := by
  by_cases h : a < 24 ∧ b < 16
  · have e1 : decide (a < 24 ∧ b < 16) = true := decide_eq_true h
    rw [e1]
    have hp := fun w => refParts_byte a b w ha hb
    unfold partsV at hp
    rw [if_pos h] at hp
    clear h e1
    go_enter Try.func50, Try.ntmps50
    go_wp2_with fail
    refine (hp _).mono ?_
    rintro e w' ⟨rfl, rfl⟩
    go_wp2
    go_ret
    exact ⟨rfl, rfl⟩
  · have e1 : decide (a < 24 ∧ b < 16) = false := decide_eq_false h
    rw [e1]
    have hp := fun w => refParts_byte a b w ha hb
    unfold partsV at hp
    rw [if_neg h] at hp
    clear h e1
    go_enter Try.func50, Try.ntmps50
    go_wp2_with fail
    refine (hp _).mono ?_
    rintro e w' ⟨rfl, rfl⟩
    go_wp2
    go_ret
    exact ⟨rfl, rfl⟩
end Go.Proofs.Ytmgeifolgdgapaa
