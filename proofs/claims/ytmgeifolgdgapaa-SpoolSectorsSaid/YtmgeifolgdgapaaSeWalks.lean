
/- What Sum and More answer, and the document's own answers: a contract each, over any bytes. -/
import Derived.Test.YtmgeifolgdgapaaSeBits
import Derived.Test.YtmgeifolgdgapaaLawKit
import Derived.Test.YtmgeifolgdgapaaRows
import Derived.WalkKit
import Derived.WalkSpells
import Derived.WalkLawsBesides
import Derived.Deep.QuietTactic
import Derived.BigQuiet
import Derived.LoopTactic
import Derived.IntWalk
import Derived.Lib.Hide
namespace Go.Proofs.Ytmgeifolgdgapaa
open Go.RowKit

theorem shift_any (r : BitVec 32) (w : World) :
    Calls Try.prog 63 #[.int .u32 (num r)] w fun e w' => e = .returned (.int .u32 (num (spin r 8))) ∧ w = w' := by
  obtain ⟨l0, l1⟩ := num_lt r
  go_enter Try.func63, Try.ntmps63
  go_wp2
  clear l0 l1
  go_loop [0, 4] (fun x k => ∃ i : Nat, i ≤ 8 ∧ x = .int .u32 (num (spin r i)) ∧ k = .int .i64 (i : Int)) (fun _ k => 8 - (intOf k).toNat)
  case atStart => exact ⟨0, by omega, rfl, rfl⟩
  case round =>
    obtain ⟨i, hi, rfl, rfl⟩ := hrel
    by_cases hk : i < 8
    · obtain ⟨x, hx⟩ : ∃ x, x = spin r i := ⟨_, rfl⟩
      rw [← hx]
      have HX := Lib.hid hx
      clear hx
      obtain ⟨l0, l1⟩ := num_lt x
      cases hm : x.msb with
      | true =>
        have m1 := msb_one hm
        obtain ⟨p, hp⟩ : ∃ p, p = push x false := ⟨_, rfl⟩
        have m2 := push_up hp (by rw [hm]; rfl)
        have HP := Lib.hid hp
        clear hp
        clear hm
        go_wp2
        clear m1 m2
        go_round
        case rel => exact ⟨i + 1, by omega, by rw [HP.out, HX.out]; rfl, by go_num⟩
        case measure => simp [intOf]; omega
      | false =>
        have m1 := msb_zero hm
        obtain ⟨p, hp⟩ : ∃ p, p = push x false := ⟨_, rfl⟩
        have m2 := push_stays_low hp hm (by rw [hm]; rfl)
        have HP := Lib.hid hp
        clear hp
        clear hm
        go_wp2
        clear m1 m2
        go_round
        case rel => exact ⟨i + 1, by omega, by rw [HP.out, HX.out]; rfl, by go_num⟩
        case measure => simp [intOf]; omega
    · obtain rfl : i = 8 := by omega
      go_wp2
      go_ret
      exact ⟨rfl, rfl⟩

theorem sumByte_any (m : BitVec 32) (i : Nat) (w : World) (hi : i < 4) :
    Calls Try.prog 60 #[.int .u32 (num m), .int .i64 (i : Int)] w fun e w' => e = .returned (.int .u8 (sumB m i : Int)) ∧ w = w' := by
  obtain ⟨l0, l1⟩ := num_lt m
  have hs := sumB_num m i hi
  go_enter Try.func60, Try.ntmps60
  go_wp2
  go_ret
  exact ⟨rfl, rfl⟩

theorem more_any (s : BitVec 32) (A : Option Addr) (n c : Nat) (f : Nat → Nat) (w : World) (hn : n ≤ 9223372036854775807) (h : BytesAt w A n f) :
    Calls Try.prog 62 #[.int .u32 (num s), .slice A n c] w fun e w' => e = .returned (.int .u32 (num (more s f n))) ∧ w = w' := by
  have HB := Lib.hid h
  clear h
  obtain ⟨t, ht⟩ : ∃ t, t = ~~~ s := ⟨_, rfl⟩
  have hf := flip_left ht
  have hf2 := flip_right ht
  have HT := Lib.hid ht
  clear ht
  go_enter Try.func62, Try.ntmps62
  go_wp2
  clear hf hf2
  go_loop [5, 12] (fun x k => ∃ i : Nat, i ≤ n ∧ x = .int .u32 (num (reg t f i)) ∧ k = .int .i64 (i : Int)) (fun _ k => n - (intOf k).toNat)
  case atStart => exact ⟨0, by omega, rfl, rfl⟩
  case round =>
    obtain ⟨i, hi, rfl, rfl⟩ := hrel
    obtain ⟨x, hx⟩ : ∃ x, x = reg t f i := ⟨_, rfl⟩
    rw [← hx]
    have HX := Lib.hid hx
    clear hx
    by_cases hk : i < n
    · obtain ⟨ad, rfl⟩ := HB.out.addr (by omega)
      have hc := HB.out.at_ hk
      have hz := HB.out.small i hk
      obtain ⟨z, ez⟩ : ∃ z, z = f i := ⟨_, rfl⟩
      rw [← ez] at hc hz
      have EZ := Lib.hid ez
      clear ez
      obtain ⟨p, hp⟩ : ∃ p, p = x ^^^ BitVec.ofNat 32 z <<< 24 := ⟨_, rfl⟩
      have hb := byte_in hp hz
      have HP := Lib.hid hp
      clear hp
      go_wp2_with fail
      with_reducible refine (shift_any _ _).mono ?_
      rintro e w' ⟨rfl, rfl⟩
      clear hb
      rw [HP.out, spin_byte]
      obtain ⟨q, hq⟩ : ∃ q, q = feed x z 8 := ⟨_, rfl⟩
      rw [← hq]
      have HQ := Lib.hid hq
      clear hq
      go_wp2
      go_round
      case rel => exact ⟨i + 1, by omega, by rw [HQ.out, HX.out, EZ.out]; rfl, by go_num⟩
      case measure => simp [intOf]; omega
    · obtain rfl : i = n := by omega
      obtain ⟨p, hp⟩ : ∃ p, p = ~~~ x := ⟨_, rfl⟩
      have hf := flip_left hp
      have hf2 := flip_right hp
      have HP := Lib.hid hp
      clear hp
      go_wp2
      go_ret
      exact ⟨by rw [HP.out, HX.out, HT.out]; rfl, rfl⟩

theorem sum_any (A : Option Addr) (n c : Nat) (f : Nat → Nat) (w : World) (hn : n ≤ 9223372036854775807) (h : BytesAt w A n f) :
    Calls Try.prog 59 #[.slice A n c] w fun e w' => e = .returned (.int .u32 (num (crc f n))) ∧ w = w' := by
  have HB := Lib.hid h
  clear h
  go_enter Try.func59, Try.ntmps59
  go_wp2_with fail
  refine (more_any 0#32 A n c f w hn HB.out).mono ?_
  rintro e w' ⟨rfl, rfl⟩
  go_wp2
  go_ret
  exact ⟨rfl, rfl⟩

/-- How the document's inner loop stands: j bits of the byte are in. -/
theorem refMore_any (s : BitVec 32) (A : Option Addr) (n c : Nat) (f : Nat → Nat) (w : World) (hn : n ≤ 9223372036854775807) (h : BytesAt w A n f) :
    Calls Try.prog 52 #[.int .u32 (num s), .slice A n c] w fun e w' => e = .returned (.int .u32 (num (more s f n))) ∧ w = w' := by
  have HB := Lib.hid h
  clear h
  obtain ⟨t, ht⟩ : ∃ t, t = ~~~ s := ⟨_, rfl⟩
  have hf := flip_left ht
  have hf2 := flip_right ht
  have HT := Lib.hid ht
  clear ht
  go_enter Try.func52, Try.ntmps52
  go_wp2
  clear hf hf2
  go_loop [5, 6] (fun x k => ∃ i : Nat, i ≤ n ∧ x = .int .u32 (num (reg t f i)) ∧ k = .int .i64 (i : Int)) (fun _ k => n - (intOf k).toNat)
  case atStart => exact ⟨0, by omega, rfl, rfl⟩
  case round =>
    obtain ⟨i, hi, rfl, rfl⟩ := hrel
    obtain ⟨x, hx⟩ : ∃ x, x = reg t f i := ⟨_, rfl⟩
    rw [← hx]
    have HX := Lib.hid hx
    clear hx
    by_cases hk : i < n
    · obtain ⟨ad, rfl⟩ := HB.out.addr (by omega)
      have hc := HB.out.at_ hk
      have hz := HB.out.small i hk
      obtain ⟨z, ez⟩ : ∃ z, z = f i := ⟨_, rfl⟩
      rw [← ez] at hc hz
      have EZ := Lib.hid ez
      clear ez
      go_wp2
      go_loop [5, 7] (fun y k => ∃ j : Nat, j ≤ 8 ∧ y = .int .u32 (num (feed x z j)) ∧ k = .int .i64 (7 - (j : Int))) (fun _ k => (1 + intOf k).toNat)
      case atStart => exact ⟨0, by omega, rfl, rfl⟩
      case round =>
        obtain ⟨j, hj, rfl, rfl⟩ := hrel
        by_cases hj8 : j < 8
        · obtain ⟨y, hy⟩ : ∃ y, y = feed x z j := ⟨_, rfl⟩
          rw [← hy]
          have HY := Lib.hid hy
          clear hy
          obtain ⟨l0, l1⟩ := num_lt y
          have x00 : bits .xor .u32 0 0 = 0 := by decide
          have x01 : bits .xor .u32 0 1 = 1 := by decide
          have x10 : bits .xor .u32 1 0 = 1 := by decide
          have x11 : bits .xor .u32 1 1 = 0 := by decide
          cases hm : y.msb with
          | true =>
            have m1 := msb_one hm
            cases hb : z.testBit (7 - j) with
            | true =>
              have m2 := bit_one hz hb
              obtain ⟨p, hp⟩ : ∃ p, p = push y true := ⟨_, rfl⟩
              have M3 := Lib.hid (push_stays hp (by rw [hm]; rfl))
              have HP := Lib.hid hp
              clear hp
              have HBit := Lib.hid hb
              clear hm hb
              go_wp2
              clear m1 m2 x00 x01 x10 x11
              go_round
              case rel => exact ⟨j + 1, by omega, by rw [M3.out, HP.out, HY.out, ← HBit.out]; rfl, by go_num⟩
              case measure => simp [intOf]; omega
            | false =>
              have m2 := bit_zero hz hb
              obtain ⟨p, hp⟩ : ∃ p, p = push y false := ⟨_, rfl⟩
              have m3 := push_up hp (by rw [hm]; rfl)
              have HP := Lib.hid hp
              clear hp
              have HBit := Lib.hid hb
              clear hm hb
              go_wp2
              clear m1 m2 m3 x00 x01 x10 x11
              go_round
              case rel => exact ⟨j + 1, by omega, by rw [HP.out, HY.out, ← HBit.out]; rfl, by go_num⟩
              case measure => simp [intOf]; omega
          | false =>
            have m1 := msb_zero hm
            cases hb : z.testBit (7 - j) with
            | true =>
              have m2 := bit_one hz hb
              obtain ⟨p, hp⟩ : ∃ p, p = push y true := ⟨_, rfl⟩
              have m3 := push_up_low hp hm (by rw [hm]; rfl)
              have HP := Lib.hid hp
              clear hp
              have HBit := Lib.hid hb
              clear hm hb
              go_wp2
              clear m1 m2 m3 x00 x01 x10 x11
              go_round
              case rel => exact ⟨j + 1, by omega, by rw [HP.out, HY.out, ← HBit.out]; rfl, by go_num⟩
              case measure => simp [intOf]; omega
            | false =>
              have m2 := bit_zero hz hb
              obtain ⟨p, hp⟩ : ∃ p, p = push y false := ⟨_, rfl⟩
              have m3 := push_stays_low hp hm (by rw [hm]; rfl)
              have HP := Lib.hid hp
              clear hp
              have HBit := Lib.hid hb
              clear hm hb
              go_wp2
              clear m1 m2 m3 x00 x01 x10 x11
              go_round
              case rel => exact ⟨j + 1, by omega, by rw [HP.out, HY.out, ← HBit.out]; rfl, by go_num⟩
              case measure => simp [intOf]; omega
        · obtain rfl : j = 8 := by omega
          go_wp2
          go_round
          case rel => exact ⟨i + 1, by omega, by rw [HX.out, EZ.out]; rfl, by go_num⟩
          case measure => simp [intOf]; omega
    · obtain rfl : i = n := by omega
      obtain ⟨p, hp⟩ : ∃ p, p = ~~~ x := ⟨_, rfl⟩
      have hf := flip_left hp
      have hf2 := flip_right hp
      have HP := Lib.hid hp
      clear hp
      go_wp2
      go_ret
      exact ⟨by rw [HP.out, HX.out, HT.out]; rfl, rfl⟩

theorem refSum_any (A : Option Addr) (n c : Nat) (f : Nat → Nat) (w : World) (hn : n ≤ 9223372036854775807) (h : BytesAt w A n f) :
    Calls Try.prog 41 #[.slice A n c] w fun e w' => e = .returned (.int .u32 (num (crc f n))) ∧ w = w' := by
  have HB := Lib.hid h
  clear h
  go_enter Try.func41, Try.ntmps41
  go_wp2_with fail
  refine (refMore_any 0#32 A n c f w hn HB.out).mono ?_
  rintro e w' ⟨rfl, rfl⟩
  go_wp2
  go_ret
  exact ⟨rfl, rfl⟩

end Go.Proofs.Ytmgeifolgdgapaa
