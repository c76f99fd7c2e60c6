/- How the register's steps read as whole numbers. What Sum and More answer, and the document's own answers: a contract each, over any bytes. What Close and Open answer: a contract each, over any bytes. The document's own answers for sealed sectors: a contract each, over any bytes. Whether bytes are a sealed sector: the document's answer, in one. -/
import Derived.Test.YtmgeifolgdgapaaSeMath
import Derived.Laws.Shifts
import Derived.Test.YtmgeifolgdgapaaLawKit
import Derived.Test.YtmgeifolgdgapaaRows
import Derived.WalkKit
import Derived.WalkSpells
import Derived.WalkLawsBesides
import Derived.Deep.QuietTactic
import Derived.BigQuiet
import Derived.LoopTactic
import Derived.IntWalk
import Derived.Lib.Hide
import Derived.OwnWalk
namespace Go.Proofs.Ytmgeifolgdgapaa

/-- The register as a whole number. -/
def num (r : BitVec 32) : Int := (r.toNat : Int)

theorem num_lt (r : BitVec 32) : 0 ≤ num r ∧ num r ≤ 4294967295 := by
  have := r.isLt
  unfold num
  omega
theorem num_inj {r s : BitVec 32} (h : num r = num s) : r = s := by
  unfold num at h
  exact BitVec.eq_of_toNat_eq (by omega)
theorem num_of (x : Int) (h0 : 0 ≤ x) (h1 : x ≤ 4294967295) : ∃ r, x = num r := by
  refine ⟨BitVec.ofNat 32 x.toNat, ?_⟩
  unfold num
  rw [BitVec.toNat_ofNat]
  omega
theorem num_ne {r s : BitVec 32} (h : r ≠ s) : num r ≠ num s := fun e => h (num_inj e)
theorem num_eq_dec (r s : BitVec 32) : decide (num r = num s) = decide (r = s) := by
  by_cases h : r = s
  · rw [h]; simp
  · rw [decide_eq_false h, decide_eq_false (num_ne h)]

theorem num_xor (r s : BitVec 32) : bits .xor .u32 (num r) (num s) = num (r ^^^ s) := by
  unfold num
  rw [u32_xor_nat _ _ r.isLt s.isLt, BitVec.toNat_xor]

theorem msb_num (r : BitVec 32) : num r / 2147483648 = if r.msb then 1 else 0 := by
  have h := BitVec.msb_eq_decide r
  have hl := r.isLt
  unfold num
  cases hm : r.msb with
  | true => rw [hm] at h; simp at h; simp; omega
  | false => rw [hm] at h; simp at h; simp; omega
theorem msb_one {r : BitVec 32} (h : r.msb = true) : num r / 2147483648 = 1 := by rw [msb_num, h]; rfl
theorem msb_zero {r : BitVec 32} (h : r.msb = false) : num r / 2147483648 = 0 := by rw [msb_num, h]; rfl

theorem shl_num (r : BitVec 32) : num r * (2 : Int) % (4294967296 : Int) = num (r <<< 1) := by
  unfold num
  rw [BitVec.toNat_shiftLeft, Nat.shiftLeft_eq]
  have e : (2 : Nat) ^ 1 = 2 := rfl
  have e2 : (2 : Nat) ^ 32 = 4294967296 := rfl
  rw [e, e2]
  omega
theorem push_up {r p : BitVec 32} {b : Bool} (hp : p = push r b) (h : (r.msb ^^ b) = true) : bits .xor .u32 (num r * (2 : Int) % (4294967296 : Int)) 79764919 = num p := by
  have e : (79764919 : Int) = num poly := by decide
  rw [shl_num, e, num_xor, hp]
  unfold push
  rw [if_pos h]
theorem push_stays {r p : BitVec 32} {b : Bool} (hp : p = push r b) (h : (r.msb ^^ b) = false) : num r * (2 : Int) % (4294967296 : Int) = num p := by
  rw [shl_num, hp]
  unfold push
  rw [if_neg (by rw [h]; decide)]
theorem low {r : BitVec 32} (hm : r.msb = false) : num r * (2 : Int) % (4294967296 : Int) = num r * (2 : Int) := by
  have h0 := msb_zero hm
  have h1 := num_lt r
  omega
theorem push_up_low {r p : BitVec 32} {b : Bool} (hp : p = push r b) (hm : r.msb = false) (h : (r.msb ^^ b) = true) : bits .xor .u32 (num r * (2 : Int)) 79764919 = num p := by
  rw [← low hm]
  exact push_up hp h
theorem push_stays_low {r p : BitVec 32} {b : Bool} (hp : p = push r b) (hm : r.msb = false) (h : (r.msb ^^ b) = false) : num r * (2 : Int) = num p := by
  rw [← low hm]
  exact push_stays hp h

theorem bit_num (z j : Nat) (hz : z < 256) : bits .and .u32 ((z : Int) / 2 ^ (7 - j)) 1 = if z.testBit (7 - j) then 1 else 0 := by
  have e2 : ((z : Int) / 2 ^ (7 - j)) = ((z / 2 ^ (7 - j) : Nat) : Int) := by simp
  have hd : z / 2 ^ (7 - j) ≤ z := Nat.div_le_self _ _
  rw [e2, show (1 : Int) = ((1 : Nat) : Int) from rfl, u32_and_nat _ _ (by omega) (by omega), Nat.and_one_is_mod, Nat.testBit_eq_decide_div_mod_eq]
  by_cases h : z / 2 ^ (7 - j) % 2 = 1
  · rw [h]; rfl
  · rw [(by omega : z / 2 ^ (7 - j) % 2 = 0)]; rfl
theorem bit_one {z j : Nat} (hz : z < 256) (h : z.testBit (7 - j) = true) : bits .and .u32 ((z : Int) / 2 ^ (7 - j)) 1 = 1 := by rw [bit_num z j hz, h]; rfl
theorem bit_zero {z j : Nat} (hz : z < 256) (h : z.testBit (7 - j) = false) : bits .and .u32 ((z : Int) / 2 ^ (7 - j)) 1 = 0 := by rw [bit_num z j hz, h]; rfl

theorem byte_in {r p : BitVec 32} {z : Nat} (hp : p = r ^^^ BitVec.ofNat 32 z <<< 24) (hz : z < 256) : bits .xor .u32 (num r) ((z : Int) * (16777216 : Int)) = num p := by
  have e : (z : Int) * (16777216 : Int) = num (BitVec.ofNat 32 z <<< 24) := by
    unfold num
    rw [BitVec.toNat_shiftLeft, Nat.shiftLeft_eq, BitVec.toNat_ofNat]
    have e1 : (2 : Nat) ^ 24 = 16777216 := rfl
    have e2 : (2 : Nat) ^ 32 = 4294967296 := rfl
    rw [e1, e2]
    omega
  rw [e, num_xor, hp]

theorem flip_right {r p : BitVec 32} (hp : p = ~~~ r) : bits .xor .u32 (num r) 4294967295 = num p := by
  have e : (4294967295 : Int) = num (BitVec.allOnes 32) := by decide
  rw [e, num_xor, hp, BitVec.xor_allOnes]
theorem flip_left {r p : BitVec 32} (hp : p = ~~~ r) : bits .xor .u32 IntKind.u32.max (num r) = num p := by
  have e : IntKind.u32.max = num (BitVec.allOnes 32) := by decide
  rw [e, num_xor, hp, BitVec.allOnes_xor]

theorem sumB_num (m : BitVec 32) (i : Nat) (hi : i < 4) : num m / 2 ^ (8 * (3 - (i : Int))).toNat % 256 = ((sumB m i : Nat) : Int) := by
  have e : (8 * (3 - (i : Int))).toNat = 8 * (3 - i) := by omega
  rw [e]
  unfold sumB num
  simp

end Go.Proofs.Ytmgeifolgdgapaa

namespace Go.Proofs.Ytmgeifolgdgapaa
open Go.RowKit

theorem shift_any (r : BitVec 32) (w : World) :
    Calls Try.prog 63 #[.int .u32 (num r)] w fun e w' => e = .returned (.int .u32 (num (spin r 8))) ∧ w = w' := by
  obtain ⟨l0, l1⟩ := num_lt r
  go_enter Try.func63, Try.ntmps63
  go_wp2
  clear l0 l1
  go_loop [0, 4] (fun x k => ∃ i : Nat, i ≤ 8 ∧ x = .int .u32 (num (spin r i)) ∧ k = .int .i64 (i : Int)) (fun _ k => 8 - (intOf k).toNat)
  case atStart => exact ⟨0, by omega, rfl, rfl⟩
  case round =>
    obtain ⟨i, hi, rfl, rfl⟩ := hrel
    by_cases hk : i < 8
    · obtain ⟨x, hx⟩ : ∃ x, x = spin r i := ⟨_, rfl⟩
      rw [← hx]
      have HX := Lib.hid hx
      clear hx
      obtain ⟨l0, l1⟩ := num_lt x
      cases hm : x.msb with
      | true =>
        have m1 := msb_one hm
        obtain ⟨p, hp⟩ : ∃ p, p = push x false := ⟨_, rfl⟩
        have m2 := push_up hp (by rw [hm]; rfl)
        have HP := Lib.hid hp
        clear hp
        clear hm
        go_wp2
        clear m1 m2
        go_round
        case rel => exact ⟨i + 1, by omega, by rw [HP.out, HX.out]; rfl, by go_num⟩
        case measure => simp [intOf]; omega
      | false =>
        have m1 := msb_zero hm
        obtain ⟨p, hp⟩ : ∃ p, p = push x false := ⟨_, rfl⟩
        have m2 := push_stays_low hp hm (by rw [hm]; rfl)
        have HP := Lib.hid hp
        clear hp
        clear hm
        go_wp2
        clear m1 m2
        go_round
        case rel => exact ⟨i + 1, by omega, by rw [HP.out, HX.out]; rfl, by go_num⟩
        case measure => simp [intOf]; omega
    · obtain rfl : i = 8 := by omega
      go_wp2
      go_ret
      exact ⟨rfl, rfl⟩

theorem sumByte_any (m : BitVec 32) (i : Nat) (w : World) (hi : i < 4) :
    Calls Try.prog 60 #[.int .u32 (num m), .int .i64 (i : Int)] w fun e w' => e = .returned (.int .u8 (sumB m i : Int)) ∧ w = w' := by
  obtain ⟨l0, l1⟩ := num_lt m
  have hs := sumB_num m i hi
  go_enter Try.func60, Try.ntmps60
  go_wp2
  go_ret
  exact ⟨rfl, rfl⟩

theorem more_any (s : BitVec 32) (A : Option Addr) (n c : Nat) (f : Nat → Nat) (w : World) (hn : n ≤ 9223372036854775807) (h : BytesAt w A n f) :
    Calls Try.prog 62 #[.int .u32 (num s), .slice A n c] w fun e w' => e = .returned (.int .u32 (num (more s f n))) ∧ w = w' := by
  have HB := Lib.hid h
  clear h
  obtain ⟨t, ht⟩ : ∃ t, t = ~~~ s := ⟨_, rfl⟩
  have hf := flip_left ht
  have hf2 := flip_right ht
  have HT := Lib.hid ht
  clear ht
  go_enter Try.func62, Try.ntmps62
  go_wp2
  clear hf hf2
  go_loop [5, 12] (fun x k => ∃ i : Nat, i ≤ n ∧ x = .int .u32 (num (reg t f i)) ∧ k = .int .i64 (i : Int)) (fun _ k => n - (intOf k).toNat)
  case atStart => exact ⟨0, by omega, rfl, rfl⟩
  case round =>
    obtain ⟨i, hi, rfl, rfl⟩ := hrel
    obtain ⟨x, hx⟩ : ∃ x, x = reg t f i := ⟨_, rfl⟩
    rw [← hx]
    have HX := Lib.hid hx
    clear hx
    by_cases hk : i < n
    · obtain ⟨ad, rfl⟩ := HB.out.addr (by omega)
      have hc := HB.out.at_ hk
      have hz := HB.out.small i hk
      obtain ⟨z, ez⟩ : ∃ z, z = f i := ⟨_, rfl⟩
      rw [← ez] at hc hz
      have EZ := Lib.hid ez
      clear ez
      obtain ⟨p, hp⟩ : ∃ p, p = x ^^^ BitVec.ofNat 32 z <<< 24 := ⟨_, rfl⟩
      have hb := byte_in hp hz
      have HP := Lib.hid hp
      clear hp
      go_wp2_with fail
      with_reducible refine (shift_any _ _).mono ?_
      rintro e w' ⟨rfl, rfl⟩
      clear hb
      rw [HP.out, spin_byte]
      obtain ⟨q, hq⟩ : ∃ q, q = feed x z 8 := ⟨_, rfl⟩
      rw [← hq]
      have HQ := Lib.hid hq
      clear hq
      go_wp2
      go_round
      case rel => exact ⟨i + 1, by omega, by rw [HQ.out, HX.out, EZ.out]; rfl, by go_num⟩
      case measure => simp [intOf]; omega
    · obtain rfl : i = n := by omega
      obtain ⟨p, hp⟩ : ∃ p, p = ~~~ x := ⟨_, rfl⟩
      have hf := flip_left hp
      have hf2 := flip_right hp
      have HP := Lib.hid hp
      clear hp
      go_wp2
      go_ret
      exact ⟨by rw [HP.out, HX.out, HT.out]; rfl, rfl⟩

theorem sum_any (A : Option Addr) (n c : Nat) (f : Nat → Nat) (w : World) (hn : n ≤ 9223372036854775807) (h : BytesAt w A n f) :
    Calls Try.prog 59 #[.slice A n c] w fun e w' => e = .returned (.int .u32 (num (crc f n))) ∧ w = w' := by
  have HB := Lib.hid h
  clear h
  go_enter Try.func59, Try.ntmps59
  go_wp2_with fail
  refine (more_any 0#32 A n c f w hn HB.out).mono ?_
  rintro e w' ⟨rfl, rfl⟩
  go_wp2
  go_ret
  exact ⟨rfl, rfl⟩

/-- How the document's inner loop stands: j bits of the byte are in. -/
theorem refMore_any (s : BitVec 32) (A : Option Addr) (n c : Nat) (f : Nat → Nat) (w : World) (hn : n ≤ 9223372036854775807) (h : BytesAt w A n f) :
    Calls Try.prog 52 #[.int .u32 (num s), .slice A n c] w fun e w' => e = .returned (.int .u32 (num (more s f n))) ∧ w = w' := by
  have HB := Lib.hid h
  clear h
  obtain ⟨t, ht⟩ : ∃ t, t = ~~~ s := ⟨_, rfl⟩
  have hf := flip_left ht
  have hf2 := flip_right ht
  have HT := Lib.hid ht
  clear ht
  go_enter Try.func52, Try.ntmps52
  go_wp2
  clear hf hf2
  go_loop [5, 6] (fun x k => ∃ i : Nat, i ≤ n ∧ x = .int .u32 (num (reg t f i)) ∧ k = .int .i64 (i : Int)) (fun _ k => n - (intOf k).toNat)
  case atStart => exact ⟨0, by omega, rfl, rfl⟩
  case round =>
    obtain ⟨i, hi, rfl, rfl⟩ := hrel
    obtain ⟨x, hx⟩ : ∃ x, x = reg t f i := ⟨_, rfl⟩
    rw [← hx]
    have HX := Lib.hid hx
    clear hx
    by_cases hk : i < n
    · obtain ⟨ad, rfl⟩ := HB.out.addr (by omega)
      have hc := HB.out.at_ hk
      have hz := HB.out.small i hk
      obtain ⟨z, ez⟩ : ∃ z, z = f i := ⟨_, rfl⟩
      rw [← ez] at hc hz
      have EZ := Lib.hid ez
      clear ez
      go_wp2
      go_loop [5, 7] (fun y k => ∃ j : Nat, j ≤ 8 ∧ y = .int .u32 (num (feed x z j)) ∧ k = .int .i64 (7 - (j : Int))) (fun _ k => (1 + intOf k).toNat)
      case atStart => exact ⟨0, by omega, rfl, rfl⟩
      case round =>
        obtain ⟨j, hj, rfl, rfl⟩ := hrel
        by_cases hj8 : j < 8
        · obtain ⟨y, hy⟩ : ∃ y, y = feed x z j := ⟨_, rfl⟩
          rw [← hy]
          have HY := Lib.hid hy
          clear hy
          obtain ⟨l0, l1⟩ := num_lt y
          have x00 : bits .xor .u32 0 0 = 0 := by decide
          have x01 : bits .xor .u32 0 1 = 1 := by decide
          have x10 : bits .xor .u32 1 0 = 1 := by decide
          have x11 : bits .xor .u32 1 1 = 0 := by decide
          cases hm : y.msb with
          | true =>
            have m1 := msb_one hm
            cases hb : z.testBit (7 - j) with
            | true =>
              have m2 := bit_one hz hb
              obtain ⟨p, hp⟩ : ∃ p, p = push y true := ⟨_, rfl⟩
              have M3 := Lib.hid (push_stays hp (by rw [hm]; rfl))
              have HP := Lib.hid hp
              clear hp
              have HBit := Lib.hid hb
              clear hm hb
              go_wp2
              clear m1 m2 x00 x01 x10 x11
              go_round
              case rel => exact ⟨j + 1, by omega, by rw [M3.out, HP.out, HY.out, ← HBit.out]; rfl, by go_num⟩
              case measure => simp [intOf]; omega
            | false =>
              have m2 := bit_zero hz hb
              obtain ⟨p, hp⟩ : ∃ p, p = push y false := ⟨_, rfl⟩
              have m3 := push_up hp (by rw [hm]; rfl)
              have HP := Lib.hid hp
              clear hp
              have HBit := Lib.hid hb
              clear hm hb
              go_wp2
              clear m1 m2 m3 x00 x01 x10 x11
              go_round
              case rel => exact ⟨j + 1, by omega, by rw [HP.out, HY.out, ← HBit.out]; rfl, by go_num⟩
              case measure => simp [intOf]; omega
          | false =>
            have m1 := msb_zero hm
            cases hb : z.testBit (7 - j) with
            | true =>
              have m2 := bit_one hz hb
              obtain ⟨p, hp⟩ : ∃ p, p = push y true := ⟨_, rfl⟩
              have m3 := push_up_low hp hm (by rw [hm]; rfl)
              have HP := Lib.hid hp
              clear hp
              have HBit := Lib.hid hb
              clear hm hb
              go_wp2
              clear m1 m2 m3 x00 x01 x10 x11
              go_round
              case rel => exact ⟨j + 1, by omega, by rw [HP.out, HY.out, ← HBit.out]; rfl, by go_num⟩
              case measure => simp [intOf]; omega
            | false =>
              have m2 := bit_zero hz hb
              obtain ⟨p, hp⟩ : ∃ p, p = push y false := ⟨_, rfl⟩
              have m3 := push_stays_low hp hm (by rw [hm]; rfl)
              have HP := Lib.hid hp
              clear hp
              have HBit := Lib.hid hb
              clear hm hb
              go_wp2
              clear m1 m2 m3 x00 x01 x10 x11
              go_round
              case rel => exact ⟨j + 1, by omega, by rw [HP.out, HY.out, ← HBit.out]; rfl, by go_num⟩
              case measure => simp [intOf]; omega
        · obtain rfl : j = 8 := by omega
          go_wp2
          go_round
          case rel => exact ⟨i + 1, by omega, by rw [HX.out, EZ.out]; rfl, by go_num⟩
          case measure => simp [intOf]; omega
    · obtain rfl : i = n := by omega
      obtain ⟨p, hp⟩ : ∃ p, p = ~~~ x := ⟨_, rfl⟩
      have hf := flip_left hp
      have hf2 := flip_right hp
      have HP := Lib.hid hp
      clear hp
      go_wp2
      go_ret
      exact ⟨by rw [HP.out, HX.out, HT.out]; rfl, rfl⟩

theorem refSum_any (A : Option Addr) (n c : Nat) (f : Nat → Nat) (w : World) (hn : n ≤ 9223372036854775807) (h : BytesAt w A n f) :
    Calls Try.prog 41 #[.slice A n c] w fun e w' => e = .returned (.int .u32 (num (crc f n))) ∧ w = w' := by
  have HB := Lib.hid h
  clear h
  go_enter Try.func41, Try.ntmps41
  go_wp2_with fail
  refine (refMore_any 0#32 A n c f w hn HB.out).mono ?_
  rintro e w' ⟨rfl, rfl⟩
  go_wp2
  go_ret
  exact ⟨rfl, rfl⟩

end Go.Proofs.Ytmgeifolgdgapaa

namespace Go.Proofs.Ytmgeifolgdgapaa
open Go.RowKit

/-- Bytes copied over the head of a block of 0. -/
theorem splice_pad (f : Nat → Nat) {n k m : Nat} (hm : m = min n k) : splice (cellsOf (fun _ => 0) k) 0 (cellsOf f m) = cellsOf (pad f m) k := by
  apply List.ext_getElem?
  intro i
  unfold splice
  rw [List.take_zero, List.nil_append, Nat.zero_add, cellsOf_length]
  by_cases hi : i < m
  · rw [List.getElem?_append_left (by rw [cellsOf_length]; exact hi), cellsOf_at f hi, cellsOf_at _ (by omega)]
    unfold pad
    rw [if_pos hi]
  · rw [List.getElem?_append_right (by rw [cellsOf_length]; omega), cellsOf_length, List.getElem?_drop]
    by_cases hk : i < k
    · rw [cellsOf_at _ (by omega), cellsOf_at _ hk]
      unfold pad
      rw [if_neg hi]
    · rw [List.getElem?_eq_none (by rw [cellsOf_length]; omega), List.getElem?_eq_none (by rw [cellsOf_length]; omega)]

/-- A sector as far as k bytes of its sum are in. -/
def part (f : Nat → Nat) (n k i : Nat) : Nat := if i < 60 + k then sec f n i else 0
theorem part_zero {f : Nat → Nat} {n : Nat} (hn : n ≤ 60) (i : Nat) : pad f n i = part f n 0 i := by
  unfold part
  by_cases h : i < 60
  · rw [if_pos (by omega), sec_low h]
  · rw [if_neg (by omega)]; unfold pad; rw [if_neg (by omega)]
theorem part_next {f : Nat → Nat} {n k i : Nat} (h : i ≠ 60 + k) : part f n k i = part f n (k + 1) i := by
  unfold part
  by_cases h1 : i < 60 + k
  · rw [if_pos h1, if_pos (by omega)]
  · rw [if_neg h1, if_neg (by omega)]
theorem part_at (f : Nat → Nat) (n k : Nat) : part f n (k + 1) (60 + k) = sumB (crc (pad f n) 60) k := by
  unfold part
  rw [if_pos (by omega), sec_high]
theorem part_hole (f : Nat → Nat) (n k : Nat) : part f n k (60 + k) = 0 := by
  unfold part
  rw [if_neg (by omega)]
theorem part_full (f : Nat → Nat) (n i : Nat) (hi : i < 64) : part f n 4 i = sec f n i := by
  unfold part
  rw [if_pos (by omega)]

theorem close_long (A : Option Addr) (n c : Nat) (w : World) (hn : n ≤ 9223372036854775807) (h : 60 < n) :
    Calls Try.prog 48 #[.slice A n c] w fun e w' => e = .returned (.tuple #[.slice none 0 0, .int .i64 6]) ∧ w = w' := by
  go_enter Try.func48, Try.ntmps48
  go_wp2
  go_ret2
  exact ⟨rfl, rfl⟩

/-- The answer is a row of bytes, and nothing that was there has changed. -/
def Gives (n : Nat) (f : Nat → Nat) (w : World) (e : Ending) (w' : World) : Prop :=
  ∃ v, e = .returned (.tuple #[v, .int .i64 0]) ∧ Row w.heap.size w' v n f ∧ Below w.heap.size w w'

theorem copy_len {f : Nat → Nat} {n : Nat} (h : n ≤ 60) : (cellsOf f n).length = Nat.min n 64 := by
  rw [cellsOf_length]
  exact (Nat.min_eq_left (by omega)).symm
theorem copy_fits {f g : Nat → Nat} {n : Nat} (h : n ≤ 60) : 0 + (cellsOf f n).length ≤ (cellsOf g 64).length := by
  rw [cellsOf_length, cellsOf_length]
  omega

theorem pad_lies {f : Nat → Nat} {n g : Nat} {w : World} (hn : n ≤ 60) (h : w.heap[g]? = some (.cells (splice (cellsOf (fun _ => 0) 64) 0 (cellsOf f n)).toArray 5 (0, 0))) : Lies w g (pad f n) 64 := by
  rw [splice_pad f (n := n) (k := 64) (m := n) (by omega)] at h
  exact h
/-- How Close's loop stands: k bytes of the sum are in. -/
def CloseLoop (f : Nat → Nat) (n : Nat) (w : World) (v : Value) (wr : World) : Prop :=
  ∃ k : Nat, k ≤ 4 ∧ v = .int .i64 (k : Int) ∧ Lies wr w.heap.size (part f n k) 64 ∧ Below w.heap.size w wr

set_option maxRecDepth 20000 in
theorem close_any (A : Option Addr) (n c : Nat) (f : Nat → Nat) (w : World) (hn : n ≤ 60) (h : BytesAt w A n f) :
    Calls Try.prog 48 #[.slice A n c] w (Gives 64 (sec f n) w) := by
  have HB := Lib.hid h
  clear h
  have hlen : decide (60 < (n : Int)) = false := by simp; omega
  have hmk : ∀ u : World, (Instr.makeSlice 28 (.int .i64 64) (.int .i64 64)).run Try.prog u = .ok (.slice (some ⟨u.heap.size, 0, none⟩) 64 64) (u.alloc (.cells (cellsOf (fun _ => 0) 64).toArray 5)) := make_bytes 64 (by omega)
  go_enter Try.func48, Try.ntmps48
  go_wp2_with (refine wpList_copy_splice (o := ⟨some 13, _, _, _, _, _⟩) rfl (.tmp 11) (.tmp 12) 28 28 rfl 5 Try.underlying28 byte_size (some ⟨w.heap.size, 0, none⟩) A 64 64 n c rfl rfl w.heap.size 0 (cellsOf (fun _ => 0) 64) 5 (made_lies w 64) (cellsOf f n) (copy_len hn) (fun hp => ⟨rfl, BytesAt.copied (HB.out.below ((Below.refl _ _).alloc (Nat.le_refl _) _)) (Nat.le_refl _) hp⟩) (copy_fits hn) (cellsOf_one f n) w.heap.size w ((Below.refl _ _).alloc (Nat.le_refl _) _) (Nat.le_refl _) ?_; intro w1 hg1 hb1)
  have HL := Lib.hid (pad_lies hn hg1.out)
  have hb0 := Lib.hid hb1
  have h60 := Lib.hid (pad_lt HB.out.small)
  clear hg1 hb1 hmk HB
  obtain ⟨m, hm⟩ : ∃ m, m = crc (pad f n) 60 := ⟨_, rfl⟩
  with_reducible refine (sum_any (some ⟨w.heap.size, 0, none⟩) 60 64 (pad f n) w1 (by omega) (HL.out.bytes (by omega) (fun i _ => h60.out i))).mono ?_
  rintro e w' ⟨rfl, rfl⟩
  rw [← hm]
  have HM := Lib.hid hm
  clear hm
  go_wp2
  go_loopw [17] (fun k wr => CloseLoop f n w k wr) (fun k _ => 4 - (intOf k).toNat)
  case atStart => exact ⟨0, by omega, rfl, HL.out.congr (fun i _ => part_zero hn i), hb0.out⟩
  case round =>
    obtain ⟨k, hk, rfl, hl, hb⟩ := hrel
    have HL2 := Lib.hid hl
    have HB2 := Lib.hid hb
    clear hl hb HL hb0 h60
    by_cases h4 : k < 4
    · have hc := HL2.out.cell (i := 60 + k) (by omega)
      have hz := HL2.out.free (60 + k)
      go_wp2_with fail
      with_reducible refine (sumByte_any _ _ _ h4).mono ?_
      rintro e w' ⟨rfl, rfl⟩
      go_wp2
      go_roundw
      case rel => exact ⟨k + 1, by omega, by go_num, HL2.out.set_ (by omega) (by rw [part_at, HM.out]) (fun i hi => part_next hi), HB2.out.setCell (Nat.le_refl _) _⟩
      case measure => simp [intOf]; omega
    · obtain rfl : k = 4 := by omega
      go_wp2
      go_ret2
      exact ⟨_, rfl, Row.of_lies (HL2.out.congr (fun i hi => part_full f n i hi)) (Nat.le_refl _) (by omega), HB2.out⟩

/-- How Open's loop stands: the first k bytes of the sum are as they should be. -/
def OpenLoop (j : Nat) (w : World) (v : Value) (wr : World) : Prop := ∃ k m : Nat, k ≤ j ∧ v = .int .i64 (k : Int) ∧ w.drewN m = wr

theorem open_copy {f g : Nat → Nat} : 0 + (cellsOf f 60).length ≤ (cellsOf g 60).length := by
  rw [cellsOf_length, cellsOf_length]
  omega
theorem open_lies {f : Nat → Nat} {g : Nat} {w : World} (h : w.heap[g]? = some (.cells (splice (cellsOf (fun _ => 0) 60) 0 (cellsOf f 60)).toArray 5 (0, 0))) : Lies w g f 60 := by
  rw [splice_pad f (n := 60) (k := 60) (m := 60) (by omega)] at h
  exact Lies.congr (f := pad f 60) h fun i hi => by unfold pad; rw [if_pos hi]

end Go.Proofs.Ytmgeifolgdgapaa

namespace Go.Proofs.Ytmgeifolgdgapaa
open Go.RowKit

def lenOf : Value → Nat
  | .slice _ n _ => n
  | _ => 0

theorem run_bytes2 {w : World} {base n m c : Nat} {v : Value} {f g : Nat → Nat} {A : Option Addr} (ty : TypeId) (h : Own w base v n f) (hv : v ≠ .slice none 0 0) (hs : BytesAt w A m g) (hbare : A = none → c = 0)
    (hm : n + m ≤ 140737488355328) (hb : base ≤ w.heap.size) :
    ∃ v' w', (Builtin.append_ #[28, 28] ty #[v, .slice A m c]).run Try.prog w = .ok v' w' ∧ Own w' base v' (n + m) (behind f n g) ∧ v' ≠ .slice none 0 0 ∧ w.grownBy w' v.ownBlock := by
  obtain ⟨v', w', h1, h2, h3, h4⟩ := run_bytes ty h hs hbare hm hb
  exact ⟨v', w', h1, h2, fun e => hv (h3 e).1, h4⟩
theorem Own.form {w : World} {base n : Nat} {v : Value} {f : Nat → Nat} (h : Own w base v n f) (hv : v ≠ .slice none 0 0) :
    ∃ g cap, v = .slice (some ⟨g, 0, none⟩) n cap ∧ g < w.heap.size ∧ n ≤ cap ∧ cap ≤ 9223372036854775807 := by
  rcases h.2 with ⟨rfl, _⟩ | ⟨g, cap, cur, rfl, _, hg, hnc, hm, _⟩
  · exact absurd rfl hv
  · exact ⟨g, cap, rfl, (Array.getElem?_eq_some_iff.1 hg).1, hnc, by unfold maxLen at hm; omega⟩
theorem Own.bytes {w : World} {base g n cap : Nat} {f : Nat → Nat} (h : Own w base (.slice (some ⟨g, 0, none⟩) n cap) n f) (hf : ∀ i, i < n → f i < 256) : BytesAt w (some ⟨g, 0, none⟩) n f :=
  ⟨hf, fun i hi => ⟨_, rfl, World.ownsRow.cells h (g := g) rfl i _ (cellsOf_at f hi)⟩⟩
theorem zero_new (w : World) : BytesAt (w.alloc (.cells #[.int .u8 0] 5)) (some ⟨w.heap.size, 0, none⟩) 1 (fun _ => 0) :=
  ⟨fun _ _ => by show 0 < 256; omega, fun i hi => ⟨_, rfl, by
    obtain rfl : i = 0 := by omega
    rw [add_nil, World.cell?_alloc_mark]; rfl⟩⟩
theorem four_new (w : World) (s : BitVec 32) : BytesAt (w.alloc (.cells #[.int .u8 (sumB s 0), .int .u8 (sumB s 1), .int .u8 (sumB s 2), .int .u8 (sumB s 3)] 5)) (some ⟨w.heap.size, 0, none⟩) 4 (sumB s) :=
  ⟨fun _ _ => sumB_lt _ _, fun i hi => ⟨_, rfl, by
    rcases (by omega : i = 0 ∨ i = 1 ∨ i = 2 ∨ i = 3) with rfl | rfl | rfl | rfl <;> (rw [add_nil, World.cell?_alloc_mark]; rfl)⟩⟩

theorem sum_0 (s : BitVec 32) : num s / 16777216 % 256 = (sumB s 0 : Int) := by unfold sumB num; simp
theorem sum_1 (s : BitVec 32) : num s / 65536 % 256 = (sumB s 1 : Int) := by unfold sumB num; simp
theorem sum_2 (s : BitVec 32) : num s / 256 % 256 = (sumB s 2 : Int) := by unfold sumB num; simp
theorem sum_3 (s : BitVec 32) : num s % 256 = (sumB s 3 : Int) := by unfold sumB num; simp

/-- How the document's loop stands: m bytes, those behind n being 0. -/
def PadLoop (f : Nat → Nat) (n : Nat) (w : World) (v : Value) (wr : World) : Prop :=
  ∃ m : Nat, n ≤ m ∧ m ≤ 60 ∧ (∃ g cap, v = .slice (some ⟨g, 0, none⟩) m cap ∧ m ≤ cap ∧ cap ≤ 9223372036854775807) ∧ Own wr w.heap.size v m (pad f n) ∧ Below w.heap.size w wr

theorem refClose_long (A : Option Addr) (n c : Nat) (w : World) (hn : n ≤ 9223372036854775807) (h : 60 < n) :
    Calls Try.prog 27 #[.slice A n c] w fun e w' => e = .returned (.tuple #[.slice none 0 0, .int .i64 6]) ∧ w = w' := by
  go_enter Try.func27, Try.ntmps27
  go_wp2
  go_ret2
  exact ⟨rfl, rfl⟩

set_option maxRecDepth 20000 in
theorem refClose_any (A : Option Addr) (n c : Nat) (f : Nat → Nat) (w : World) (hn : n ≤ 60) (h : BytesAt w A n f) (hbare : A = none → c = 0) :
    Calls Try.prog 27 #[.slice A n c] w (Gives 64 (sec f n) w) := by
  have F := Lib.hid h.small
  have hb0 : Below w.heap.size w (w.alloc (.cells #[] 5)) := (Below.refl _ _).alloc (Nat.le_refl _) _
  obtain ⟨v1, w1, r1, o1, n1, g1⟩ := run_bytes2 (c := c) 28 (own_new w f) (by intro e; cases e) (h.below hb0) hbare (by omega) hb0.size
  have hb1 : Below w.heap.size w w1 := (own_new w f).grown_below hb0 (Nat.le_refl _) hb0.size g1
  rw [Nat.zero_add] at o1
  have o1' : Own w1 w.heap.size v1 n (pad f n) := o1.congr fun i hi => by unfold behind pad; rw [if_pos hi, if_neg (by omega)]; rfl
  have hform : ∃ g cap, v1 = .slice (some ⟨g, 0, none⟩) n cap ∧ n ≤ cap ∧ cap ≤ 9223372036854775807 := by obtain ⟨g, cap, e, _, h1, h2⟩ := o1'.form n1; exact ⟨g, cap, e, h1, h2⟩
  have R1 := Lib.hid r1
  have O1 := Lib.hid o1'
  have B1 := Lib.hid hb1
  have V1 := Lib.hid hform
  clear r1 o1 o1' hb1 hb0 n1 g1 h hform
  have hlen : decide (60 < (n : Int)) = false := by simp; omega
  go_enter Try.func27, Try.ntmps27
  go_wp2_with (at_builtin; refine Lib.wpList_append_run _ rfl (.tmp 9) (.tmp 10) _ _ rfl _ _ rfl rfl _ _ R1.out ?_)
  go_loopw [4] (fun v wr => PadLoop f n w v wr) (fun v _ => 60 - lenOf v)
  case atStart => exact ⟨n, Nat.le_refl _, hn, V1.out, O1.out, B1.out⟩
  case round =>
    clear R1 O1 B1 V1
    obtain ⟨m, hnm, hm, ⟨g, cap, rfl, hcap, hcap2⟩, ho, hb⟩ := hrel
    have HB := Lib.hid hb
    have HO := Lib.hid ho
    clear ho hb
    by_cases h60 : m < 60
    · have hbx : Below w.heap.size w (wr.alloc (.cells #[.int .u8 0] 5)) := HB.out.alloc HB.out.size _
      obtain ⟨v2, w2, r2, o2, n2, g2⟩ := run_bytes2 (c := 1) 28 (HO.out.alloc (.cells #[.int .u8 0] 5)) (by intro e; cases e) (zero_new wr) (by intro e; cases e) (by omega) hbx.size
      have hb2 : Below w.heap.size w w2 := (HO.out.alloc (.cells #[.int .u8 0] 5)).grown_below hbx (Nat.le_refl _) hbx.size g2
      have o3 : Own w2 w.heap.size v2 (m + 1) (pad f n) := o2.congr fun i hi => by
        unfold behind
        by_cases him : i < m
        · rw [if_pos him]
        · rw [if_neg him]; unfold pad; rw [if_neg (by omega)]
      obtain ⟨g3, cap3, hv3, _, hcap3, hcap4⟩ := o3.form n2
      subst hv3
      have R2 := Lib.hid r2
      have O3 := Lib.hid o3
      have B2 := Lib.hid hb2
      clear r2 o2 o3 hb2 g2 n2 hbx
      go_wp2_with (at_builtin; refine Lib.wpList_append_run _ rfl (.tmp 15) (.tmp 16) _ _ rfl _ _ rfl rfl _ _ R2.out ?_)
      go_roundw
      case rel => exact ⟨m + 1, by omega, by omega, ⟨_, _, rfl, hcap3, hcap4⟩, O3.out, B2.out⟩
      case measure => simp [lenOf]; omega
    · obtain rfl : m = 60 := by omega
      have P := Lib.hid (fun i => pad_lt F.out i)
      obtain ⟨s, es⟩ : ∃ s, s = crc (pad f n) 60 := ⟨_, rfl⟩
      have ES := Lib.hid es
      have t0 := sum_0 s
      have t1 := sum_1 s
      have t2 := sum_2 s
      have t3 := sum_3 s
      clear es
      have hbx : Below w.heap.size w (wr.alloc (.cells #[.int .u8 (sumB s 0), .int .u8 (sumB s 1), .int .u8 (sumB s 2), .int .u8 (sumB s 3)] 5)) := HB.out.alloc HB.out.size _
      obtain ⟨v2, w2, r2, o2, n2, g2⟩ := run_bytes2 (c := 4) 28 (HO.out.alloc (.cells #[.int .u8 (sumB s 0), .int .u8 (sumB s 1), .int .u8 (sumB s 2), .int .u8 (sumB s 3)] 5)) (by intro e; cases e) (four_new wr s) (by intro e; cases e) (by omega) hbx.size
      have hb2 : Below w.heap.size w w2 := (HO.out.alloc (.cells #[.int .u8 (sumB s 0), .int .u8 (sumB s 1), .int .u8 (sumB s 2), .int .u8 (sumB s 3)] 5)).grown_below hbx (Nat.le_refl _) hbx.size g2
      have o3 : Own w2 w.heap.size v2 64 (sec f n) := Own.congr (n := 60 + 4) o2 fun i hi => by
        unfold behind sec
        by_cases h : i < 60
        · rw [if_pos h, if_pos h]
        · rw [if_neg h, if_neg h, ES.out]
      have R2 := Lib.hid r2
      have O3 := Lib.hid (o3.row n2)
      have B2 := Lib.hid hb2
      clear r2 o2 o3 hb2 g2 n2 hbx
      go_wp2_with fail
      with_reducible refine (refSum_any _ _ _ _ _ (by omega) (HO.out.bytes (fun i _ => P.out i))).mono ?_
      rintro e w' ⟨rfl, rfl⟩
      rw [← ES.out]
      go_wp2_with (at_builtin; refine Lib.wpList_append_run _ rfl (.tmp 20) (.tmp 32) _ _ rfl _ _ rfl rfl _ _ R2.out ?_)
      go_ret2
      exact ⟨_, rfl, O3.out, B2.out⟩

/-- Whether 64 bytes are a sealed sector: as the document says it, and as the four bytes say it. -/
theorem sealed_text {f : Nat → Nat} (hf : ∀ i, i < 64 → f i < 256) : ((str (sec f 60) 64).toList == (str f 64).toList) = true ↔ ∀ i, i < 4 → f (60 + i) = sumB (crc f 60) i := by
  have hp : crc (pad f 60) 60 = crc f 60 := crc_congr fun i hi => by unfold pad; rw [if_pos hi]
  constructor
  · intro h i hi
    have := str_inj (fun j _ => sec_lt (fun j hj => hf j (by omega)) j) hf h (60 + i) (by omega)
    rw [← this, sec_high, hp]
  · intro h
    refine str_same fun i hi => ?_
    by_cases h60 : i < 60
    · rw [sec_low h60]; unfold pad; rw [if_pos h60]
    · obtain ⟨j, rfl⟩ : ∃ j, i = 60 + j := ⟨i - 60, by omega⟩
      rw [sec_high, hp, h j (by omega)]

theorem refOpen_len (A : Option Addr) (n c : Nat) (w : World) (h : n ≠ 64) :
    Calls Try.prog 23 #[.slice A n c] w fun e w' => e = .returned (.tuple #[.slice none 0 0, .int .i64 6]) ∧ w = w' := by
  have h1 : ((n : Int) == 64) = false := by simp; omega
  have h2 : ((n : Int) != 64) = true := by simp; omega
  clear h
  go_enter Try.func23, Try.ntmps23
  go_wp2
  go_ret2
  exact ⟨rfl, rfl⟩

theorem refOpen_bad (ad : Addr) (c : Nat) (f : Nat → Nat) (w : World) (hc : 64 ≤ c) (hm : c ≤ 9223372036854775807) (h : BytesAt w (some ad) 64 f) (hno : ¬ ∀ i, i < 4 → f (60 + i) = sumB (crc f 60) i) :
    Calls Try.prog 23 #[.slice (some ad) 64 c] w fun e w' => e = .returned (.tuple #[.slice none 0 0, .int .i64 2]) ∧ Below w.heap.size w w' := by
  have HB := Lib.hid h
  obtain ⟨X, eX⟩ : ∃ X, X = str (sec f 60) 64 := ⟨_, rfl⟩
  obtain ⟨Y, eY⟩ : ∃ Y, Y = str f 64 := ⟨_, rfl⟩
  have ht : (X.toList == Y.toList) = false := by
    cases e : (X.toList == Y.toList) with
    | true => rw [eX, eY] at e; exact absurd ((sealed_text h.small).1 e) hno
    | false => rfl
  have F := Lib.hid (fun i => sec_lt (n := 60) (fun j hj => h.small j (by omega)) i)
  have EX := Lib.hid eX
  have EY := Lib.hid eY
  clear h hno eX eY
  go_enter Try.func23, Try.ntmps23
  go_wp2_with fail
  with_reducible refine (refClose_any (some ad) 60 _ f _ (by omega) (HB.out.first (by omega)) (by intro e; cases e)).mono ?_
  rintro e w1 ⟨v, rfl, hr, hb⟩
  obtain ⟨g, cap, rfl, _, _, hcap, hcap2, hy⟩ := hr.bytes (Nat.le_refl _) (fun i _ => F.out i)
  have c1 : (convert 28 9 (.slice (some ⟨g, 0, none⟩) 64 cap)).run Try.prog w1 = .ok (.string X) w1 := by rw [EX.out]; exact conv_str cap hy
  have c2 : (convert 28 9 (.slice (some ad) 64 c)).run Try.prog w1 = .ok (.string Y) w1 := by rw [EY.out]; exact conv_str c (HB.out.below hb)
  have B1 := Lib.hid hb
  clear hr hy hb
  go_wp2
  go_ret2
  exact ⟨rfl, B1.out⟩

theorem refOpen_ok (ad : Addr) (c : Nat) (f : Nat → Nat) (w : World) (hc : 64 ≤ c) (hm : c ≤ 9223372036854775807) (h : BytesAt w (some ad) 64 f) (hyes : ∀ i, i < 4 → f (60 + i) = sumB (crc f 60) i) :
    Calls Try.prog 23 #[.slice (some ad) 64 c] w (Gives 60 f w) := by
  have HB := Lib.hid h
  obtain ⟨X, eX⟩ : ∃ X, X = str (sec f 60) 64 := ⟨_, rfl⟩
  obtain ⟨Y, eY⟩ : ∃ Y, Y = str f 64 := ⟨_, rfl⟩
  have ht : (X.toList == Y.toList) = true := by rw [eX, eY]; exact (sealed_text h.small).2 hyes
  have F := Lib.hid (fun i => sec_lt (n := 60) (fun j hj => h.small j (by omega)) i)
  have EX := Lib.hid eX
  have EY := Lib.hid eY
  clear h hyes eX eY
  go_enter Try.func23, Try.ntmps23
  go_wp2_with fail
  with_reducible refine (refClose_any (some ad) 60 _ f _ (by omega) (HB.out.first (by omega)) (by intro e; cases e)).mono ?_
  rintro e w1 ⟨v, rfl, hr, hb⟩
  obtain ⟨g, cap, rfl, _, _, hcap, hcap2, hy⟩ := hr.bytes (Nat.le_refl _) (fun i _ => F.out i)
  have c1 : (convert 28 9 (.slice (some ⟨g, 0, none⟩) 64 cap)).run Try.prog w1 = .ok (.string X) w1 := by rw [EX.out]; exact conv_str cap hy
  have c2 : (convert 28 9 (.slice (some ad) 64 c)).run Try.prog w1 = .ok (.string Y) w1 := by rw [EY.out]; exact conv_str c (HB.out.below hb)
  have hbx : Below w1.heap.size w1 (w1.alloc (.cells #[] 5)) := (Below.refl _ _).alloc (Nat.le_refl _) _
  obtain ⟨v2, w2, r2, o2, n2, g2⟩ := run_bytes2 (c := c) 28 (own_new w1 f) (by intro e; cases e) (((HB.out.below hb).first (m := 60) (by omega)).below hbx) (by intro e; cases e) (by omega) hbx.size
  have hb2 : Below w1.heap.size w1 w2 := (own_new w1 f).grown_below hbx (Nat.le_refl _) hbx.size g2
  rw [Nat.zero_add] at o2
  have o3 : Own w2 w1.heap.size v2 60 f := o2.congr fun i _ => by unfold behind; rw [if_neg (by omega)]; rfl
  have R2 := Lib.hid r2
  have O3 := Lib.hid (o3.row n2)
  have B2 : Hid (Below w.heap.size w w2) := Lib.hid (hb.trans (hb2.mono hb.size))
  have S1 := Lib.hid hb.size
  clear hr hy hb hbx r2 o2 o3 n2 g2 hb2
  go_wp2_with (at_builtin; refine Lib.wpList_append_run _ rfl (.tmp 20) (.tmp 22) _ _ rfl _ _ rfl rfl _ _ R2.out ?_)
  go_ret2
  obtain ⟨g5, cap5, cur5, e5, h5, r5⟩ := O3.out
  exact ⟨_, rfl, ⟨g5, cap5, cur5, e5, Nat.le_trans S1.out h5, r5⟩, B2.out⟩

end Go.Proofs.Ytmgeifolgdgapaa

namespace Go.Proofs.Ytmgeifolgdgapaa
open Go.RowKit

/-- Bytes that are a sealed sector. -/
def Sealed (n : Nat) (f : Nat → Nat) : Prop := n = 64 ∧ ∀ i, i < 4 → f (60 + i) = sumB (crc f 60) i
theorem refOpen_any (v : Value) (n : Nat) (f : Nat → Nat) (w : World) (hv : Reads w v n f) :
    Calls Try.prog 23 #[v] w fun e w' =>
      (Sealed n f ∧ Gives 60 f w e w') ∨ (¬ Sealed n f ∧ ∃ x : Int, x ≠ 0 ∧ e = .returned (.tuple #[.slice none 0 0, .int .i64 x]) ∧ Below w.heap.size w w') := by
  obtain ⟨A, c, rfl, p1, p2, p3, p4⟩ := hv
  by_cases h64 : n = 64
  · subst h64
    obtain ⟨ad, rfl⟩ := p4.addr (by omega)
    by_cases hs : ∀ i, i < 4 → f (60 + i) = sumB (crc f 60) i
    · exact (refOpen_ok ad c f w p1 p2 p4 hs).mono fun e w' h => .inl ⟨⟨rfl, hs⟩, h⟩
    · exact (refOpen_bad ad c f w p1 p2 p4 hs).mono fun e w' h => .inr ⟨fun k => hs k.2, 2, by omega, h⟩
  · refine (refOpen_len A n c w h64).mono fun e w' h => .inr ⟨fun k => h64 k.1, 6, by omega, ?_⟩
    obtain ⟨he, hw⟩ := h
    exact ⟨he, by rw [← hw]; exact Below.refl _ _⟩

theorem Gives.reads {n : Nat} {f : Nat → Nat} {w w' : World} {e : Ending} (h : Gives n f w e w') (hf : ∀ i, i < n → f i < 256) :
    ∃ v, e = .returned (.tuple #[v, .int .i64 0]) ∧ Reads w' v n f ∧ Below w.heap.size w w' := by
  obtain ⟨v, he, hr, hb⟩ := h
  obtain ⟨g, cap, rfl, _, _, h1, h2, hs⟩ := hr.bytes (Nat.le_refl _) hf
  exact ⟨_, he, ⟨_, _, rfl, h1, h2, (by intro e; cases e), hs⟩, hb⟩
end Go.Proofs.Ytmgeifolgdgapaa

