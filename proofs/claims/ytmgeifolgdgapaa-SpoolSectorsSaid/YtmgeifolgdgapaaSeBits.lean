
/- How the register's steps read as whole numbers. -/
import Derived.Test.YtmgeifolgdgapaaSeMath
import Derived.Laws.Shifts
namespace Go.Proofs.Ytmgeifolgdgapaa

/-- The register as a whole number. -/
def num (r : BitVec 32) : Int := (r.toNat : Int)

theorem num_lt (r : BitVec 32) : 0 ≤ num r ∧ num r ≤ 4294967295 := by
  have := r.isLt
  unfold num
  omega
theorem num_inj {r s : BitVec 32} (h : num r = num s) : r = s := by
  unfold num at h
  exact BitVec.eq_of_toNat_eq (by omega)
theorem num_of (x : Int) (h0 : 0 ≤ x) (h1 : x ≤ 4294967295) : ∃ r, x = num r := by
  refine ⟨BitVec.ofNat 32 x.toNat, ?_⟩
  unfold num
  rw [BitVec.toNat_ofNat]
  omega
theorem num_ne {r s : BitVec 32} (h : r ≠ s) : num r ≠ num s := fun e => h (num_inj e)
theorem num_eq_dec (r s : BitVec 32) : decide (num r = num s) = decide (r = s) := by
  by_cases h : r = s
  · rw [h]; simp
  · rw [decide_eq_false h, decide_eq_false (num_ne h)]

theorem num_xor (r s : BitVec 32) : bits .xor .u32 (num r) (num s) = num (r ^^^ s) := by
  unfold num
  rw [u32_xor_nat _ _ r.isLt s.isLt, BitVec.toNat_xor]

theorem msb_num (r : BitVec 32) : num r / 2147483648 = if r.msb then 1 else 0 := by
  have h := BitVec.msb_eq_decide r
  have hl := r.isLt
  unfold num
  cases hm : r.msb with
  | true => rw [hm] at h; simp at h; simp; omega
  | false => rw [hm] at h; simp at h; simp; omega
theorem msb_one {r : BitVec 32} (h : r.msb = true) : num r / 2147483648 = 1 := by rw [msb_num, h]; rfl
theorem msb_zero {r : BitVec 32} (h : r.msb = false) : num r / 2147483648 = 0 := by rw [msb_num, h]; rfl

theorem shl_num (r : BitVec 32) : num r * (2 : Int) % (4294967296 : Int) = num (r <<< 1) := by
  unfold num
  rw [BitVec.toNat_shiftLeft, Nat.shiftLeft_eq]
  have e : (2 : Nat) ^ 1 = 2 := rfl
  have e2 : (2 : Nat) ^ 32 = 4294967296 := rfl
  rw [e, e2]
  omega
theorem push_up {r p : BitVec 32} {b : Bool} (hp : p = push r b) (h : (r.msb ^^ b) = true) : bits .xor .u32 (num r * (2 : Int) % (4294967296 : Int)) 79764919 = num p := by
  have e : (79764919 : Int) = num poly := by decide
  rw [shl_num, e, num_xor, hp]
  unfold push
  rw [if_pos h]
theorem push_stays {r p : BitVec 32} {b : Bool} (hp : p = push r b) (h : (r.msb ^^ b) = false) : num r * (2 : Int) % (4294967296 : Int) = num p := by
  rw [shl_num, hp]
  unfold push
  rw [if_neg (by rw [h]; decide)]
theorem low {r : BitVec 32} (hm : r.msb = false) : num r * (2 : Int) % (4294967296 : Int) = num r * (2 : Int) := by
  have h0 := msb_zero hm
  have h1 := num_lt r
  omega
theorem push_up_low {r p : BitVec 32} {b : Bool} (hp : p = push r b) (hm : r.msb = false) (h : (r.msb ^^ b) = true) : bits .xor .u32 (num r * (2 : Int)) 79764919 = num p := by
  rw [← low hm]
  exact push_up hp h
theorem push_stays_low {r p : BitVec 32} {b : Bool} (hp : p = push r b) (hm : r.msb = false) (h : (r.msb ^^ b) = false) : num r * (2 : Int) = num p := by
  rw [← low hm]
  exact push_stays hp h

theorem bit_num (z j : Nat) (hz : z < 256) : bits .and .u32 ((z : Int) / 2 ^ (7 - j)) 1 = if z.testBit (7 - j) then 1 else 0 := by
  have e2 : ((z : Int) / 2 ^ (7 - j)) = ((z / 2 ^ (7 - j) : Nat) : Int) := by simp
  have hd : z / 2 ^ (7 - j) ≤ z := Nat.div_le_self _ _
  rw [e2, show (1 : Int) = ((1 : Nat) : Int) from rfl, u32_and_nat _ _ (by omega) (by omega), Nat.and_one_is_mod, Nat.testBit_eq_decide_div_mod_eq]
  by_cases h : z / 2 ^ (7 - j) % 2 = 1
  · rw [h]; rfl
  · rw [(by omega : z / 2 ^ (7 - j) % 2 = 0)]; rfl
theorem bit_one {z j : Nat} (hz : z < 256) (h : z.testBit (7 - j) = true) : bits .and .u32 ((z : Int) / 2 ^ (7 - j)) 1 = 1 := by rw [bit_num z j hz, h]; rfl
theorem bit_zero {z j : Nat} (hz : z < 256) (h : z.testBit (7 - j) = false) : bits .and .u32 ((z : Int) / 2 ^ (7 - j)) 1 = 0 := by rw [bit_num z j hz, h]; rfl

theorem byte_in {r p : BitVec 32} {z : Nat} (hp : p = r ^^^ BitVec.ofNat 32 z <<< 24) (hz : z < 256) : bits .xor .u32 (num r) ((z : Int) * (16777216 : Int)) = num p := by
  have e : (z : Int) * (16777216 : Int) = num (BitVec.ofNat 32 z <<< 24) := by
    unfold num
    rw [BitVec.toNat_shiftLeft, Nat.shiftLeft_eq, BitVec.toNat_ofNat]
    have e1 : (2 : Nat) ^ 24 = 16777216 := rfl
    have e2 : (2 : Nat) ^ 32 = 4294967296 := rfl
    rw [e1, e2]
    omega
  rw [e, num_xor, hp]

theorem flip_right {r p : BitVec 32} (hp : p = ~~~ r) : bits .xor .u32 (num r) 4294967295 = num p := by
  have e : (4294967295 : Int) = num (BitVec.allOnes 32) := by decide
  rw [e, num_xor, hp, BitVec.xor_allOnes]
theorem flip_left {r p : BitVec 32} (hp : p = ~~~ r) : bits .xor .u32 IntKind.u32.max (num r) = num p := by
  have e : IntKind.u32.max = num (BitVec.allOnes 32) := by decide
  rw [e, num_xor, hp, BitVec.allOnes_xor]

theorem sumB_num (m : BitVec 32) (i : Nat) (hi : i < 4) : num m / 2 ^ (8 * (3 - (i : Int))).toNat % 256 = ((sumB m i : Nat) : Int) := by
  have e : (8 * (3 - (i : Int))).toNat = 8 * (3 - i) := by omega
  rw [e]
  unfold sumB num
  simp

end Go.Proofs.Ytmgeifolgdgapaa
