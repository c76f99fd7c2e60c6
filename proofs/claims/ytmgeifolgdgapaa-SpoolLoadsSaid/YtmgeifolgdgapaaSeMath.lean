
/- CRC-32 with its highest bit first, over bytes as a function of their places: plain, nothing of the program. -/
import Derived.Laws.BitsAllLaws
import Derived.Test.YtmgeifolgdgapaaMerge3
namespace Go.Proofs.Ytmgeifolgdgapaa

def poly : BitVec 32 := 0x04C11DB7#32

/-- The register takes one bit. -/
def push (r : BitVec 32) (b : Bool) : BitVec 32 := if (r.msb ^^ b) then (r <<< 1) ^^^ poly else r <<< 1
/-- The highest k bits of a byte. -/
def feed (r : BitVec 32) (z : Nat) : Nat → BitVec 32
  | 0 => r
  | k + 1 => push (feed r z k) (z.testBit (7 - k))
/-- The first n bytes. -/
def reg (r : BitVec 32) (f : Nat → Nat) : Nat → BitVec 32
  | 0 => r
  | n + 1 => feed (reg r f n) (f n) 8
/-- The register turns k times, nothing comes in. -/
def spin (r : BitVec 32) : Nat → BitVec 32
  | 0 => r
  | k + 1 => push (spin r k) false
def more (s : BitVec 32) (f : Nat → Nat) (n : Nat) : BitVec 32 := ~~~ (reg (~~~ s) f n)
def crc (f : Nat → Nat) (n : Nat) : BitVec 32 := more 0#32 f n

theorem poly_self (x y : BitVec 32) : x ^^^ poly ^^^ (y ^^^ poly) = x ^^^ y := by
  rw [BitVec.xor_assoc, ← BitVec.xor_assoc poly y poly, BitVec.xor_comm poly y, BitVec.xor_assoc y, BitVec.xor_self, BitVec.xor_zero]

theorem push_xor (r s : BitVec 32) (b c : Bool) : push (r ^^^ s) (b ^^ c) = push r b ^^^ push s c := by
  unfold push
  rw [BitVec.msb_xor, BitVec.shiftLeft_xor_distrib]
  cases r.msb <;> cases s.msb <;> cases b <;> cases c <;> simp <;> first | exact (poly_self _ _).symm | ac_rfl

theorem feed_xor (r s : BitVec 32) (y z k : Nat) : feed (r ^^^ s) (y ^^^ z) k = feed r y k ^^^ feed s z k := by
  induction k with
  | zero => rfl
  | succ k ih => simp only [feed]; rw [ih, Nat.testBit_xor, push_xor]

theorem reg_xor (r s : BitVec 32) (f g : Nat → Nat) (n : Nat) : reg (r ^^^ s) (fun i => f i ^^^ g i) n = reg r f n ^^^ reg s g n := by
  induction n with
  | zero => rfl
  | succ n ih => simp only [reg]; rw [ih, feed_xor]

theorem reg_congr {r : BitVec 32} {f g : Nat → Nat} {n : Nat} (h : ∀ i, i < n → f i = g i) : reg r f n = reg r g n := by
  induction n with
  | zero => rfl
  | succ n ih => simp only [reg]; rw [ih (fun i hi => h i (by omega)), h n (by omega)]

theorem more_congr {s : BitVec 32} {f g : Nat → Nat} {n : Nat} (h : ∀ i, i < n → f i = g i) : more s f n = more s g n := by
  unfold more; rw [reg_congr h]
theorem crc_congr {f g : Nat → Nat} {n : Nat} (h : ∀ i, i < n → f i = g i) : crc f n = crc g n := more_congr h

theorem reg_behind (r : BitVec 32) (f g : Nat → Nat) (n m : Nat) : reg r (behind f n g) (n + m) = reg (reg r f n) g m := by
  induction m with
  | zero => exact reg_congr fun i hi => by unfold behind; rw [if_pos (by omega)]
  | succ m ih =>
    rw [← Nat.add_assoc]
    simp only [reg]
    rw [ih]
    congr 1
    unfold behind
    rw [if_neg (by omega)]
    congr 1
    omega

theorem not_not (x : BitVec 32) : ~~~ (~~~ x) = x := by simp

/-- A text may be summed in two parts. -/
theorem more_behind (s : BitVec 32) (f g : Nat → Nat) (n m : Nat) : more (more s f n) g m = more s (behind f n g) (n + m) := by
  unfold more
  rw [not_not, reg_behind]
theorem crc_behind (f g : Nat → Nat) (n m : Nat) : more (crc f n) g m = crc (behind f n g) (n + m) := more_behind _ _ _ _ _

/-- Of three texts of one length, added, the sum is the three sums, added. -/
theorem crc_three (f g h : Nat → Nat) (n : Nat) : crc (fun i => f i ^^^ g i ^^^ h i) n = crc f n ^^^ crc g n ^^^ crc h n := by
  unfold crc more
  have e : (~~~ 0#32) = (~~~ 0#32) ^^^ (~~~ 0#32) ^^^ (~~~ 0#32) := by decide
  have h3 := reg_xor ((~~~ 0#32) ^^^ (~~~ 0#32)) (~~~ 0#32) (fun i => f i ^^^ g i) h n
  rw [← e, reg_xor] at h3
  rw [h3]
  apply BitVec.eq_of_getElem_eq
  intro i hi
  simp only [BitVec.getElem_not, BitVec.getElem_xor]
  cases (reg (~~~ 0#32) f n)[i] <;> cases (reg (~~~ 0#32) g n)[i] <;> cases (reg (~~~ 0#32) h n)[i] <;> rfl

/-! ### the register, turned as the program turns it -/

theorem high_bit (z k : Nat) (hk : k < 8) : (BitVec.ofNat 32 z <<< (24 + k)).msb = z.testBit (7 - k) := by
  rw [BitVec.msb_eq_getLsbD_last, BitVec.getLsbD_shiftLeft, BitVec.getLsbD_ofNat]
  have e : 32 - 1 - (24 + k) = 7 - k := by omega
  rw [e]
  have h1 : decide (32 - 1 < 32) = true := by decide
  have h2 : decide (32 - 1 < 24 + k) = false := by simp; omega
  have h3 : decide (7 - k < 32) = true := by simp; omega
  rw [h1, h2, h3]
  simp

theorem spin_feed (r : BitVec 32) (z k : Nat) (hk : k ≤ 8) : spin (r ^^^ BitVec.ofNat 32 z <<< 24) k = feed r z k ^^^ BitVec.ofNat 32 z <<< (24 + k) := by
  induction k with
  | zero => rfl
  | succ k ih =>
    simp only [spin, feed]
    rw [ih (by omega)]
    have hb : false = (z.testBit (7 - k) ^^ z.testBit (7 - k)) := by cases z.testBit (7 - k) <;> rfl
    rw [hb, push_xor]
    congr 1
    unfold push
    rw [high_bit z k (by omega)]
    cases z.testBit (7 - k) <;> simp [BitVec.shiftLeft_add]

theorem spin_byte (r : BitVec 32) (z : Nat) : spin (r ^^^ BitVec.ofNat 32 z <<< 24) 8 = feed r z 8 := by
  rw [spin_feed r z 8 (Nat.le_refl _)]
  have e : BitVec.ofNat 32 z <<< (24 + 8) = 0#32 := BitVec.shiftLeft_eq_zero (by omega)
  rw [e, BitVec.xor_zero]

/-! ### a burst of turned bits is found -/

theorem push_zero : push 0#32 false = 0#32 := by decide
theorem push_ne {r : BitVec 32} (h : r ≠ 0#32) : push r false ≠ 0#32 := by
  intro e
  unfold push at e
  cases hm : r.msb with
  | true =>
    rw [hm] at e
    have h0 := congrArg (fun x => x.getLsbD 0) e
    simp [poly] at h0
  | false =>
    rw [hm] at e
    simp at e
    apply h
    apply BitVec.eq_of_getLsbD_eq
    intro i hi
    have hb := congrArg (fun x => x.getLsbD (i + 1)) e
    simp at hb
    by_cases h31 : i = 31
    · subst h31
      rw [BitVec.msb_eq_getLsbD_last] at hm
      simpa using hm
    · simpa using hb (by omega)

theorem spin_zero (k : Nat) : spin 0#32 k = 0#32 := by
  induction k with
  | zero => rfl
  | succ k ih => simp only [spin]; rw [ih, push_zero]
theorem spin_ne {r : BitVec 32} (h : r ≠ 0#32) (k : Nat) : spin r k ≠ 0#32 := by
  induction k with
  | zero => exact h
  | succ k ih => exact push_ne ih

theorem feed_nothing (r : BitVec 32) (k : Nat) : feed r 0 k = spin r k := by
  induction k with
  | zero => rfl
  | succ k ih => simp only [feed, spin]; rw [ih, Nat.zero_testBit]

theorem spin_xor (r s : BitVec 32) (k : Nat) : spin (r ^^^ s) k = spin r k ^^^ spin s k := by
  have h := feed_xor r s 0 0 k
  rw [Nat.xor_self] at h
  rw [← feed_nothing, ← feed_nothing, ← feed_nothing]
  exact h
theorem spin_add (r : BitVec 32) (j k : Nat) : spin r (j + k) = spin (spin r j) k := by
  induction k with
  | zero => rfl
  | succ k ih => rw [← Nat.add_assoc]; simp only [spin]; rw [ih]

/-- Byte i of a number of four, byte 0 the highest. -/
def sumB (m : BitVec 32) (i : Nat) : Nat := m.toNat / 2 ^ (8 * (3 - i)) % 256

theorem sumB_lt (m : BitVec 32) (i : Nat) : sumB m i < 256 := Nat.mod_lt _ (by omega)
theorem sumB_bit (m : BitVec 32) {i k : Nat} (hi : i < 4) (hk : k < 8) : (sumB m i).testBit (7 - k) = (m <<< (8 * i + k)).msb := by
  unfold sumB
  rw [show (256 : Nat) = 2 ^ 8 from rfl, Nat.testBit_mod_two_pow, Nat.testBit_div_two_pow, BitVec.msb_eq_getLsbD_last, BitVec.getLsbD_shiftLeft]
  have h1 : decide (7 - k < 8) = true := by simp; omega
  have h2 : decide (32 - 1 < 32) = true := by decide
  have h3 : decide (32 - 1 < 8 * i + k) = false := by simp; omega
  have e : 7 - k + 8 * (3 - i) = 32 - 1 - (8 * i + k) := by omega
  rw [h1, h2, h3, e]
  simp [BitVec.getLsbD]
theorem sumB_xor (x y : BitVec 32) (i : Nat) : sumB (x ^^^ y) i = sumB x i ^^^ sumB y i := by
  unfold sumB
  apply Nat.eq_of_testBit_eq
  intro j
  rw [show (256 : Nat) = 2 ^ 8 from rfl, Nat.testBit_xor, Nat.testBit_mod_two_pow, Nat.testBit_mod_two_pow, Nat.testBit_mod_two_pow, Nat.testBit_div_two_pow, Nat.testBit_div_two_pow, Nat.testBit_div_two_pow, BitVec.toNat_xor, Nat.testBit_xor]
  cases decide (j < 8) <;> simp

theorem word_byte (r m : BitVec 32) {i : Nat} (hi : i < 4) (k : Nat) (hk : k ≤ 8) : feed r (sumB m i) k ^^^ m <<< (8 * i + k) = spin (r ^^^ m <<< (8 * i)) k := by
  induction k with
  | zero => rfl
  | succ k ih =>
    simp only [spin, feed]
    rw [← ih (by omega)]
    have hb : false = ((sumB m i).testBit (7 - k) ^^ (sumB m i).testBit (7 - k)) := by cases (sumB m i).testBit (7 - k) <;> rfl
    rw [hb, push_xor]
    congr 1
    unfold push
    rw [sumB_bit m hi (by omega)]
    cases (m <<< (8 * i + k)).msb <;> simp [← BitVec.shiftLeft_add, Nat.add_assoc]

theorem word_bytes (r m : BitVec 32) (n : Nat) (hn : n ≤ 4) : reg r (sumB m) n ^^^ m <<< (8 * n) = spin (r ^^^ m) (8 * n) := by
  induction n with
  | zero => simp [reg, spin]
  | succ n ih =>
    simp only [reg]
    rw [show 8 * (n + 1) = 8 * n + 8 by omega, word_byte _ m (by omega) 8 (Nat.le_refl _), ih (by omega), spin_add]

/-- Four bytes that come in are the register turned 32 times, with them in it. -/
theorem reg_word (r m : BitVec 32) : reg r (sumB m) 4 = spin (r ^^^ m) 32 := by
  have h := word_bytes r m 4 (Nat.le_refl _)
  have e : m <<< (8 * 4) = 0#32 := BitVec.shiftLeft_eq_zero (by omega)
  rw [e, BitVec.xor_zero] at h
  exact h

theorem reg_nothing (r : BitVec 32) (f : Nat → Nat) (n : Nat) (h : ∀ i, i < n → f i = 0) : reg r f n = spin r (8 * n) := by
  induction n with
  | zero => rfl
  | succ n ih =>
    simp only [reg]
    rw [ih (fun i hi => h i (by omega)), h n (by omega), feed_nothing, show 8 * (n + 1) = 8 * n + 8 by omega, spin_add]

/-- The bytes of a burst: four, from place p on; 0 elsewhere. -/
def burst (t : BitVec 32) (p i : Nat) : Nat := if p ≤ i ∧ i < p + 4 then sumB t (i - p) else 0

theorem reg_split (r : BitVec 32) (f : Nat → Nat) (n m : Nat) : reg r f (n + m) = reg (reg r f n) (fun i => f (n + i)) m := by
  rw [← reg_behind]
  refine reg_congr fun i _ => ?_
  unfold behind
  by_cases h : i < n
  · rw [if_pos h]
  · rw [if_neg h]; congr 1; omega

theorem burst_reg (t : BitVec 32) (p : Nat) (hp : p ≤ 60) (ht : t ≠ 0#32) : reg 0#32 (burst t p) 64 ≠ 0#32 := by
  have e1 : reg 0#32 (burst t p) p = 0#32 := by
    rw [reg_nothing _ _ _ (fun i hi => by unfold burst; rw [if_neg (by omega)]), spin_zero]
  have e2 : reg 0#32 (burst t p) (p + 4) = spin t 32 := by
    rw [reg_split, e1]
    have h := reg_word 0#32 t
    rw [BitVec.zero_xor] at h
    rw [← h]
    refine reg_congr fun i hi => ?_
    unfold burst
    rw [if_pos (by omega)]
    congr 1
    omega
  have e3 : (64 : Nat) = (p + 4) + (60 - p) := by omega
  rw [e3, reg_split, e2, reg_nothing _ _ _ (fun i _ => by unfold burst; rw [if_neg (by omega)])]
  exact spin_ne (spin_ne ht _) _

theorem crc_turned (f d : Nat → Nat) (n : Nat) : crc (fun i => f i ^^^ d i) n = crc f n ^^^ reg 0#32 d n := by
  unfold crc more
  have h := reg_xor (~~~ 0#32) 0#32 f d n
  rw [BitVec.xor_zero] at h
  rw [h, BitVec.not_xor_left]

/-- Sixty bytes and their sum, of which a burst is turned, are no longer so. -/
theorem burst_found (f : Nat → Nat) (t : BitVec 32) (p : Nat) (hp : p ≤ 60) (ht : t ≠ 0#32) (hf : ∀ i, i < 4 → f (60 + i) = sumB (crc f 60) i) :
    ¬ ∀ i, i < 4 → f (60 + i) ^^^ burst t p (60 + i) = sumB (crc (fun i => f i ^^^ burst t p i) 60) i := by
  intro h
  apply burst_reg t p hp ht
  have e : (64 : Nat) = 60 + 4 := rfl
  rw [e, reg_split]
  have hd : ∀ i, i < 4 → burst t p (60 + i) = sumB (reg 0#32 (burst t p) 60) i := fun i hi => by
    have h1 := h i hi
    rw [crc_turned, sumB_xor, hf i hi] at h1
    have h2 := congrArg (fun x => sumB (crc f 60) i ^^^ x) h1
    simp only [← Nat.xor_assoc, Nat.xor_self, Nat.zero_xor] at h2
    exact h2
  rw [reg_congr hd, reg_word, BitVec.xor_self, spin_zero]

/-- The first of four bytes that is not the sum's, if there is one. -/
theorem first_bad (f : Nat → Nat) (m : BitVec 32) (h : ¬ ∀ i, i < 4 → f (60 + i) = sumB m i) : ∃ j, j < 4 ∧ (∀ i, i < j → f (60 + i) = sumB m i) ∧ f (60 + j) ≠ sumB m j := by
  by_cases h0 : f (60 + 0) = sumB m 0
  · by_cases h1 : f (60 + 1) = sumB m 1
    · by_cases h2 : f (60 + 2) = sumB m 2
      · by_cases h3 : f (60 + 3) = sumB m 3
        · exfalso
          apply h
          intro i hi
          rcases (by omega : i = 0 ∨ i = 1 ∨ i = 2 ∨ i = 3) with rfl | rfl | rfl | rfl <;> assumption
        · refine ⟨3, by omega, fun i hi => ?_, h3⟩
          rcases (by omega : i = 0 ∨ i = 1 ∨ i = 2) with rfl | rfl | rfl <;> assumption
      · refine ⟨2, by omega, fun i hi => ?_, h2⟩
        rcases (by omega : i = 0 ∨ i = 1) with rfl | rfl <;> assumption
    · refine ⟨1, by omega, fun i hi => ?_, h1⟩
      obtain rfl : i = 0 := by omega
      exact h0
  · exact ⟨0, by omega, fun i hi => absurd hi (by omega), h0⟩

/-! ### sectors -/

/-- n bytes with 0 behind. -/
def pad (f : Nat → Nat) (n i : Nat) : Nat := if i < n then f i else 0
/-- Their sealed sector. -/
def sec (f : Nat → Nat) (n i : Nat) : Nat := if i < 60 then pad f n i else sumB (crc (pad f n) 60) (i - 60)

theorem pad_lt {f : Nat → Nat} {n : Nat} (h : ∀ i, i < n → f i < 256) (i : Nat) : pad f n i < 256 := by
  unfold pad; split
  · exact h i (by assumption)
  · omega
theorem sec_lt {f : Nat → Nat} {n : Nat} (h : ∀ i, i < n → f i < 256) (i : Nat) : sec f n i < 256 := by
  unfold sec; split
  · exact pad_lt h i
  · exact sumB_lt _ _
theorem sec_low {f : Nat → Nat} {n i : Nat} (h : i < 60) : sec f n i = pad f n i := by unfold sec; rw [if_pos h]
theorem sec_high {f : Nat → Nat} {n i : Nat} : sec f n (60 + i) = sumB (crc (pad f n) 60) i := by
  unfold sec; rw [if_neg (by omega)]; congr 1; omega
theorem sec_crc (f : Nat → Nat) (n : Nat) : crc (sec f n) 60 = crc (pad f n) 60 := crc_congr fun _ hi => sec_low hi
theorem sec_sealed (f : Nat → Nat) (n i : Nat) : sec f n (60 + i) = sumB (crc (sec f n) 60) i := by rw [sec_high, sec_crc]
theorem sec_congr {f g : Nat → Nat} {n m : Nat} (h : ∀ i, i < 60 → pad f n i = pad g m i) (i : Nat) : sec f n i = sec g m i := by
  unfold sec
  by_cases hi : i < 60
  · rw [if_pos hi, if_pos hi, h i hi]
  · rw [if_neg hi, if_neg hi, crc_congr h]

end Go.Proofs.Ytmgeifolgdgapaa
