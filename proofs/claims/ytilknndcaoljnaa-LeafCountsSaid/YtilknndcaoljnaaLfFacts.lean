/- What pages hold that were encoded. -/
import Derived.Test.YtilknndcaoljnaaLfRead
import Derived.Test.YtilknndcaoljnaaLfEncode
namespace Go.Proofs.Ytilknndcaoljnaa
open Go.RowKit

theorem headF_low {s b seq count len : Nat} {sum : BitVec 32} {i : Nat} (h : i < 17) : headF s b seq count len sum i = headB s b seq count len sum i := by
  unfold headF
  rw [sec_low (by omega)]
  unfold pad
  rw [if_pos h]
theorem dig_one {x : Nat} (h : x < 256) : dig x 1 0 = x := by unfold dig; simp; omega
theorem headB_at {s b seq count len : Nat} {sum : BitVec 32} {i : Nat} (h : i < 8) : headB s b seq count len sum i = if i < 4 then magic i else dig seq 4 (i - 4) := by
  unfold headB cat4 behind
  rw [if_pos (by omega), if_pos (by omega)]
theorem headB_num {s b seq count len : Nat} {sum : BitVec 32} {i : Nat} (h : i < 3) : headB s b seq count len sum (8 + i) = dig (trip s b count i) 1 0 := by
  unfold headB cat4 behind rowB
  rw [if_pos (by omega), if_neg (by omega)]
  show dig (trip s b count ((8 + i - (4 + 4)) / 1)) 1 ((8 + i - (4 + 4)) % 1) = _
  rw [Nat.div_one, Nat.mod_one, show 8 + i - (4 + 4) = i by omega]
theorem headF_s {s b seq count len : Nat} {sum : BitVec 32} (h : s < 256) : headF s b seq count len sum 8 = s := by
  rw [headF_low (by omega)]
  have := headB_num (s := s) (b := b) (seq := seq) (count := count) (len := len) (sum := sum) (i := 0) (by omega)
  exact this.trans (dig_one h)
theorem headF_b {s b seq count len : Nat} {sum : BitVec 32} (h : b < 256) : headF s b seq count len sum 9 = b := by
  rw [headF_low (by omega)]
  have := headB_num (s := s) (b := b) (seq := seq) (count := count) (len := len) (sum := sum) (i := 1) (by omega)
  exact this.trans (dig_one h)
theorem headF_count {s b seq count len : Nat} {sum : BitVec 32} (h : count < 256) : headF s b seq count len sum 10 = count := by
  rw [headF_low (by omega)]
  have := headB_num (s := s) (b := b) (seq := seq) (count := count) (len := len) (sum := sum) (i := 2) (by omega)
  exact this.trans (dig_one h)
theorem headF_seq {s b seq count len : Nat} {sum : BitVec 32} (h : seq < 4294967296) : seqIn (headF s b seq count len sum) = seq := by
  unfold seqIn
  rw [val_congr (g := dig seq 4) fun i hi => by rw [headF_low (by omega), headB_at (by omega), if_neg (by omega), Nat.add_sub_cancel_left]]
  exact val_dig h
theorem headF_sealed (s b seq count len : Nat) (sum : BitVec 32) : Sealed 64 (headF s b seq count len sum) := ⟨rfl, fun i _ => sec_sealed _ _ i⟩
theorem headF_header {s b seq count len : Nat} {sum : BitVec 32} (h1 : 1 ≤ seq) (h2 : seq ≤ 1073741824) (hc : count ≤ 11) : Header 64 (headF s b seq count len sum) := by
  refine ⟨headF_sealed _ _ _ _ _ _, ⟨?_, ?_, ?_, ?_⟩, by rw [headF_seq (by omega)]; exact ⟨h1, h2⟩, by rw [headF_count (by omega)]; exact hc⟩
  all_goals
    rw [headF_low (by omega), headB_at (by omega), if_pos (by omega)]
    rfl

theorem leafF_low {seq n : Nat} {f : Nat → Nat} {k i : Nat} (h : i < 6 + plen n k) : leafF seq n f k i = leafB seq n f k i := by
  have := plen_le n k
  unfold leafF
  rw [sec_low (by omega)]
  unfold pad
  rw [if_pos h]
theorem leafF_sealed (seq n : Nat) (f : Nat → Nat) (k : Nat) : Sealed 64 (leafF seq n f k) := ⟨rfl, fun i _ => sec_sealed _ _ i⟩
theorem leafF_size (seq n : Nat) (f : Nat → Nat) (k : Nat) : leafF seq n f k 5 = plen n k := by
  have := plen_le n k
  rw [leafF_low (by omega)]
  unfold leafB
  rw [behind_low (by omega), behind_high (by omega)]
  rfl
theorem leafF_text {seq n : Nat} {f : Nat → Nat} {k j : Nat} (h : j < plen n k) : leafF seq n f k (6 + j) = f (k * 52 + j) := by
  rw [leafF_low (by omega)]
  unfold leafB
  rw [behind_high (by omega), Nat.add_sub_cancel_left]
theorem leafF_dlen (seq n : Nat) (f : Nat → Nat) (k : Nat) : dlen (leafF seq n f k) = plen n k := by
  have := plen_le n k
  unfold dlen
  rw [leafF_size]
  omega
theorem encF_head {s b seq n : Nat} {f : Nat → Nat} : encF s b seq n f 0 = headF s b seq (pcount n) n (crc f n) := rfl
theorem encF_leaf {s b seq n : Nat} {f : Nat → Nat} (i : Nat) : encF s b seq n f (i + 1) = leafF seq n f i := rfl

/-- What is joined of a text's parts: the text. -/
theorem join_text (seq n : Nat) (f : Nat → Nat) (k : Nat) (hk : k ≤ pcount n) : (joinL ((List.range k).map (dpart fun i => leafF seq n f i))).1 = min n (k * 52) ∧ ∀ j, j < min n (k * 52) → (joinL ((List.range k).map (dpart fun i => leafF seq n f i))).2 j = f j := by
  induction k with
  | zero => exact ⟨by simp [joinL], fun j hj => by simp at hj⟩
  | succ k ih =>
    obtain ⟨e, hs⟩ := ih (by omega)
    have hlt : k * 52 < n := pcount_lt.1 (by omega)
    have hm : min n (k * 52) = k * 52 := by omega
    rw [List.range_succ, List.map_append, List.map_cons, List.map_nil, joinL_snoc, e, hm]
    rw [hm] at hs
    have hd : (dpart (fun i => leafF seq n f i) k).1 = plen n k := leafF_dlen seq n f k
    rw [hd]
    refine ⟨by unfold plen; omega, fun j hj => ?_⟩
    show behind _ (k * 52) (fun j => leafF seq n f k (6 + j)) j = f j
    by_cases h : j < k * 52
    · rw [behind_low h]; exact hs j h
    · rw [behind_high (by omega), leafF_text (by unfold plen; omega), Nat.add_sub_of_le (by omega)]
/-- All leaves are sealed: none is left out. -/
theorem sound_enc {s b seq n : Nat} {f : Nat → Nat} {k : Nat} (h : Sound (pcount n) (fun _ => 64) (fun i => encF s b seq n f (i + 1)) k) : k = pcount n := by
  by_cases hk : k < pcount n
  · exact absurd (leafF_sealed seq n f k) (h.2.2 hk)
  · have := h.1
    omega
end Go.Proofs.Ytilknndcaoljnaa
