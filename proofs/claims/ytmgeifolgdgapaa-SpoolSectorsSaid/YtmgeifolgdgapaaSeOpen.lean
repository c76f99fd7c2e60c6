
/- What Close and Open answer: a contract each, over any bytes. -/
import Derived.Test.YtmgeifolgdgapaaSeWalks
namespace Go.Proofs.Ytmgeifolgdgapaa
open Go.RowKit

/-- Bytes copied over the head of a block of 0. -/
theorem splice_pad (f : Nat → Nat) {n k m : Nat} (hm : m = min n k) : splice (cellsOf (fun _ => 0) k) 0 (cellsOf f m) = cellsOf (pad f m) k := by
  apply List.ext_getElem?
  intro i
  unfold splice
  rw [List.take_zero, List.nil_append, Nat.zero_add, cellsOf_length]
  by_cases hi : i < m
  · rw [List.getElem?_append_left (by rw [cellsOf_length]; exact hi), cellsOf_at f hi, cellsOf_at _ (by omega)]
    unfold pad
    rw [if_pos hi]
  · rw [List.getElem?_append_right (by rw [cellsOf_length]; omega), cellsOf_length, List.getElem?_drop]
    by_cases hk : i < k
    · rw [cellsOf_at _ (by omega), cellsOf_at _ hk]
      unfold pad
      rw [if_neg hi]
    · rw [List.getElem?_eq_none (by rw [cellsOf_length]; omega), List.getElem?_eq_none (by rw [cellsOf_length]; omega)]

/-- A sector as far as k bytes of its sum are in. -/
def part (f : Nat → Nat) (n k i : Nat) : Nat := if i < 60 + k then sec f n i else 0
theorem part_zero {f : Nat → Nat} {n : Nat} (hn : n ≤ 60) (i : Nat) : pad f n i = part f n 0 i := by
  unfold part
  by_cases h : i < 60
  · rw [if_pos (by omega), sec_low h]
  · rw [if_neg (by omega)]; unfold pad; rw [if_neg (by omega)]
theorem part_next {f : Nat → Nat} {n k i : Nat} (h : i ≠ 60 + k) : part f n k i = part f n (k + 1) i := by
  unfold part
  by_cases h1 : i < 60 + k
  · rw [if_pos h1, if_pos (by omega)]
  · rw [if_neg h1, if_neg (by omega)]
theorem part_at (f : Nat → Nat) (n k : Nat) : part f n (k + 1) (60 + k) = sumB (crc (pad f n) 60) k := by
  unfold part
  rw [if_pos (by omega), sec_high]
theorem part_hole (f : Nat → Nat) (n k : Nat) : part f n k (60 + k) = 0 := by
  unfold part
  rw [if_neg (by omega)]
theorem part_full (f : Nat → Nat) (n i : Nat) (hi : i < 64) : part f n 4 i = sec f n i := by
  unfold part
  rw [if_pos (by omega)]

theorem close_long (A : Option Addr) (n c : Nat) (w : World) (hn : n ≤ 9223372036854775807) (h : 60 < n) :
    Calls Try.prog 48 #[.slice A n c] w fun e w' => e = .returned (.tuple #[.slice none 0 0, .int .i64 6]) ∧ w = w' := by
  go_enter Try.func48, Try.ntmps48
  go_wp2
  go_ret2
  exact ⟨rfl, rfl⟩

/-- The answer is a row of bytes, and nothing that was there has changed. -/
def Gives (n : Nat) (f : Nat → Nat) (w : World) (e : Ending) (w' : World) : Prop :=
  ∃ v, e = .returned (.tuple #[v, .int .i64 0]) ∧ Row w.heap.size w' v n f ∧ Below w.heap.size w w'

theorem copy_len {f : Nat → Nat} {n : Nat} (h : n ≤ 60) : (cellsOf f n).length = Nat.min n 64 := by
  rw [cellsOf_length]
  exact (Nat.min_eq_left (by omega)).symm
theorem copy_fits {f g : Nat → Nat} {n : Nat} (h : n ≤ 60) : 0 + (cellsOf f n).length ≤ (cellsOf g 64).length := by
  rw [cellsOf_length, cellsOf_length]
  omega

theorem pad_lies {f : Nat → Nat} {n g : Nat} {w : World} (hn : n ≤ 60) (h : w.heap[g]? = some (.cells (splice (cellsOf (fun _ => 0) 64) 0 (cellsOf f n)).toArray 5 (0, 0))) : Lies w g (pad f n) 64 := by
  rw [splice_pad f (n := n) (k := 64) (m := n) (by omega)] at h
  exact h
/-- How Close's loop stands: k bytes of the sum are in. -/
def CloseLoop (f : Nat → Nat) (n : Nat) (w : World) (v : Value) (wr : World) : Prop :=
  ∃ k : Nat, k ≤ 4 ∧ v = .int .i64 (k : Int) ∧ Lies wr w.heap.size (part f n k) 64 ∧ Below w.heap.size w wr

set_option maxRecDepth 20000 in
theorem close_any (A : Option Addr) (n c : Nat) (f : Nat → Nat) (w : World) (hn : n ≤ 60) (h : BytesAt w A n f) :
    Calls Try.prog 48 #[.slice A n c] w (Gives 64 (sec f n) w) := by
  have HB := Lib.hid h
  clear h
  have hlen : decide (60 < (n : Int)) = false := by simp; omega
  have hmk : ∀ u : World, (Instr.makeSlice 28 (.int .i64 64) (.int .i64 64)).run Try.prog u = .ok (.slice (some ⟨u.heap.size, 0, none⟩) 64 64) (u.alloc (.cells (cellsOf (fun _ => 0) 64).toArray 5)) := make_bytes 64 (by omega)
  go_enter Try.func48, Try.ntmps48
  go_wp2_with (refine wpList_copy_splice (o := ⟨some 13, _, _, _, _, _⟩) rfl (.tmp 11) (.tmp 12) 28 28 rfl 5 Try.underlying28 byte_size (some ⟨w.heap.size, 0, none⟩) A 64 64 n c rfl rfl w.heap.size 0 (cellsOf (fun _ => 0) 64) 5 (made_lies w 64) (cellsOf f n) (copy_len hn) (fun hp => ⟨rfl, BytesAt.copied (HB.out.below ((Below.refl _ _).alloc (Nat.le_refl _) _)) (Nat.le_refl _) hp⟩) (copy_fits hn) (cellsOf_one f n) w.heap.size w ((Below.refl _ _).alloc (Nat.le_refl _) _) (Nat.le_refl _) ?_; intro w1 hg1 hb1)
  have HL := Lib.hid (pad_lies hn hg1.out)
  have hb0 := Lib.hid hb1
  have h60 := Lib.hid (pad_lt HB.out.small)
  clear hg1 hb1 hmk HB
  obtain ⟨m, hm⟩ : ∃ m, m = crc (pad f n) 60 := ⟨_, rfl⟩
  with_reducible refine (sum_any (some ⟨w.heap.size, 0, none⟩) 60 64 (pad f n) w1 (by omega) (HL.out.bytes (by omega) (fun i _ => h60.out i))).mono ?_
  rintro e w' ⟨rfl, rfl⟩
  rw [← hm]
  have HM := Lib.hid hm
  clear hm
  go_wp2
  go_loopw [17] (fun k wr => CloseLoop f n w k wr) (fun k _ => 4 - (intOf k).toNat)
  case atStart => exact ⟨0, by omega, rfl, HL.out.congr (fun i _ => part_zero hn i), hb0.out⟩
  case round =>
    obtain ⟨k, hk, rfl, hl, hb⟩ := hrel
    have HL2 := Lib.hid hl
    have HB2 := Lib.hid hb
    clear hl hb HL hb0 h60
    by_cases h4 : k < 4
    · have hc := HL2.out.cell (i := 60 + k) (by omega)
      have hz := HL2.out.free (60 + k)
      go_wp2_with fail
      with_reducible refine (sumByte_any _ _ _ h4).mono ?_
      rintro e w' ⟨rfl, rfl⟩
      go_wp2
      go_roundw
      case rel => exact ⟨k + 1, by omega, by go_num, HL2.out.set_ (by omega) (by rw [part_at, HM.out]) (fun i hi => part_next hi), HB2.out.setCell (Nat.le_refl _) _⟩
      case measure => simp [intOf]; omega
    · obtain rfl : k = 4 := by omega
      go_wp2
      go_ret2
      exact ⟨_, rfl, Row.of_lies (HL2.out.congr (fun i hi => part_full f n i hi)) (Nat.le_refl _) (by omega), HB2.out⟩

/-- How Open's loop stands: the first k bytes of the sum are as they should be. -/
def OpenLoop (j : Nat) (w : World) (v : Value) (wr : World) : Prop := ∃ k m : Nat, k ≤ j ∧ v = .int .i64 (k : Int) ∧ w.drewN m = wr

theorem open_copy {f g : Nat → Nat} : 0 + (cellsOf f 60).length ≤ (cellsOf g 60).length := by
  rw [cellsOf_length, cellsOf_length]
  omega
theorem open_lies {f : Nat → Nat} {g : Nat} {w : World} (h : w.heap[g]? = some (.cells (splice (cellsOf (fun _ => 0) 60) 0 (cellsOf f 60)).toArray 5 (0, 0))) : Lies w g f 60 := by
  rw [splice_pad f (n := 60) (k := 60) (m := 60) (by omega)] at h
  exact Lies.congr (f := pad f 60) h fun i hi => by unfold pad; rw [if_pos hi]

end Go.Proofs.Ytmgeifolgdgapaa
