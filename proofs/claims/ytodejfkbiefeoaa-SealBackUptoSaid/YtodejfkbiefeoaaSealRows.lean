/- Bytes in a block that the call itself made: what is read of them, what is written into them. -/
import Derived.Test.YtodejfkbiefeoaaSealWalks
import Derived.Laws.CopyOwn
import Derived.Laws.MakeOwn
namespace Go.Proofs.Ytodejfkbiefeoaa
open Go.RowKit

/-- The first n values of f, as bytes. -/
def cellsOf (f : Nat → Nat) (n : Nat) : List Value := (List.range n).map fun i => Value.int .u8 (f i : Int)

theorem cellsOf_length (f : Nat → Nat) (n : Nat) : (cellsOf f n).length = n := by simp [cellsOf]
theorem cellsOf_at (f : Nat → Nat) {n i : Nat} (h : i < n) : (cellsOf f n)[i]? = some (.int .u8 (f i : Int)) := by
  simp [cellsOf, List.getElem?_range h]
theorem cellsOf_inv {f : Nat → Nat} {n i : Nat} {u : Value} (h : (cellsOf f n)[i]? = some u) : i < n ∧ u = .int .u8 (f i : Int) := by
  have hl : i < n := by
    have := (List.getElem?_eq_some_iff.1 h).1
    rwa [cellsOf_length] at this
  rw [cellsOf_at f hl] at h
  exact ⟨hl, (Option.some.inj h).symm⟩
theorem cellsOf_one (f : Nat → Nat) (n : Nat) (u : Value) (h : u ∈ cellsOf f n) : u.oneCell' = true := by
  unfold cellsOf at h
  rw [List.mem_map] at h
  obtain ⟨i, _, rfl⟩ := h
  rfl
theorem cellsOf_congr {f g : Nat → Nat} {n : Nat} (h : ∀ i, i < n → f i = g i) : cellsOf f n = cellsOf g n := by
  apply List.ext_getElem?
  intro i
  by_cases hi : i < n
  · rw [cellsOf_at f hi, cellsOf_at g hi, h i hi]
  · rw [List.getElem?_eq_none (by rw [cellsOf_length]; omega), List.getElem?_eq_none (by rw [cellsOf_length]; omega)]
theorem cellsOf_set (f g : Nat → Nat) {n k : Nat} {z : Int} (hk : k < n) (hz : z = (g k : Int)) (h : ∀ i, i ≠ k → f i = g i) :
    (cellsOf f n).toArray.setIfInBounds k (.int .u8 z) = (cellsOf g n).toArray := by
  apply Array.ext'
  rw [Array.toList_setIfInBounds]
  apply List.ext_getElem?
  intro i
  rw [List.getElem?_set]
  by_cases hi : i < n
  · by_cases he : k = i
    · subst he
      rw [if_pos rfl, if_pos (by simp [cellsOf_length]; exact hk), hz]
      exact (cellsOf_at g hk).symm
    · rw [if_neg he]
      show (cellsOf f n)[i]? = (cellsOf g n)[i]?
      rw [cellsOf_at f hi, cellsOf_at g hi, h i (Ne.symm he)]
  · rw [if_neg (by omega)]
    show (cellsOf f n)[i]? = (cellsOf g n)[i]?
    rw [List.getElem?_eq_none (by rw [cellsOf_length]; omega), List.getElem?_eq_none (by rw [cellsOf_length]; omega)]

/-- Block g holds these bytes, all of them, and may be written. -/
def Lies (w : World) (g : Nat) (f : Nat → Nat) (n : Nat) : Prop := w.heap[g]? = some (.cells (cellsOf f n).toArray 5 (0, 0))

theorem Lies.lt {w : World} {g n : Nat} {f : Nat → Nat} (h : Lies w g f n) : g < w.heap.size := (Array.getElem?_eq_some_iff.1 h).1
theorem Lies.cell {w : World} {g n i : Nat} {f : Nat → Nat} (h : Lies w g f n) (hi : i < n) : w.cell? ⟨g, i, none⟩ = some (.int .u8 (f i : Int)) := by
  rw [cell_of_row w g i _ _ _ h, List.getElem?_toArray]
  exact cellsOf_at f hi
theorem Lies.free {w : World} {g n : Nat} {f : Nat → Nat} (h : Lies w g f n) (i : Nat) : w.frozen? ⟨g, i, none⟩ = false := by
  unfold Lies at h
  simp [World.frozen?, h]
theorem add_nil (g i : Nat) : (⟨g, 0, none⟩ : Addr).add i = ⟨g, i, none⟩ := by unfold Addr.add; split <;> simp_all
theorem Lies.bytes {w : World} {g n m : Nat} {f : Nat → Nat} (h : Lies w g f n) (hm : m ≤ n) (hf : ∀ i, i < m → f i < 256) : BytesAt w (some ⟨g, 0, none⟩) m f :=
  ⟨hf, fun i hi => ⟨_, rfl, by rw [add_nil]; exact h.cell (by omega)⟩⟩
theorem Lies.below {w w' : World} {g n B : Nat} {f : Nat → Nat} (h : Lies w g f n) (hb : Below B w w') (hg : g < B) : Lies w' g f n := (hb.block g hg).trans h
theorem Lies.drewN {w : World} {g n : Nat} {f : Nat → Nat} (h : Lies w g f n) (k : Nat) : Lies (w.drewN k) g f n := h
theorem Lies.congr {w : World} {g n : Nat} {f f' : Nat → Nat} (h : Lies w g f n) (he : ∀ i, i < n → f i = f' i) : Lies w g f' n := by
  unfold Lies at h ⊢
  rw [← cellsOf_congr he]
  exact h
theorem Lies.set_ {w : World} {g n k : Nat} {f f' : Nat → Nat} {z : Int} (h : Lies w g f n) (hk : k < n) (hz : z = (f' k : Int)) (he : ∀ i, i ≠ k → f i = f' i) :
    Lies (w.setCell ⟨g, k, none⟩ (.int .u8 z)) g f' n := by
  unfold Lies at h ⊢
  rw [← cellsOf_set f f' hk hz he, setCell_eq_setRow w g k _ _ _ _ h]
  exact setRow_heap w g _ _ _ _ h

/-- An answer: n bytes in a block of its own. -/
def Row (B : Nat) (w : World) (v : Value) (n : Nat) (f : Nat → Nat) : Prop :=
  ∃ g cap cur, v = .slice (some ⟨g, 0, none⟩) n cap ∧ B ≤ g ∧ n ≤ cap ∧ cap ≤ 9223372036854775807 ∧ w.heap[g]? = some (.cells cur 5 (0, 0)) ∧ ∀ i, i < n → cur[i]? = some (.int .u8 (f i : Int))

theorem Row.of_lies {B : Nat} {w : World} {g n : Nat} {f : Nat → Nat} (h : Lies w g f n) (hg : B ≤ g) (hn : n ≤ 9223372036854775807) : Row B w (.slice (some ⟨g, 0, none⟩) n n) n f :=
  ⟨g, n, _, rfl, hg, Nat.le_refl _, hn, h, fun _ hi => by rw [List.getElem?_toArray]; exact cellsOf_at f hi⟩
theorem Row.open_ {B : Nat} {w : World} {v : Value} {n : Nat} {f : Nat → Nat} (h : Row B w v n f) :
    ∃ g cap, v = .slice (some ⟨g, 0, none⟩) n cap ∧ B ≤ g ∧ g < w.heap.size ∧ n ≤ cap ∧ cap ≤ 9223372036854775807 ∧
      (∀ i, i < n → w.cell? ⟨g, i, none⟩ = some (.int .u8 (f i : Int))) ∧ ∀ i, w.frozen? ⟨g, i, none⟩ = false := by
  obtain ⟨g, cap, cur, hv, hB, hn, hc, hg, hf⟩ := h
  refine ⟨g, cap, hv, hB, (Array.getElem?_eq_some_iff.1 hg).1, hn, hc, fun i hi => ?_, fun i => ?_⟩
  · rw [cell_of_row w g i _ _ _ hg]
    exact hf i hi
  · simp [World.frozen?, hg]

/-- A slice of 64 (or 60) bytes 0. -/
theorem zeros_made (k : Nat) : (madeCells #[.int .u8 0] k) = (cellsOf (fun _ => 0) k).toArray := by
  apply Array.ext'
  unfold madeCells cellsOf
  simp only [Array.toList_map, Array.toList_range]
  apply List.map_congr_left
  intro i _
  simp [Nat.mod_one]
theorem byte_info : (Try.prog.info? 5).map (fun i => (i.zero, i.size, i.bytes)) = some (some (.int .u8 0), 1, 1) := by kernel_rfl
theorem byte_size : (Try.prog.info? 5).map (·.size) = some 1 := by kernel_rfl
theorem make_bytes (k : Nat) (hk : k ≤ 281474976710656) (u : World) :
    (Instr.makeSlice 23 (.int .i64 (k : Int)) (.int .i64 (k : Int))).run Try.prog u = .ok (.slice (some ⟨u.heap.size, 0, none⟩) k k) (u.alloc (.cells (cellsOf (fun _ => 0) k).toArray 5)) := by
  obtain ⟨i0, hi, hz0, hz1, hz2⟩ := info_parts byte_info
  have h := run_make (P := Try.prog) u 23 5 i0 (.int .u8 0) Try.underlying23 hi hz0 .i64 .i64 (k : Int) (k : Int) (by omega) (Int.le_refl _) (by rw [hz2]; omega) (by omega)
  rw [hz1, Int.toNat_natCast, Nat.mul_one] at h
  rw [h, ← zeros_made]
  rfl
theorem made_lies (w : World) (k : Nat) : Lies (w.alloc (.cells (cellsOf (fun _ => 0) k).toArray 5)) w.heap.size (fun _ => 0) k := heap_alloc_new w _

/-- Bytes copied over the head of a block of 0. -/
theorem splice_pad (f : Nat → Nat) {n k m : Nat} (hm : m = min n k) : splice (cellsOf (fun _ => 0) k) 0 (cellsOf f m) = cellsOf (pad f m) k := by
  apply List.ext_getElem?
  intro i
  unfold splice
  rw [List.take_zero, List.nil_append, Nat.zero_add, cellsOf_length]
  by_cases hi : i < m
  · rw [List.getElem?_append_left (by rw [cellsOf_length]; exact hi), cellsOf_at f hi, cellsOf_at _ (by omega)]
    unfold pad
    rw [if_pos hi]
  · rw [List.getElem?_append_right (by rw [cellsOf_length]; omega), cellsOf_length, List.getElem?_drop]
    by_cases hk : i < k
    · rw [cellsOf_at _ (by omega), cellsOf_at _ hk]
      unfold pad
      rw [if_neg hi]
    · rw [List.getElem?_eq_none (by rw [cellsOf_length]; omega), List.getElem?_eq_none (by rw [cellsOf_length]; omega)]

theorem BytesAt.copied {w : World} {A : Option Addr} {n m : Nat} {f : Nat → Nat} (h : BytesAt w A n f) (hm : m ≤ n) (hp : 0 < (cellsOf f m).length) :
    ∃ ad, A = some ad ∧ ∀ j v, (cellsOf f m)[j]? = some v → w.cell? (ad.add j) = some v := by
  rw [cellsOf_length] at hp
  obtain ⟨ad, rfl⟩ := h.addr (by omega)
  refine ⟨ad, rfl, fun j v hj => ?_⟩
  obtain ⟨hl, rfl⟩ := cellsOf_inv hj
  exact h.at_ (by omega)

end Go.Proofs.Ytodejfkbiefeoaa
