
/- Bytes: that lie somewhere, in a block of the call's own, as strings; appended. Nothing of a program's functions. -/
import Derived.Test.YtmgeifolgdgapaaLawKit
import Derived.Test.YtmgeifolgdgapaaRows
import Derived.WalkKit
import Derived.WalkSpells
import Derived.WalkLawsBesides
import Derived.Deep.QuietTactic
import Derived.BigQuiet
import Derived.LoopTactic
import Derived.IntWalk
import Derived.OwnWalk
import Derived.Laws.CopyOwn
import Derived.Laws.MakeOwn
import Derived.Laws.IdiomStrings
import Derived.Lib.AppendZeros
import Derived.Laws.OwnMore
import Derived.Lib.Hide
namespace Go.Proofs.Ytmgeifolgdgapaa
open Go.RowKit

/-- f, and g behind the first n. -/
def behind (f : Nat → Nat) (n : Nat) (g : Nat → Nat) (i : Nat) : Nat := if i < n then f i else g (i - n)
theorem behind_low {f g : Nat → Nat} {n i : Nat} (h : i < n) : behind f n g i = f i := by unfold behind; rw [if_pos h]
theorem behind_high {f g : Nat → Nat} {n i : Nat} (h : n ≤ i) : behind f n g i = g (i - n) := by unfold behind; rw [if_neg (by omega)]
theorem behind_lt {f g : Nat → Nat} {n m : Nat} (hf : ∀ i, i < n → f i < 256) (hg : ∀ i, i < m → g i < 256) (i : Nat) (hi : i < n + m) : behind f n g i < 256 := by
  unfold behind
  by_cases h : i < n
  · rw [if_pos h]; exact hf i h
  · rw [if_neg h]; exact hg _ (by omega)

/-- n bytes lie at A, byte i is f i. -/
structure BytesAt (w : World) (A : Option Addr) (n : Nat) (f : Nat → Nat) : Prop where
  small : ∀ i, i < n → f i < 256
  cell : ∀ i, i < n → ∃ ad, A = some ad ∧ w.cell? (ad.add i) = some (.int .u8 (f i : Int))

theorem BytesAt.at_ {w : World} {ad : Addr} {n : Nat} {f : Nat → Nat} (h : BytesAt w (some ad) n f) {i : Nat} (hi : i < n) : w.cell? (ad.add i) = some (.int .u8 (f i : Int)) := by
  obtain ⟨ad', e, hc⟩ := h.cell i hi
  obtain rfl := Option.some.inj e
  exact hc
theorem BytesAt.addr {w : World} {A : Option Addr} {n : Nat} {f : Nat → Nat} (h : BytesAt w A n f) (hn : 0 < n) : ∃ ad, A = some ad := by
  obtain ⟨ad, e, _⟩ := h.cell 0 hn
  exact ⟨ad, e⟩
theorem BytesAt.first {w : World} {A : Option Addr} {n m : Nat} {f : Nat → Nat} (h : BytesAt w A n f) (hm : m ≤ n) : BytesAt w A m f :=
  ⟨fun i hi => h.small i (by omega), fun i hi => h.cell i (by omega)⟩
theorem BytesAt.below {w w' : World} {A : Option Addr} {n : Nat} {f : Nat → Nat} (h : BytesAt w A n f) (hb : Below w.heap.size w w') : BytesAt w' A n f :=
  ⟨h.small, fun i hi => by obtain ⟨ad, e, hc⟩ := h.cell i hi; exact ⟨ad, e, cell_later hb hc⟩⟩

/-- The first n values of f, as bytes. -/
def cellsOf (f : Nat → Nat) (n : Nat) : List Value := (List.range n).map fun i => Value.int .u8 (f i : Int)

theorem cellsOf_length (f : Nat → Nat) (n : Nat) : (cellsOf f n).length = n := by simp [cellsOf]
theorem cellsOf_at (f : Nat → Nat) {n i : Nat} (h : i < n) : (cellsOf f n)[i]? = some (.int .u8 (f i : Int)) := by
  simp [cellsOf, List.getElem?_range h]
theorem cellsOf_inv {f : Nat → Nat} {n i : Nat} {u : Value} (h : (cellsOf f n)[i]? = some u) : i < n ∧ u = .int .u8 (f i : Int) := by
  have hl : i < n := by
    have := (List.getElem?_eq_some_iff.1 h).1
    rwa [cellsOf_length] at this
  rw [cellsOf_at f hl] at h
  exact ⟨hl, (Option.some.inj h).symm⟩
theorem cellsOf_one (f : Nat → Nat) (n : Nat) (u : Value) (h : u ∈ cellsOf f n) : u.oneCell' = true := by
  unfold cellsOf at h
  rw [List.mem_map] at h
  obtain ⟨i, _, rfl⟩ := h
  rfl
theorem cellsOf_congr {f g : Nat → Nat} {n : Nat} (h : ∀ i, i < n → f i = g i) : cellsOf f n = cellsOf g n := by
  apply List.ext_getElem?
  intro i
  by_cases hi : i < n
  · rw [cellsOf_at f hi, cellsOf_at g hi, h i hi]
  · rw [List.getElem?_eq_none (by rw [cellsOf_length]; omega), List.getElem?_eq_none (by rw [cellsOf_length]; omega)]
theorem cellsOf_set (f g : Nat → Nat) {n k : Nat} {z : Int} (hk : k < n) (hz : z = (g k : Int)) (h : ∀ i, i ≠ k → f i = g i) :
    (cellsOf f n).toArray.setIfInBounds k (.int .u8 z) = (cellsOf g n).toArray := by
  apply Array.ext'
  rw [Array.toList_setIfInBounds]
  apply List.ext_getElem?
  intro i
  rw [List.getElem?_set]
  by_cases hi : i < n
  · by_cases he : k = i
    · subst he
      rw [if_pos rfl, if_pos (by simp [cellsOf_length]; exact hk), hz]
      exact (cellsOf_at g hk).symm
    · rw [if_neg he]
      show (cellsOf f n)[i]? = (cellsOf g n)[i]?
      rw [cellsOf_at f hi, cellsOf_at g hi, h i (Ne.symm he)]
  · rw [if_neg (by omega)]
    show (cellsOf f n)[i]? = (cellsOf g n)[i]?
    rw [List.getElem?_eq_none (by rw [cellsOf_length]; omega), List.getElem?_eq_none (by rw [cellsOf_length]; omega)]

/-- Block g holds these bytes, all of them, and may be written. -/
def Lies (w : World) (g : Nat) (f : Nat → Nat) (n : Nat) : Prop := w.heap[g]? = some (.cells (cellsOf f n).toArray 5 (0, 0))

theorem Lies.lt {w : World} {g n : Nat} {f : Nat → Nat} (h : Lies w g f n) : g < w.heap.size := (Array.getElem?_eq_some_iff.1 h).1
theorem Lies.cell {w : World} {g n i : Nat} {f : Nat → Nat} (h : Lies w g f n) (hi : i < n) : w.cell? ⟨g, i, none⟩ = some (.int .u8 (f i : Int)) := by
  rw [cell_of_row w g i _ _ _ h, List.getElem?_toArray]
  exact cellsOf_at f hi
theorem Lies.free {w : World} {g n : Nat} {f : Nat → Nat} (h : Lies w g f n) (i : Nat) : w.frozen? ⟨g, i, none⟩ = false := by
  unfold Lies at h
  simp [World.frozen?, h]
theorem add_nil (g i : Nat) : (⟨g, 0, none⟩ : Addr).add i = ⟨g, i, none⟩ := by unfold Addr.add; split <;> simp_all
theorem Lies.bytes {w : World} {g n m : Nat} {f : Nat → Nat} (h : Lies w g f n) (hm : m ≤ n) (hf : ∀ i, i < m → f i < 256) : BytesAt w (some ⟨g, 0, none⟩) m f :=
  ⟨hf, fun i hi => ⟨_, rfl, by rw [add_nil]; exact h.cell (by omega)⟩⟩
theorem Lies.below {w w' : World} {g n B : Nat} {f : Nat → Nat} (h : Lies w g f n) (hb : Below B w w') (hg : g < B) : Lies w' g f n := (hb.block g hg).trans h
theorem Lies.drewN {w : World} {g n : Nat} {f : Nat → Nat} (h : Lies w g f n) (k : Nat) : Lies (w.drewN k) g f n := h
theorem Lies.congr {w : World} {g n : Nat} {f f' : Nat → Nat} (h : Lies w g f n) (he : ∀ i, i < n → f i = f' i) : Lies w g f' n := by
  unfold Lies at h ⊢
  rw [← cellsOf_congr he]
  exact h
theorem Lies.set_ {w : World} {g n k : Nat} {f f' : Nat → Nat} {z : Int} (h : Lies w g f n) (hk : k < n) (hz : z = (f' k : Int)) (he : ∀ i, i ≠ k → f i = f' i) :
    Lies (w.setCell ⟨g, k, none⟩ (.int .u8 z)) g f' n := by
  unfold Lies at h ⊢
  rw [← cellsOf_set f f' hk hz he, setCell_eq_setRow w g k _ _ _ _ h]
  exact setRow_heap w g _ _ _ _ h

/-- An answer: n bytes in a block of its own. -/
def Row (B : Nat) (w : World) (v : Value) (n : Nat) (f : Nat → Nat) : Prop :=
  ∃ g cap cur, v = .slice (some ⟨g, 0, none⟩) n cap ∧ B ≤ g ∧ n ≤ cap ∧ cap ≤ 9223372036854775807 ∧ w.heap[g]? = some (.cells cur 5 (0, 0)) ∧ ∀ i, i < n → cur[i]? = some (.int .u8 (f i : Int))

theorem Row.of_lies {B : Nat} {w : World} {g n : Nat} {f : Nat → Nat} (h : Lies w g f n) (hg : B ≤ g) (hn : n ≤ 9223372036854775807) : Row B w (.slice (some ⟨g, 0, none⟩) n n) n f :=
  ⟨g, n, _, rfl, hg, Nat.le_refl _, hn, h, fun _ hi => by rw [List.getElem?_toArray]; exact cellsOf_at f hi⟩
theorem Row.open_ {B : Nat} {w : World} {v : Value} {n : Nat} {f : Nat → Nat} (h : Row B w v n f) :
    ∃ g cap, v = .slice (some ⟨g, 0, none⟩) n cap ∧ B ≤ g ∧ g < w.heap.size ∧ n ≤ cap ∧ cap ≤ 9223372036854775807 ∧
      (∀ i, i < n → w.cell? ⟨g, i, none⟩ = some (.int .u8 (f i : Int))) ∧ ∀ i, w.frozen? ⟨g, i, none⟩ = false := by
  obtain ⟨g, cap, cur, hv, hB, hn, hc, hg, hf⟩ := h
  refine ⟨g, cap, hv, hB, (Array.getElem?_eq_some_iff.1 hg).1, hn, hc, fun i hi => ?_, fun i => ?_⟩
  · rw [cell_of_row w g i _ _ _ hg]
    exact hf i hi
  · simp [World.frozen?, hg]

/-- A slice of 64 (or 60) bytes 0. -/
theorem zeros_made (k : Nat) : (madeCells #[.int .u8 0] k) = (cellsOf (fun _ => 0) k).toArray := by
  apply Array.ext'
  unfold madeCells cellsOf
  simp only [Array.toList_map, Array.toList_range]
  apply List.map_congr_left
  intro i _
  simp [Nat.mod_one]
theorem byte_info : (Try.prog.info? 5).map (fun i => (i.zero, i.size, i.bytes)) = some (some (.int .u8 0), 1, 1) := by kernel_rfl
theorem byte_size : (Try.prog.info? 5).map (·.size) = some 1 := by kernel_rfl
theorem make_bytes (k : Nat) (hk : k ≤ 281474976710656) (u : World) :
    (Instr.makeSlice 28 (.int .i64 (k : Int)) (.int .i64 (k : Int))).run Try.prog u = .ok (.slice (some ⟨u.heap.size, 0, none⟩) k k) (u.alloc (.cells (cellsOf (fun _ => 0) k).toArray 5)) := by
  obtain ⟨i0, hi, hz0, hz1, hz2⟩ := info_parts byte_info
  have h := run_make (P := Try.prog) u 28 5 i0 (.int .u8 0) Try.underlying28 hi hz0 .i64 .i64 (k : Int) (k : Int) (by omega) (Int.le_refl _) (by rw [hz2]; omega) (by omega)
  rw [hz1, Int.toNat_natCast, Nat.mul_one] at h
  rw [h, ← zeros_made]
  rfl
theorem made_lies (w : World) (k : Nat) : Lies (w.alloc (.cells (cellsOf (fun _ => 0) k).toArray 5)) w.heap.size (fun _ => 0) k := heap_alloc_new w _

theorem BytesAt.copied {w : World} {A : Option Addr} {n m : Nat} {f : Nat → Nat} (h : BytesAt w A n f) (hm : m ≤ n) (hp : 0 < (cellsOf f m).length) :
    ∃ ad, A = some ad ∧ ∀ j v, (cellsOf f m)[j]? = some v → w.cell? (ad.add j) = some v := by
  rw [cellsOf_length] at hp
  obtain ⟨ad, rfl⟩ := h.addr (by omega)
  refine ⟨ad, rfl, fun j v hj => ?_⟩
  obtain ⟨hl, rfl⟩ := cellsOf_inv hj
  exact h.at_ (by omega)

/-- The first n values of f, as a string. -/
def str (f : Nat → Nat) (n : Nat) : ByteArray := ⟨((List.range n).map fun i => UInt8.ofNat (f i)).toArray⟩

theorem str_list (f : Nat → Nat) (n : Nat) : (str f n).toList = (List.range n).map fun i => UInt8.ofNat (f i) := by
  rw [ByteArray.toList_eq]
  simp [str]

theorem str_at (f : Nat → Nat) {n i : Nat} (h : i < n) : (str f n).toList[i]? = some (UInt8.ofNat (f i)) := by
  rw [str_list]
  simp [List.getElem?_range h]

theorem str_congr {f g : Nat → Nat} {n : Nat} (h : ∀ i, i < n → f i = g i) : str f n = str g n := by
  unfold str
  congr 2
  apply List.map_congr_left
  intro i hi
  rw [h i (List.mem_range.1 hi)]

theorem str_same {f g : Nat → Nat} {n : Nat} (h : ∀ i, i < n → f i = g i) : ((str f n).toList == (str g n).toList) = true := by
  rw [str_congr h]
  simp

theorem byte_inj {a b : Nat} (ha : a < 256) (hb : b < 256) (h : UInt8.ofNat a = UInt8.ofNat b) : a = b := by
  have := congrArg UInt8.toNat h
  simp at this
  omega

theorem str_inj {f g : Nat → Nat} {n : Nat} (hf : ∀ i, i < n → f i < 256) (hg : ∀ i, i < n → g i < 256) (h : ((str f n).toList == (str g n).toList) = true) (i : Nat) (hi : i < n) : f i = g i := by
  have h1 : (str f n).toList = (str g n).toList := by simpa using h
  have h2 : (str f n).toList[i]? = (str g n).toList[i]? := by rw [h1]
  rw [str_at f hi, str_at g hi] at h2
  exact byte_inj (hf i hi) (hg i hi) (Option.some.inj h2)

theorem str_other {f g : Nat → Nat} {n : Nat} (hf : ∀ i, i < n → f i < 256) (hg : ∀ i, i < n → g i < 256) {i : Nat} (hi : i < n) (h : f i ≠ g i) : ((str f n).toList == (str g n).toList) = false := by
  cases e : ((str f n).toList == (str g n).toList) with
  | true => exact absurd (str_inj hf hg e i hi) h
  | false => rfl

/-- string(b) of bytes that lie somewhere. -/
theorem conv_str {w : World} {A : Option Addr} {n : Nat} {f : Nat → Nat} (c : Nat) (h : BytesAt w A n f) :
    (convert 28 9 (.slice A n c)).run Try.prog w = .ok (.string (str f n)) w := by
  by_cases hn : n = 0
  · subst hn
    rw [run_convert_bytes_string w 28 9 5 A 0 c Try.underlying28 Try.underlying5 Try.underlying9]
    cases A with
    | none => simp [Conv.bytesToString, str]; rfl
    | some ad =>
      have hl := run_loadCells_list (P := Try.prog) w ad [] (by simp)
      rw [run_bytesToString w ad 0 c [] (by simpa using hl)]
      rfl
  · obtain ⟨ad, rfl⟩ := h.addr (by omega)
    have hc := run_convert_bytes_back (P := Try.prog) w 28 9 5 ad c ((List.range n).map fun i => UInt8.ofNat (f i)) Try.underlying28 Try.underlying5 Try.underlying9 (fun j hj => by
      simp only [List.length_map, List.length_range] at hj
      rw [h.at_ hj]
      have := h.small j hj
      simp only [List.getElem_map, List.getElem_range]
      congr 2
      simp
      omega)
    simpa [str] using hc

theorem conv_nil (w : World) (c : Nat) : (convert 28 9 (.slice none 0 c)).run Try.prog w = .ok (.string (str (fun _ => 0) 0)) w :=
  conv_str c ⟨fun i hi => absurd hi (by omega), fun i hi => absurd hi (by omega)⟩

theorem Row.bytes {B : Nat} {w : World} {v : Value} {n m : Nat} {f : Nat → Nat} (h : Row B w v n f) (hm : m ≤ n) (hf : ∀ i, i < m → f i < 256) :
    ∃ g cap, v = .slice (some ⟨g, 0, none⟩) n cap ∧ B ≤ g ∧ g < w.heap.size ∧ n ≤ cap ∧ cap ≤ 9223372036854775807 ∧ BytesAt w (some ⟨g, 0, none⟩) m f := by
  obtain ⟨g, cap, hv, hB, hlt, hn, hc, hcell, _⟩ := h.open_
  exact ⟨g, cap, hv, hB, hlt, hn, hc, hf, fun i hi => ⟨_, rfl, by rw [add_nil]; exact hcell i (by omega)⟩⟩

/-- A slice of bytes that came in. -/
def ofInts (Z : List Int) (i : Nat) : Nat := (Z.getD i 0).toNat
theorem bytes_in {w : World} {A : Option Addr} {n c : Nat} {Z : List Int} (h : IntsIn w .u8 A n c Z) : BytesAt w A n (ofInts Z) := by
  have hz : ∀ i, i < n → 0 ≤ Z.getD i 0 ∧ Z.getD i 0 ≤ 255 := fun i hi => by
    have hl : i < Z.length := by rw [h.len]; exact hi
    have hw := h.wf Z[i] (List.getElem_mem hl)
    rw [List.getD_eq_getElem?_getD, List.getElem?_eq_getElem hl]
    simpa [Lit.wf, IntKind.min, IntKind.max, IntKind.signed, IntKind.bits] using hw
  refine ⟨fun i hi => ?_, fun i hi => ?_⟩
  · have := hz i hi
    unfold ofInts
    omega
  · obtain ⟨ad, rfl⟩ := h.addr (by omega)
    refine ⟨ad, rfl, ?_⟩
    rw [h.cell ad rfl i hi]
    have := hz i hi
    unfold ofInts
    congr 2
    omega

theorem cells_behind (f g : Nat → Nat) (n m : Nat) : cellsOf f n ++ cellsOf g m = cellsOf (behind f n g) (n + m) := by
  apply List.ext_getElem?
  intro i
  by_cases hi : i < n
  · rw [List.getElem?_append_left (by rw [cellsOf_length]; exact hi), cellsOf_at f hi, cellsOf_at _ (by omega)]
    unfold behind
    rw [if_pos hi]
  · rw [List.getElem?_append_right (by rw [cellsOf_length]; omega), cellsOf_length]
    by_cases hm : i < n + m
    · rw [cellsOf_at g (by omega), cellsOf_at _ hm]
      unfold behind
      rw [if_neg hi]
    · rw [List.getElem?_eq_none (by rw [cellsOf_length]; omega), List.getElem?_eq_none (by rw [cellsOf_length]; omega)]

/-- The value is a row of the call's own, of just these bytes. -/
def Own (w : World) (base : Nat) (v : Value) (n : Nat) (f : Nat → Nat) : Prop := w.ownsRow base 5 1 v n (cellsOf f n)

theorem Own.grown_below {w w' w0 : World} {base n B : Nat} {v : Value} {f : Nat → Nat} (h : Own w base v n f) (hb : Below B w0 w) (hB : B ≤ base) (hB2 : B ≤ w.heap.size) (hg : w.grownBy w' v.ownBlock) : Below B w0 w' :=
  hb.grown hg hB2 fun k hk => Nat.le_trans hB (h.lt k hk).1
theorem Own.row {w : World} {base n : Nat} {v : Value} {f : Nat → Nat} (h : Own w base v n f) (hn : v ≠ .slice none 0 0) : Row base w v n f := by
  obtain ⟨_, h2⟩ := h
  rcases h2 with ⟨rfl, _⟩ | ⟨g, cap, cur, rfl, hb, hg, hnc, hm, _, ht⟩
  · exact absurd rfl hn
  · refine ⟨g, cap, cur, rfl, hb, hnc, by unfold maxLen at hm; omega, hg, fun i hi => ?_⟩
    have h1 : (cellsOf f n)[i]? = some (.int .u8 (f i : Int)) := cellsOf_at f hi
    rw [← ht, List.getElem?_take] at h1
    split at h1
    · simpa using h1
    · cases h1
theorem own_new (w : World) (f : Nat → Nat) : Own (w.alloc (.cells #[] 5)) w.heap.size (.slice (some ⟨w.heap.size, 0, none⟩) 0 0) 0 f :=
  World.ownsRow_lit w #[] 0 (Nat.le_refl _) (by decide) rfl

theorem bare_of {w : World} {A : Option Addr} {n c : Nat} {Z : List Int} (h : IntsIn w .u8 A n c Z) : A = none → c = 0 := fun e => (h.bare e).2

/-- The slice reads as n bytes f. -/
def Reads (w : World) (v : Value) (n : Nat) (f : Nat → Nat) : Prop :=
  ∃ A c, v = .slice A n c ∧ n ≤ c ∧ c ≤ 9223372036854775807 ∧ (A = none → c = 0) ∧ BytesAt w A n f
theorem Reads.below {w w' : World} {v : Value} {n : Nat} {f : Nat → Nat} (h : Reads w v n f) (hb : Below w.heap.size w w') : Reads w' v n f := by
  obtain ⟨A, c, e, h1, h2, h3, hs⟩ := h
  exact ⟨A, c, e, h1, h2, h3, hs.below hb⟩
theorem Reads.conv {w : World} {v : Value} {n : Nat} {f : Nat → Nat} (h : Reads w v n f) : (convert 28 9 v).run Try.prog w = .ok (.string (str f n)) w := by
  obtain ⟨A, c, rfl, _, _, _, hs⟩ := h
  exact conv_str c hs
theorem BytesAt.congr {w : World} {A : Option Addr} {n : Nat} {f g : Nat → Nat} (h : BytesAt w A n f) (he : ∀ i, i < n → f i = g i) : BytesAt w A n g :=
  ⟨fun i hi => by rw [← he i hi]; exact h.small i hi, fun i hi => by rw [← he i hi]; exact h.cell i hi⟩
theorem Reads.congr {w : World} {v : Value} {n : Nat} {f g : Nat → Nat} (h : Reads w v n f) (he : ∀ i, i < n → f i = g i) : Reads w v n g := by
  obtain ⟨A, c, e, h1, h2, h3, hs⟩ := h
  exact ⟨A, c, e, h1, h2, h3, hs.congr he⟩
theorem bytes_none (w : World) (f : Nat → Nat) : BytesAt w none 0 f := ⟨fun i hi => absurd hi (by omega), fun i hi => absurd hi (by omega)⟩
theorem reads_none (w : World) (f : Nat → Nat) : Reads w (.slice none 0 0) 0 f := ⟨none, 0, rfl, Nat.le_refl _, by omega, fun _ => rfl, bytes_none w f⟩
theorem reads_in {w : World} {A : Option Addr} {n c : Nat} {Z : List Int} (h : IntsIn w .u8 A n c Z) : Reads w (.slice A n c) n (ofInts Z) := ⟨A, c, rfl, h.cap, h.most, bare_of h, bytes_in h⟩
theorem Own.congr {w : World} {base n : Nat} {v : Value} {f g : Nat → Nat} (h : Own w base v n f) (he : ∀ i, i < n → f i = g i) : Own w base v n g := by
  unfold Own at h ⊢
  rw [← cellsOf_congr he]
  exact h
theorem Own.alloc {w : World} {base n : Nat} {v : Value} {f : Nat → Nat} (h : Own w base v n f) (o : Obj) : Own (w.alloc o) base v n f := World.ownsRow.alloc h o
/-- What is owned stays owned behind a call that leaves all as it was. -/
theorem owns_later {w w' : World} {base : Nat} {e : TypeId} {size : Nat} {v : Value} {n : Nat} {xs : List Value} (h : w.ownsRow base e size v n xs) (hb : Below w.heap.size w w') : w'.ownsRow base e size v n xs := by
  refine ⟨h.1, ?_⟩
  rcases h.2 with h2 | ⟨g, cap, cur, e, hb0, hg, rest⟩
  · exact .inl h2
  · exact .inr ⟨g, cap, cur, e, hb0, (hb.block g (Array.getElem?_eq_some_iff.1 hg).1).trans hg, rest⟩
theorem own_none (w : World) (base : Nat) (f : Nat → Nat) : Own w base (.slice none 0 0) 0 f := ⟨by rw [cellsOf_length], .inl ⟨rfl, rfl⟩⟩
theorem Own.reads {w : World} {base n : Nat} {v : Value} {f : Nat → Nat} (h : Own w base v n f) (hf : ∀ i, i < n → f i < 256) : Reads w v n f := by
  have h0 := h
  rcases h.2 with ⟨rfl, rfl⟩ | ⟨g, cap, cur, rfl, _, hg, hnc, hm, _⟩
  · exact reads_none w f
  · exact ⟨_, cap, rfl, hnc, by unfold maxLen at hm; omega, (by intro e; cases e), ⟨hf, fun i hi => ⟨_, rfl, World.ownsRow.cells h0 (g := g) rfl i _ (cellsOf_at f hi)⟩⟩⟩
theorem one_new (w : World) {z : Nat} (hz : z < 256) : BytesAt (w.alloc (.cells #[.int .u8 (z : Int)] 5)) (some ⟨w.heap.size, 0, none⟩) 1 (fun _ => z) :=
  ⟨fun _ _ => hz, fun i hi => ⟨_, rfl, by
    obtain rfl : i = 0 := by omega
    rw [add_nil, World.cell?_alloc_mark]; rfl⟩⟩

/-- Any bytes behind them (the row may be nil). -/
theorem run_bytes {w : World} {base n m c : Nat} {v : Value} {f g : Nat → Nat} {A : Option Addr} (ty : TypeId) (h : Own w base v n f) (hs : BytesAt w A m g) (hbare : A = none → c = 0)
    (hm : n + m ≤ 140737488355328) (hb : base ≤ w.heap.size) :
    ∃ v' w', (Builtin.append_ #[28, 28] ty #[v, .slice A m c]).run Try.prog w = .ok v' w' ∧ Own w' base v' (n + m) (behind f n g) ∧ (v' = .slice none 0 0 → v = .slice none 0 0 ∧ m = 0) ∧ w.grownBy w' v.ownBlock := by
  obtain ⟨i0, hi, hz0, hz1, hz2⟩ := info_parts byte_info
  cases A with
  | none =>
    have hm0 : m = 0 := by
      rcases Nat.eq_zero_or_pos m with h0 | h0
      · exact h0
      · obtain ⟨ad, e⟩ := hs.addr h0; cases e
    obtain rfl := hbare rfl
    subst hm0
    refine ⟨v, w, run_append_owned_none (P := Try.prog) (w := w) base 28 ty 5 i0 1 Try.underlying28 hi v n _ h, ?_, (fun e => ⟨e, rfl⟩), ⟨rfl, rfl, rfl, Nat.le_refl _, fun _ _ _ => rfl⟩⟩
    unfold Own at h ⊢
    have := cells_behind f g n 0
    rw [Nat.add_zero] at this ⊢
    rw [← this]
    simpa [cellsOf] using h
  | some ad =>
    obtain ⟨v', w', h1, h2, h3, h4⟩ := run_append_own (P := Try.prog) w base 28 ty 5 i0 _ 1 1 Try.underlying28 hi hz0 hz1 hz2 rfl (by decide) v n _ h ad m c (cellsOf g m) (by rw [cellsOf_length, Nat.mul_one])
      (fun j u hj => by obtain ⟨hl, rfl⟩ := cellsOf_inv hj; exact hs.at_ hl) (cellsOf_one g m) (by unfold maxLen; omega) (by omega) hb
    refine ⟨v', w', h1, ?_, h4.1, h3⟩
    unfold Own
    rw [← cells_behind]
    exact h2

end Go.Proofs.Ytmgeifolgdgapaa
