/- Bytes: that lie somewhere, in a block of the call's own, as strings; appended. Nothing of a program's functions. What the functions of package cell that read alone answer: a contract each. Slices of int: that lie somewhere, in a block of the call's own; appended. Nothing of a program's functions. What join and Row answer. Row's answer is a row of the call's own: bytes may be put behind it. Two byte rows compared. slices.Concat of two slices of bytes. What Put, Get and Unrow answer. -/
import Derived.Test.YtmgeifolgdgapaaLawKit
import Derived.Test.YtmgeifolgdgapaaRows
import Derived.WalkKit
import Derived.WalkSpells
import Derived.WalkLawsBesides
import Derived.Deep.QuietTactic
import Derived.BigQuiet
import Derived.LoopTactic
import Derived.IntWalk
import Derived.OwnWalk
import Derived.Laws.CopyOwn
import Derived.Laws.MakeOwn
import Derived.Laws.IdiomStrings
import Derived.Lib.AppendZeros
import Derived.Laws.OwnMore
import Derived.Lib.Hide
import Derived.Test.YtmgeifolgdgapaaCellMath
namespace Go.Proofs.Ytmgeifolgdgapaa
open Go.RowKit

/-- f, and g behind the first n. -/
def behind (f : Nat → Nat) (n : Nat) (g : Nat → Nat) (i : Nat) : Nat := if i < n then f i else g (i - n)
theorem behind_low {f g : Nat → Nat} {n i : Nat} (h : i < n) : behind f n g i = f i := by unfold behind; rw [if_pos h]
theorem behind_high {f g : Nat → Nat} {n i : Nat} (h : n ≤ i) : behind f n g i = g (i - n) := by unfold behind; rw [if_neg (by omega)]
theorem behind_lt {f g : Nat → Nat} {n m : Nat} (hf : ∀ i, i < n → f i < 256) (hg : ∀ i, i < m → g i < 256) (i : Nat) (hi : i < n + m) : behind f n g i < 256 := by
  unfold behind
  by_cases h : i < n
  · rw [if_pos h]; exact hf i h
  · rw [if_neg h]; exact hg _ (by omega)

/-- n bytes lie at A, byte i is f i. -/
structure BytesAt (w : World) (A : Option Addr) (n : Nat) (f : Nat → Nat) : Prop where
  small : ∀ i, i < n → f i < 256
  cell : ∀ i, i < n → ∃ ad, A = some ad ∧ w.cell? (ad.add i) = some (.int .u8 (f i : Int))

theorem BytesAt.at_ {w : World} {ad : Addr} {n : Nat} {f : Nat → Nat} (h : BytesAt w (some ad) n f) {i : Nat} (hi : i < n) : w.cell? (ad.add i) = some (.int .u8 (f i : Int)) := by
  obtain ⟨ad', e, hc⟩ := h.cell i hi
  obtain rfl := Option.some.inj e
  exact hc
theorem BytesAt.addr {w : World} {A : Option Addr} {n : Nat} {f : Nat → Nat} (h : BytesAt w A n f) (hn : 0 < n) : ∃ ad, A = some ad := by
  obtain ⟨ad, e, _⟩ := h.cell 0 hn
  exact ⟨ad, e⟩
theorem BytesAt.first {w : World} {A : Option Addr} {n m : Nat} {f : Nat → Nat} (h : BytesAt w A n f) (hm : m ≤ n) : BytesAt w A m f :=
  ⟨fun i hi => h.small i (by omega), fun i hi => h.cell i (by omega)⟩
theorem BytesAt.below {w w' : World} {A : Option Addr} {n : Nat} {f : Nat → Nat} (h : BytesAt w A n f) (hb : Below w.heap.size w w') : BytesAt w' A n f :=
  ⟨h.small, fun i hi => by obtain ⟨ad, e, hc⟩ := h.cell i hi; exact ⟨ad, e, cell_later hb hc⟩⟩

/-- The first n values of f, as bytes. -/
def cellsOf (f : Nat → Nat) (n : Nat) : List Value := (List.range n).map fun i => Value.int .u8 (f i : Int)

theorem cellsOf_length (f : Nat → Nat) (n : Nat) : (cellsOf f n).length = n := by simp [cellsOf]
theorem cellsOf_at (f : Nat → Nat) {n i : Nat} (h : i < n) : (cellsOf f n)[i]? = some (.int .u8 (f i : Int)) := by
  simp [cellsOf, List.getElem?_range h]
theorem cellsOf_inv {f : Nat → Nat} {n i : Nat} {u : Value} (h : (cellsOf f n)[i]? = some u) : i < n ∧ u = .int .u8 (f i : Int) := by
  have hl : i < n := by
    have := (List.getElem?_eq_some_iff.1 h).1
    rwa [cellsOf_length] at this
  rw [cellsOf_at f hl] at h
  exact ⟨hl, (Option.some.inj h).symm⟩
theorem cellsOf_one (f : Nat → Nat) (n : Nat) (u : Value) (h : u ∈ cellsOf f n) : u.oneCell' = true := by
  unfold cellsOf at h
  rw [List.mem_map] at h
  obtain ⟨i, _, rfl⟩ := h
  rfl
theorem cellsOf_congr {f g : Nat → Nat} {n : Nat} (h : ∀ i, i < n → f i = g i) : cellsOf f n = cellsOf g n := by
  apply List.ext_getElem?
  intro i
  by_cases hi : i < n
  · rw [cellsOf_at f hi, cellsOf_at g hi, h i hi]
  · rw [List.getElem?_eq_none (by rw [cellsOf_length]; omega), List.getElem?_eq_none (by rw [cellsOf_length]; omega)]
theorem cellsOf_set (f g : Nat → Nat) {n k : Nat} {z : Int} (hk : k < n) (hz : z = (g k : Int)) (h : ∀ i, i ≠ k → f i = g i) :
    (cellsOf f n).toArray.setIfInBounds k (.int .u8 z) = (cellsOf g n).toArray := by
  apply Array.ext'
  rw [Array.toList_setIfInBounds]
  apply List.ext_getElem?
  intro i
  rw [List.getElem?_set]
  by_cases hi : i < n
  · by_cases he : k = i
    · subst he
      rw [if_pos rfl, if_pos (by simp [cellsOf_length]; exact hk), hz]
      exact (cellsOf_at g hk).symm
    · rw [if_neg he]
      show (cellsOf f n)[i]? = (cellsOf g n)[i]?
      rw [cellsOf_at f hi, cellsOf_at g hi, h i (Ne.symm he)]
  · rw [if_neg (by omega)]
    show (cellsOf f n)[i]? = (cellsOf g n)[i]?
    rw [List.getElem?_eq_none (by rw [cellsOf_length]; omega), List.getElem?_eq_none (by rw [cellsOf_length]; omega)]

/-- Block g holds these bytes, all of them, and may be written. -/
def Lies (w : World) (g : Nat) (f : Nat → Nat) (n : Nat) : Prop := w.heap[g]? = some (.cells (cellsOf f n).toArray 5 (0, 0))

theorem Lies.lt {w : World} {g n : Nat} {f : Nat → Nat} (h : Lies w g f n) : g < w.heap.size := (Array.getElem?_eq_some_iff.1 h).1
theorem Lies.cell {w : World} {g n i : Nat} {f : Nat → Nat} (h : Lies w g f n) (hi : i < n) : w.cell? ⟨g, i, none⟩ = some (.int .u8 (f i : Int)) := by
  rw [cell_of_row w g i _ _ _ h, List.getElem?_toArray]
  exact cellsOf_at f hi
theorem Lies.free {w : World} {g n : Nat} {f : Nat → Nat} (h : Lies w g f n) (i : Nat) : w.frozen? ⟨g, i, none⟩ = false := by
  unfold Lies at h
  simp [World.frozen?, h]
theorem add_nil (g i : Nat) : (⟨g, 0, none⟩ : Addr).add i = ⟨g, i, none⟩ := by unfold Addr.add; split <;> simp_all
theorem Lies.bytes {w : World} {g n m : Nat} {f : Nat → Nat} (h : Lies w g f n) (hm : m ≤ n) (hf : ∀ i, i < m → f i < 256) : BytesAt w (some ⟨g, 0, none⟩) m f :=
  ⟨hf, fun i hi => ⟨_, rfl, by rw [add_nil]; exact h.cell (by omega)⟩⟩
theorem Lies.below {w w' : World} {g n B : Nat} {f : Nat → Nat} (h : Lies w g f n) (hb : Below B w w') (hg : g < B) : Lies w' g f n := (hb.block g hg).trans h
theorem Lies.drewN {w : World} {g n : Nat} {f : Nat → Nat} (h : Lies w g f n) (k : Nat) : Lies (w.drewN k) g f n := h
theorem Lies.congr {w : World} {g n : Nat} {f f' : Nat → Nat} (h : Lies w g f n) (he : ∀ i, i < n → f i = f' i) : Lies w g f' n := by
  unfold Lies at h ⊢
  rw [← cellsOf_congr he]
  exact h
theorem Lies.set_ {w : World} {g n k : Nat} {f f' : Nat → Nat} {z : Int} (h : Lies w g f n) (hk : k < n) (hz : z = (f' k : Int)) (he : ∀ i, i ≠ k → f i = f' i) :
    Lies (w.setCell ⟨g, k, none⟩ (.int .u8 z)) g f' n := by
  unfold Lies at h ⊢
  rw [← cellsOf_set f f' hk hz he, setCell_eq_setRow w g k _ _ _ _ h]
  exact setRow_heap w g _ _ _ _ h

/-- An answer: n bytes in a block of its own. -/
def Row (B : Nat) (w : World) (v : Value) (n : Nat) (f : Nat → Nat) : Prop :=
  ∃ g cap cur, v = .slice (some ⟨g, 0, none⟩) n cap ∧ B ≤ g ∧ n ≤ cap ∧ cap ≤ 9223372036854775807 ∧ w.heap[g]? = some (.cells cur 5 (0, 0)) ∧ ∀ i, i < n → cur[i]? = some (.int .u8 (f i : Int))

theorem Row.of_lies {B : Nat} {w : World} {g n : Nat} {f : Nat → Nat} (h : Lies w g f n) (hg : B ≤ g) (hn : n ≤ 9223372036854775807) : Row B w (.slice (some ⟨g, 0, none⟩) n n) n f :=
  ⟨g, n, _, rfl, hg, Nat.le_refl _, hn, h, fun _ hi => by rw [List.getElem?_toArray]; exact cellsOf_at f hi⟩
theorem Row.open_ {B : Nat} {w : World} {v : Value} {n : Nat} {f : Nat → Nat} (h : Row B w v n f) :
    ∃ g cap, v = .slice (some ⟨g, 0, none⟩) n cap ∧ B ≤ g ∧ g < w.heap.size ∧ n ≤ cap ∧ cap ≤ 9223372036854775807 ∧
      (∀ i, i < n → w.cell? ⟨g, i, none⟩ = some (.int .u8 (f i : Int))) ∧ ∀ i, w.frozen? ⟨g, i, none⟩ = false := by
  obtain ⟨g, cap, cur, hv, hB, hn, hc, hg, hf⟩ := h
  refine ⟨g, cap, hv, hB, (Array.getElem?_eq_some_iff.1 hg).1, hn, hc, fun i hi => ?_, fun i => ?_⟩
  · rw [cell_of_row w g i _ _ _ hg]
    exact hf i hi
  · simp [World.frozen?, hg]

/-- A slice of 64 (or 60) bytes 0. -/
theorem zeros_made (k : Nat) : (madeCells #[.int .u8 0] k) = (cellsOf (fun _ => 0) k).toArray := by
  apply Array.ext'
  unfold madeCells cellsOf
  simp only [Array.toList_map, Array.toList_range]
  apply List.map_congr_left
  intro i _
  simp [Nat.mod_one]
theorem byte_info : (Try.prog.info? 5).map (fun i => (i.zero, i.size, i.bytes)) = some (some (.int .u8 0), 1, 1) := by kernel_rfl
theorem byte_size : (Try.prog.info? 5).map (·.size) = some 1 := by kernel_rfl
theorem make_bytes (k : Nat) (hk : k ≤ 281474976710656) (u : World) :
    (Instr.makeSlice 28 (.int .i64 (k : Int)) (.int .i64 (k : Int))).run Try.prog u = .ok (.slice (some ⟨u.heap.size, 0, none⟩) k k) (u.alloc (.cells (cellsOf (fun _ => 0) k).toArray 5)) := by
  obtain ⟨i0, hi, hz0, hz1, hz2⟩ := info_parts byte_info
  have h := run_make (P := Try.prog) u 28 5 i0 (.int .u8 0) Try.underlying28 hi hz0 .i64 .i64 (k : Int) (k : Int) (by omega) (Int.le_refl _) (by rw [hz2]; omega) (by omega)
  rw [hz1, Int.toNat_natCast, Nat.mul_one] at h
  rw [h, ← zeros_made]
  rfl
theorem made_lies (w : World) (k : Nat) : Lies (w.alloc (.cells (cellsOf (fun _ => 0) k).toArray 5)) w.heap.size (fun _ => 0) k := heap_alloc_new w _

theorem BytesAt.copied {w : World} {A : Option Addr} {n m : Nat} {f : Nat → Nat} (h : BytesAt w A n f) (hm : m ≤ n) (hp : 0 < (cellsOf f m).length) :
    ∃ ad, A = some ad ∧ ∀ j v, (cellsOf f m)[j]? = some v → w.cell? (ad.add j) = some v := by
  rw [cellsOf_length] at hp
  obtain ⟨ad, rfl⟩ := h.addr (by omega)
  refine ⟨ad, rfl, fun j v hj => ?_⟩
  obtain ⟨hl, rfl⟩ := cellsOf_inv hj
  exact h.at_ (by omega)

/-- The first n values of f, as a string. -/
def str (f : Nat → Nat) (n : Nat) : ByteArray := ⟨((List.range n).map fun i => UInt8.ofNat (f i)).toArray⟩

theorem str_list (f : Nat → Nat) (n : Nat) : (str f n).toList = (List.range n).map fun i => UInt8.ofNat (f i) := by
  rw [ByteArray.toList_eq]
  simp [str]

theorem str_at (f : Nat → Nat) {n i : Nat} (h : i < n) : (str f n).toList[i]? = some (UInt8.ofNat (f i)) := by
  rw [str_list]
  simp [List.getElem?_range h]

theorem str_congr {f g : Nat → Nat} {n : Nat} (h : ∀ i, i < n → f i = g i) : str f n = str g n := by
  unfold str
  congr 2
  apply List.map_congr_left
  intro i hi
  rw [h i (List.mem_range.1 hi)]

theorem str_same {f g : Nat → Nat} {n : Nat} (h : ∀ i, i < n → f i = g i) : ((str f n).toList == (str g n).toList) = true := by
  rw [str_congr h]
  simp

theorem byte_inj {a b : Nat} (ha : a < 256) (hb : b < 256) (h : UInt8.ofNat a = UInt8.ofNat b) : a = b := by
  have := congrArg UInt8.toNat h
  simp at this
  omega

theorem str_inj {f g : Nat → Nat} {n : Nat} (hf : ∀ i, i < n → f i < 256) (hg : ∀ i, i < n → g i < 256) (h : ((str f n).toList == (str g n).toList) = true) (i : Nat) (hi : i < n) : f i = g i := by
  have h1 : (str f n).toList = (str g n).toList := by simpa using h
  have h2 : (str f n).toList[i]? = (str g n).toList[i]? := by rw [h1]
  rw [str_at f hi, str_at g hi] at h2
  exact byte_inj (hf i hi) (hg i hi) (Option.some.inj h2)

theorem str_other {f g : Nat → Nat} {n : Nat} (hf : ∀ i, i < n → f i < 256) (hg : ∀ i, i < n → g i < 256) {i : Nat} (hi : i < n) (h : f i ≠ g i) : ((str f n).toList == (str g n).toList) = false := by
  cases e : ((str f n).toList == (str g n).toList) with
  | true => exact absurd (str_inj hf hg e i hi) h
  | false => rfl

/-- string(b) of bytes that lie somewhere. -/
theorem conv_str {w : World} {A : Option Addr} {n : Nat} {f : Nat → Nat} (c : Nat) (h : BytesAt w A n f) :
    (convert 28 9 (.slice A n c)).run Try.prog w = .ok (.string (str f n)) w := by
  by_cases hn : n = 0
  · subst hn
    rw [run_convert_bytes_string w 28 9 5 A 0 c Try.underlying28 Try.underlying5 Try.underlying9]
    cases A with
    | none => simp [Conv.bytesToString, str]; rfl
    | some ad =>
      have hl := run_loadCells_list (P := Try.prog) w ad [] (by simp)
      rw [run_bytesToString w ad 0 c [] (by simpa using hl)]
      rfl
  · obtain ⟨ad, rfl⟩ := h.addr (by omega)
    have hc := run_convert_bytes_back (P := Try.prog) w 28 9 5 ad c ((List.range n).map fun i => UInt8.ofNat (f i)) Try.underlying28 Try.underlying5 Try.underlying9 (fun j hj => by
      simp only [List.length_map, List.length_range] at hj
      rw [h.at_ hj]
      have := h.small j hj
      simp only [List.getElem_map, List.getElem_range]
      congr 2
      simp
      omega)
    simpa [str] using hc

theorem conv_nil (w : World) (c : Nat) : (convert 28 9 (.slice none 0 c)).run Try.prog w = .ok (.string (str (fun _ => 0) 0)) w :=
  conv_str c ⟨fun i hi => absurd hi (by omega), fun i hi => absurd hi (by omega)⟩

theorem Row.bytes {B : Nat} {w : World} {v : Value} {n m : Nat} {f : Nat → Nat} (h : Row B w v n f) (hm : m ≤ n) (hf : ∀ i, i < m → f i < 256) :
    ∃ g cap, v = .slice (some ⟨g, 0, none⟩) n cap ∧ B ≤ g ∧ g < w.heap.size ∧ n ≤ cap ∧ cap ≤ 9223372036854775807 ∧ BytesAt w (some ⟨g, 0, none⟩) m f := by
  obtain ⟨g, cap, hv, hB, hlt, hn, hc, hcell, _⟩ := h.open_
  exact ⟨g, cap, hv, hB, hlt, hn, hc, hf, fun i hi => ⟨_, rfl, by rw [add_nil]; exact hcell i (by omega)⟩⟩

/-- A slice of bytes that came in. -/
def ofInts (Z : List Int) (i : Nat) : Nat := (Z.getD i 0).toNat
theorem bytes_in {w : World} {A : Option Addr} {n c : Nat} {Z : List Int} (h : IntsIn w .u8 A n c Z) : BytesAt w A n (ofInts Z) := by
  have hz : ∀ i, i < n → 0 ≤ Z.getD i 0 ∧ Z.getD i 0 ≤ 255 := fun i hi => by
    have hl : i < Z.length := by rw [h.len]; exact hi
    have hw := h.wf Z[i] (List.getElem_mem hl)
    rw [List.getD_eq_getElem?_getD, List.getElem?_eq_getElem hl]
    simpa [Lit.wf, IntKind.min, IntKind.max, IntKind.signed, IntKind.bits] using hw
  refine ⟨fun i hi => ?_, fun i hi => ?_⟩
  · have := hz i hi
    unfold ofInts
    omega
  · obtain ⟨ad, rfl⟩ := h.addr (by omega)
    refine ⟨ad, rfl, ?_⟩
    rw [h.cell ad rfl i hi]
    have := hz i hi
    unfold ofInts
    congr 2
    omega

theorem cells_behind (f g : Nat → Nat) (n m : Nat) : cellsOf f n ++ cellsOf g m = cellsOf (behind f n g) (n + m) := by
  apply List.ext_getElem?
  intro i
  by_cases hi : i < n
  · rw [List.getElem?_append_left (by rw [cellsOf_length]; exact hi), cellsOf_at f hi, cellsOf_at _ (by omega)]
    unfold behind
    rw [if_pos hi]
  · rw [List.getElem?_append_right (by rw [cellsOf_length]; omega), cellsOf_length]
    by_cases hm : i < n + m
    · rw [cellsOf_at g (by omega), cellsOf_at _ hm]
      unfold behind
      rw [if_neg hi]
    · rw [List.getElem?_eq_none (by rw [cellsOf_length]; omega), List.getElem?_eq_none (by rw [cellsOf_length]; omega)]

/-- The value is a row of the call's own, of just these bytes. -/
def Own (w : World) (base : Nat) (v : Value) (n : Nat) (f : Nat → Nat) : Prop := w.ownsRow base 5 1 v n (cellsOf f n)

theorem Own.grown_below {w w' w0 : World} {base n B : Nat} {v : Value} {f : Nat → Nat} (h : Own w base v n f) (hb : Below B w0 w) (hB : B ≤ base) (hB2 : B ≤ w.heap.size) (hg : w.grownBy w' v.ownBlock) : Below B w0 w' :=
  hb.grown hg hB2 fun k hk => Nat.le_trans hB (h.lt k hk).1
theorem Own.row {w : World} {base n : Nat} {v : Value} {f : Nat → Nat} (h : Own w base v n f) (hn : v ≠ .slice none 0 0) : Row base w v n f := by
  obtain ⟨_, h2⟩ := h
  rcases h2 with ⟨rfl, _⟩ | ⟨g, cap, cur, rfl, hb, hg, hnc, hm, _, ht⟩
  · exact absurd rfl hn
  · refine ⟨g, cap, cur, rfl, hb, hnc, by unfold maxLen at hm; omega, hg, fun i hi => ?_⟩
    have h1 : (cellsOf f n)[i]? = some (.int .u8 (f i : Int)) := cellsOf_at f hi
    rw [← ht, List.getElem?_take] at h1
    split at h1
    · simpa using h1
    · cases h1
theorem own_new (w : World) (f : Nat → Nat) : Own (w.alloc (.cells #[] 5)) w.heap.size (.slice (some ⟨w.heap.size, 0, none⟩) 0 0) 0 f :=
  World.ownsRow_lit w #[] 0 (Nat.le_refl _) (by decide) rfl

theorem bare_of {w : World} {A : Option Addr} {n c : Nat} {Z : List Int} (h : IntsIn w .u8 A n c Z) : A = none → c = 0 := fun e => (h.bare e).2

/-- The slice reads as n bytes f. -/
def Reads (w : World) (v : Value) (n : Nat) (f : Nat → Nat) : Prop :=
  ∃ A c, v = .slice A n c ∧ n ≤ c ∧ c ≤ 9223372036854775807 ∧ (A = none → c = 0) ∧ BytesAt w A n f
theorem Reads.below {w w' : World} {v : Value} {n : Nat} {f : Nat → Nat} (h : Reads w v n f) (hb : Below w.heap.size w w') : Reads w' v n f := by
  obtain ⟨A, c, e, h1, h2, h3, hs⟩ := h
  exact ⟨A, c, e, h1, h2, h3, hs.below hb⟩
theorem Reads.conv {w : World} {v : Value} {n : Nat} {f : Nat → Nat} (h : Reads w v n f) : (convert 28 9 v).run Try.prog w = .ok (.string (str f n)) w := by
  obtain ⟨A, c, rfl, _, _, _, hs⟩ := h
  exact conv_str c hs
theorem BytesAt.congr {w : World} {A : Option Addr} {n : Nat} {f g : Nat → Nat} (h : BytesAt w A n f) (he : ∀ i, i < n → f i = g i) : BytesAt w A n g :=
  ⟨fun i hi => by rw [← he i hi]; exact h.small i hi, fun i hi => by rw [← he i hi]; exact h.cell i hi⟩
theorem Reads.congr {w : World} {v : Value} {n : Nat} {f g : Nat → Nat} (h : Reads w v n f) (he : ∀ i, i < n → f i = g i) : Reads w v n g := by
  obtain ⟨A, c, e, h1, h2, h3, hs⟩ := h
  exact ⟨A, c, e, h1, h2, h3, hs.congr he⟩
theorem bytes_none (w : World) (f : Nat → Nat) : BytesAt w none 0 f := ⟨fun i hi => absurd hi (by omega), fun i hi => absurd hi (by omega)⟩
theorem reads_none (w : World) (f : Nat → Nat) : Reads w (.slice none 0 0) 0 f := ⟨none, 0, rfl, Nat.le_refl _, by omega, fun _ => rfl, bytes_none w f⟩
theorem reads_in {w : World} {A : Option Addr} {n c : Nat} {Z : List Int} (h : IntsIn w .u8 A n c Z) : Reads w (.slice A n c) n (ofInts Z) := ⟨A, c, rfl, h.cap, h.most, bare_of h, bytes_in h⟩
theorem Own.congr {w : World} {base n : Nat} {v : Value} {f g : Nat → Nat} (h : Own w base v n f) (he : ∀ i, i < n → f i = g i) : Own w base v n g := by
  unfold Own at h ⊢
  rw [← cellsOf_congr he]
  exact h
theorem Own.alloc {w : World} {base n : Nat} {v : Value} {f : Nat → Nat} (h : Own w base v n f) (o : Obj) : Own (w.alloc o) base v n f := World.ownsRow.alloc h o
/-- What is owned stays owned behind a call that leaves all as it was. -/
theorem owns_later {w w' : World} {base : Nat} {e : TypeId} {size : Nat} {v : Value} {n : Nat} {xs : List Value} (h : w.ownsRow base e size v n xs) (hb : Below w.heap.size w w') : w'.ownsRow base e size v n xs := by
  refine ⟨h.1, ?_⟩
  rcases h.2 with h2 | ⟨g, cap, cur, e, hb0, hg, rest⟩
  · exact .inl h2
  · exact .inr ⟨g, cap, cur, e, hb0, (hb.block g (Array.getElem?_eq_some_iff.1 hg).1).trans hg, rest⟩
theorem own_none (w : World) (base : Nat) (f : Nat → Nat) : Own w base (.slice none 0 0) 0 f := ⟨by rw [cellsOf_length], .inl ⟨rfl, rfl⟩⟩
theorem Own.reads {w : World} {base n : Nat} {v : Value} {f : Nat → Nat} (h : Own w base v n f) (hf : ∀ i, i < n → f i < 256) : Reads w v n f := by
  have h0 := h
  rcases h.2 with ⟨rfl, rfl⟩ | ⟨g, cap, cur, rfl, _, hg, hnc, hm, _⟩
  · exact reads_none w f
  · exact ⟨_, cap, rfl, hnc, by unfold maxLen at hm; omega, (by intro e; cases e), ⟨hf, fun i hi => ⟨_, rfl, World.ownsRow.cells h0 (g := g) rfl i _ (cellsOf_at f hi)⟩⟩⟩
theorem one_new (w : World) {z : Nat} (hz : z < 256) : BytesAt (w.alloc (.cells #[.int .u8 (z : Int)] 5)) (some ⟨w.heap.size, 0, none⟩) 1 (fun _ => z) :=
  ⟨fun _ _ => hz, fun i hi => ⟨_, rfl, by
    obtain rfl : i = 0 := by omega
    rw [add_nil, World.cell?_alloc_mark]; rfl⟩⟩

/-- Any bytes behind them (the row may be nil). -/
theorem run_bytes {w : World} {base n m c : Nat} {v : Value} {f g : Nat → Nat} {A : Option Addr} (ty : TypeId) (h : Own w base v n f) (hs : BytesAt w A m g) (hbare : A = none → c = 0)
    (hm : n + m ≤ 140737488355328) (hb : base ≤ w.heap.size) :
    ∃ v' w', (Builtin.append_ #[28, 28] ty #[v, .slice A m c]).run Try.prog w = .ok v' w' ∧ Own w' base v' (n + m) (behind f n g) ∧ (v' = .slice none 0 0 → v = .slice none 0 0 ∧ m = 0) ∧ w.grownBy w' v.ownBlock := by
  obtain ⟨i0, hi, hz0, hz1, hz2⟩ := info_parts byte_info
  cases A with
  | none =>
    have hm0 : m = 0 := by
      rcases Nat.eq_zero_or_pos m with h0 | h0
      · exact h0
      · obtain ⟨ad, e⟩ := hs.addr h0; cases e
    obtain rfl := hbare rfl
    subst hm0
    refine ⟨v, w, run_append_owned_none (P := Try.prog) (w := w) base 28 ty 5 i0 1 Try.underlying28 hi v n _ h, ?_, (fun e => ⟨e, rfl⟩), ⟨rfl, rfl, rfl, Nat.le_refl _, fun _ _ _ => rfl⟩⟩
    unfold Own at h ⊢
    have := cells_behind f g n 0
    rw [Nat.add_zero] at this ⊢
    rw [← this]
    simpa [cellsOf] using h
  | some ad =>
    obtain ⟨v', w', h1, h2, h3, h4⟩ := run_append_own (P := Try.prog) w base 28 ty 5 i0 _ 1 1 Try.underlying28 hi hz0 hz1 hz2 rfl (by decide) v n _ h ad m c (cellsOf g m) (by rw [cellsOf_length, Nat.mul_one])
      (fun j u hj => by obtain ⟨hl, rfl⟩ := cellsOf_inv hj; exact hs.at_ hl) (cellsOf_one g m) (by unfold maxLen; omega) (by omega) hb
    refine ⟨v', w', h1, ?_, h4.1, h3⟩
    unfold Own
    rw [← cells_behind]
    exact h2

end Go.Proofs.Ytmgeifolgdgapaa

namespace Go.Proofs.Ytmgeifolgdgapaa
open Go.RowKit

theorem isSize_yes (k : Nat) (w : World) (h1 : 1 ≤ k) (h4 : k ≤ 4) :
    Calls Try.prog 55 #[.int .i64 (k : Int)] w fun e w' => e = .returned (.bool true) ∧ w = w' := by
  have d : decide ((k : Int) ≤ 4) = true := by simp; omega
  go_enter Try.func55, Try.ntmps55
  go_wp2
  go_ret
  exact ⟨rfl, rfl⟩

theorem isSize_no (s : Int) (w : World) (h : ¬ (1 ≤ s ∧ s ≤ 4)) :
    Calls Try.prog 55 #[.int .i64 s] w fun e w' => e = .returned (.bool false) ∧ w = w' := by
  by_cases h1 : 1 ≤ s
  · have h4 : ¬ s ≤ 4 := by omega
    go_enter Try.func55, Try.ntmps55
    go_wp2
    go_ret
    exact ⟨rfl, rfl⟩
  · go_enter Try.func55, Try.ntmps55
    go_wp2
    go_ret
    exact ⟨rfl, rfl⟩

theorem fits_any (n : Int) (k : Nat) (w : World) (h1 : 1 ≤ k) (h4 : k ≤ 4) :
    Calls Try.prog 56 #[.int .i64 n, .int .i64 (k : Int)] w fun e w' => e = .returned (.bool (decide (0 ≤ n ∧ n < ((256 ^ k : Nat) : Int)))) ∧ w = w' := by
  rcases (by omega : k = 1 ∨ k = 2 ∨ k = 3 ∨ k = 4) with rfl | rfl | rfl | rfl
  all_goals
    go_enter Try.func56, Try.ntmps56
    go_wp2
    all_goals
      go_ret
      refine ⟨congrArg (fun b => Ending.returned (.bool b)) (?_ : _ = _), rfl⟩
      rw [Bool.eq_iff_iff]
      simp
      omega

theorem or_byte {x z : Nat} (hx : x < 1099511627776) (hz : z < 256) : bits .or .i64 ((x : Int) * 256) (z : Int) = ((x * 256 + z : Nat) : Int) := by
  rw [bits_join .i64 62 (by decide) (fun n h0 h1 => by rw [IntKind.wrap_i64]; omega) 8 _ _ (by omega) (by omega) (by omega) (by omega) (by omega) (by omega)]
  omega

end Go.Proofs.Ytmgeifolgdgapaa

namespace Go.Proofs.Ytmgeifolgdgapaa
open Go.RowKit

/-- n numbers lie at A, number i is g i. -/
structure IntsAt (w : World) (A : Option Addr) (n : Nat) (g : Nat → Int) : Prop where
  wf : ∀ i, i < n → -9223372036854775808 ≤ g i ∧ g i ≤ 9223372036854775807
  cell : ∀ i, i < n → ∃ ad, A = some ad ∧ w.cell? (ad.add i) = some (.int .i64 (g i))

theorem IntsAt.at_ {w : World} {ad : Addr} {n : Nat} {g : Nat → Int} (h : IntsAt w (some ad) n g) {i : Nat} (hi : i < n) : w.cell? (ad.add i) = some (.int .i64 (g i)) := by
  obtain ⟨ad', e, hc⟩ := h.cell i hi
  obtain rfl := Option.some.inj e
  exact hc
theorem IntsAt.addr {w : World} {A : Option Addr} {n : Nat} {g : Nat → Int} (h : IntsAt w A n g) (hn : 0 < n) : ∃ ad, A = some ad := by
  obtain ⟨ad, e, _⟩ := h.cell 0 hn
  exact ⟨ad, e⟩
theorem IntsAt.below {w w' : World} {A : Option Addr} {n : Nat} {g : Nat → Int} (h : IntsAt w A n g) (hb : Below w.heap.size w w') : IntsAt w' A n g :=
  ⟨h.wf, fun i hi => by obtain ⟨ad, e, hc⟩ := h.cell i hi; exact ⟨ad, e, cell_later hb hc⟩⟩
theorem IntsAt.congr {w : World} {A : Option Addr} {n : Nat} {f g : Nat → Int} (h : IntsAt w A n f) (he : ∀ i, i < n → f i = g i) : IntsAt w A n g :=
  ⟨fun i hi => by rw [← he i hi]; exact h.wf i hi, fun i hi => by rw [← he i hi]; exact h.cell i hi⟩
theorem IntsAt.none_ (w : World) (g : Nat → Int) : IntsAt w none 0 g := ⟨fun i hi => absurd hi (by omega), fun i hi => absurd hi (by omega)⟩
/-- A slice of int that came in. -/
theorem ints_in {w : World} {A : Option Addr} {n c : Nat} {Z : List Int} (h : IntsIn w .i64 A n c Z) : IntsAt w A n (fun i => Z.getD i 0) := by
  refine ⟨fun i hi => ?_, fun i hi => ?_⟩
  · have hl : i < Z.length := by rw [h.len]; exact hi
    have hw := h.wf Z[i] (List.getElem_mem hl)
    rw [List.getD_eq_getElem?_getD, List.getElem?_eq_getElem hl]
    simpa [Lit.wf, IntKind.min, IntKind.max, IntKind.signed, IntKind.bits] using hw
  · obtain ⟨ad, rfl⟩ := h.addr (by omega)
    exact ⟨ad, rfl, h.cell ad rfl i hi⟩

/-- The first n values of g, as numbers. -/
def intsOf (g : Nat → Int) (n : Nat) : List Value := (List.range n).map fun i => Value.int .i64 (g i)
theorem intsOf_length (g : Nat → Int) (n : Nat) : (intsOf g n).length = n := by simp [intsOf]
theorem intsOf_at (g : Nat → Int) {n i : Nat} (h : i < n) : (intsOf g n)[i]? = some (.int .i64 (g i)) := by
  simp [intsOf, List.getElem?_range h]
theorem intsOf_inv {g : Nat → Int} {n i : Nat} {u : Value} (h : (intsOf g n)[i]? = some u) : i < n ∧ u = .int .i64 (g i) := by
  have hl : i < n := by
    have := (List.getElem?_eq_some_iff.1 h).1
    rwa [intsOf_length] at this
  rw [intsOf_at g hl] at h
  exact ⟨hl, (Option.some.inj h).symm⟩
theorem intsOf_one (g : Nat → Int) (n : Nat) (u : Value) (h : u ∈ intsOf g n) : u.oneCell' = true := by
  unfold intsOf at h
  rw [List.mem_map] at h
  obtain ⟨i, _, rfl⟩ := h
  rfl
theorem intsOf_congr {f g : Nat → Int} {n : Nat} (h : ∀ i, i < n → f i = g i) : intsOf f n = intsOf g n := by
  apply List.ext_getElem?
  intro i
  by_cases hi : i < n
  · rw [intsOf_at f hi, intsOf_at g hi, h i hi]
  · rw [List.getElem?_eq_none (by rw [intsOf_length]; omega), List.getElem?_eq_none (by rw [intsOf_length]; omega)]
theorem intsOf_next (g : Nat → Int) (n : Nat) : intsOf g n ++ [.int .i64 (g n)] = intsOf g (n + 1) := by
  unfold intsOf
  rw [List.range_succ, List.map_append]
  rfl
theorem intsOf_set (f g : Nat → Int) {n k : Nat} {z : Int} (hk : k < n) (hz : z = g k) (h : ∀ i, i ≠ k → f i = g i) :
    (intsOf f n).toArray.setIfInBounds k (.int .i64 z) = (intsOf g n).toArray := by
  apply Array.ext'
  rw [Array.toList_setIfInBounds]
  apply List.ext_getElem?
  intro i
  rw [List.getElem?_set]
  by_cases hi : i < n
  · by_cases he : k = i
    · subst he
      rw [if_pos rfl, if_pos (by simp [intsOf_length]; exact hk), hz]
      exact (intsOf_at g hk).symm
    · rw [if_neg he]
      show (intsOf f n)[i]? = (intsOf g n)[i]?
      rw [intsOf_at f hi, intsOf_at g hi, h i (Ne.symm he)]
  · rw [if_neg (by omega)]
    show (intsOf f n)[i]? = (intsOf g n)[i]?
    rw [List.getElem?_eq_none (by rw [intsOf_length]; omega), List.getElem?_eq_none (by rw [intsOf_length]; omega)]

/-- Block b holds these numbers, all of them, and may be written. -/
def IntsLie (w : World) (b : Nat) (g : Nat → Int) (n : Nat) : Prop := w.heap[b]? = some (.cells (intsOf g n).toArray 3 (0, 0))
theorem IntsLie.lt {w : World} {b n : Nat} {g : Nat → Int} (h : IntsLie w b g n) : b < w.heap.size := (Array.getElem?_eq_some_iff.1 h).1
theorem IntsLie.cell {w : World} {b n i : Nat} {g : Nat → Int} (h : IntsLie w b g n) (hi : i < n) : w.cell? ⟨b, i, none⟩ = some (.int .i64 (g i)) := by
  rw [cell_of_row w b i _ _ _ h, List.getElem?_toArray]
  exact intsOf_at g hi
theorem IntsLie.free {w : World} {b n : Nat} {g : Nat → Int} (h : IntsLie w b g n) (i : Nat) : w.frozen? ⟨b, i, none⟩ = false := by
  unfold IntsLie at h
  simp [World.frozen?, h]
theorem IntsLie.ints {w : World} {b n : Nat} {g : Nat → Int} (h : IntsLie w b g n) (hg : ∀ i, i < n → -9223372036854775808 ≤ g i ∧ g i ≤ 9223372036854775807) : IntsAt w (some ⟨b, 0, none⟩) n g :=
  ⟨hg, fun i hi => ⟨_, rfl, by rw [add_nil]; exact h.cell hi⟩⟩
theorem IntsLie.below {w w' : World} {b n B : Nat} {g : Nat → Int} (h : IntsLie w b g n) (hb : Below B w w') (hg : b < B) : IntsLie w' b g n := (hb.block b hg).trans h
theorem IntsLie.drewN {w : World} {b n : Nat} {g : Nat → Int} (h : IntsLie w b g n) (k : Nat) : IntsLie (w.drewN k) b g n := h
theorem IntsLie.congr {w : World} {b n : Nat} {f g : Nat → Int} (h : IntsLie w b f n) (he : ∀ i, i < n → f i = g i) : IntsLie w b g n := by
  unfold IntsLie at h ⊢
  rw [← intsOf_congr he]
  exact h
theorem IntsLie.set_ {w : World} {b n k : Nat} {f g : Nat → Int} {z : Int} (h : IntsLie w b f n) (hk : k < n) (hz : z = g k) (he : ∀ i, i ≠ k → f i = g i) :
    IntsLie (w.setCell ⟨b, k, none⟩ (.int .i64 z)) b g n := by
  unfold IntsLie at h ⊢
  rw [← intsOf_set f g hk hz he, setCell_eq_setRow w b k _ _ _ _ h]
  exact setRow_heap w b _ _ _ _ h

theorem int_info : (Try.prog.info? 3).map (fun i => (i.zero, i.size, i.bytes)) = some (some (.int .i64 0), 1, 8) := by kernel_rfl
theorem int_zeros (k : Nat) : (madeCells #[.int .i64 0] k) = (intsOf (fun _ => 0) k).toArray := by
  apply Array.ext'
  unfold madeCells intsOf
  simp only [Array.toList_map, Array.toList_range]
  apply List.map_congr_left
  intro i _
  simp [Nat.mod_one]
theorem make_ints (k : Nat) (hk : 8 * k ≤ 281474976710656) (u : World) :
    (Instr.makeSlice 98 (.int .i64 (k : Int)) (.int .i64 (k : Int))).run Try.prog u = .ok (.slice (some ⟨u.heap.size, 0, none⟩) k k) (u.alloc (.cells (intsOf (fun _ => 0) k).toArray 3)) := by
  obtain ⟨i0, hi, hz0, hz1, hz2⟩ := info_parts int_info
  have h := run_make (P := Try.prog) u 98 3 i0 (.int .i64 0) Try.underlying98 hi hz0 .i64 .i64 (k : Int) (k : Int) (by omega) (Int.le_refl _) (by rw [hz2]; omega) (by omega)
  rw [hz1, Int.toNat_natCast, Nat.mul_one] at h
  rw [h, ← int_zeros]
  rfl
theorem made_ints (w : World) (k : Nat) : IntsLie (w.alloc (.cells (intsOf (fun _ => 0) k).toArray 3)) w.heap.size (fun _ => 0) k := heap_alloc_new w _

/-- The value is a row of the call's own, of just these numbers. -/
def OwnI (w : World) (base : Nat) (v : Value) (n : Nat) (g : Nat → Int) : Prop := w.ownsRow base 3 1 v n (intsOf g n)
theorem OwnI.below {w w' w0 : World} {base n B : Nat} {v : Value} {g : Nat → Int} (h : OwnI w base v n g) (hb : Below B w0 w) (hB : B ≤ base) (hB2 : B ≤ w.heap.size) (hg : w.grownBy w' v.ownBlock) : Below B w0 w' :=
  hb.grown hg hB2 fun k hk => Nat.le_trans hB (h.lt k hk).1
theorem OwnI.alloc {w : World} {base n : Nat} {v : Value} {g : Nat → Int} (h : OwnI w base v n g) (o : Obj) : OwnI (w.alloc o) base v n g := World.ownsRow.alloc h o
theorem owni_new (w : World) (g : Nat → Int) : OwnI (w.alloc (.cells #[] 3)) w.heap.size (.slice (some ⟨w.heap.size, 0, none⟩) 0 0) 0 g :=
  World.ownsRow_lit w #[] 0 (Nat.le_refl _) (by decide) rfl

/-- The slice reads as n numbers g. -/
def ReadsI (w : World) (v : Value) (n : Nat) (g : Nat → Int) : Prop :=
  ∃ A c, v = .slice A n c ∧ n ≤ c ∧ c ≤ 9223372036854775807 ∧ (A = none → c = 0) ∧ IntsAt w A n g
theorem ReadsI.below {w w' : World} {v : Value} {n : Nat} {g : Nat → Int} (h : ReadsI w v n g) (hb : Below w.heap.size w w') : ReadsI w' v n g := by
  obtain ⟨A, c, e, h1, h2, h3, hs⟩ := h
  exact ⟨A, c, e, h1, h2, h3, hs.below hb⟩
theorem ReadsI.congr {w : World} {v : Value} {n : Nat} {f g : Nat → Int} (h : ReadsI w v n f) (he : ∀ i, i < n → f i = g i) : ReadsI w v n g := by
  obtain ⟨A, c, e, h1, h2, h3, hs⟩ := h
  exact ⟨A, c, e, h1, h2, h3, hs.congr he⟩
theorem readsI_none (w : World) (g : Nat → Int) : ReadsI w (.slice none 0 0) 0 g := ⟨none, 0, rfl, Nat.le_refl _, by omega, fun _ => rfl, IntsAt.none_ w g⟩
theorem readsI_in {w : World} {A : Option Addr} {n c : Nat} {Z : List Int} (h : IntsIn w .i64 A n c Z) : ReadsI w (.slice A n c) n (fun i => Z.getD i 0) := ⟨A, c, rfl, h.cap, h.most, fun e => (h.bare e).2, ints_in h⟩
theorem OwnI.reads {w : World} {base n : Nat} {v : Value} {g : Nat → Int} (h : OwnI w base v n g) (hg : ∀ i, i < n → -9223372036854775808 ≤ g i ∧ g i ≤ 9223372036854775807) : ReadsI w v n g := by
  have h0 := h
  rcases h.2 with ⟨rfl, rfl⟩ | ⟨b, cap, cur, rfl, _, hb, hnc, hm, _⟩
  · exact readsI_none w g
  · exact ⟨_, cap, rfl, hnc, by unfold maxLen at hm; omega, (by intro e; cases e), ⟨hg, fun i hi => ⟨_, rfl, World.ownsRow.cells h0 (g := b) rfl i _ (intsOf_at g hi)⟩⟩⟩
theorem int_new (w : World) (z : Int) (hz : -9223372036854775808 ≤ z ∧ z ≤ 9223372036854775807) : IntsAt (w.alloc (.cells #[.int .i64 z] 3)) (some ⟨w.heap.size, 0, none⟩) 1 (fun _ => z) :=
  ⟨fun _ _ => hz, fun i hi => ⟨_, rfl, by
    obtain rfl : i = 0 := by omega
    rw [add_nil, World.cell?_alloc_mark]; rfl⟩⟩

/-- One number behind them. -/
theorem run_int {w : World} {base n : Nat} {v : Value} {g : Nat → Int} {z : Int} (ty : TypeId) (h : OwnI w base v n g) (hz : z = g n) (hm : (n + 1) * 8 ≤ 140737488355328) (hb : base ≤ w.heap.size) :
    ∃ v' w', (Builtin.append_ #[98, 98] ty #[v, .slice (some ⟨w.heap.size, 0, none⟩) 1 1]).run Try.prog (w.alloc (.cells #[.int .i64 z] 3)) = .ok v' w' ∧ OwnI w' base v' (n + 1) g ∧
      v' ≠ .slice none 0 0 ∧ (w.alloc (.cells #[.int .i64 z] 3)).grownBy w' v.ownBlock := by
  obtain ⟨i0, hi, hz0, hz1, hz2⟩ := info_parts int_info
  obtain ⟨v', w', h1, h2, h3, h4⟩ := run_append_own (P := Try.prog) (w.alloc (.cells #[.int .i64 z] 3)) base 98 ty 3 i0 _ 1 8 Try.underlying98 hi hz0 hz1 hz2 rfl (by decide) v n _ (h.alloc _) ⟨w.heap.size, 0, none⟩ 1 1 [.int .i64 z] rfl
    (cell_one_new _ _ _) (fun u hu => by simp at hu; subst hu; rfl) (by unfold maxLen; omega) hm (by simp; omega)
  refine ⟨v', w', h1, ?_, fun e => by have := (h4.1 e).2; omega, h3⟩
  unfold OwnI
  rw [← intsOf_next, ← hz]
  exact h2

end Go.Proofs.Ytmgeifolgdgapaa

namespace Go.Proofs.Ytmgeifolgdgapaa
open Go.RowKit

theorem byte_shr {z k j y : Nat} (hy : y = dig z k j) : (z : Int) / 2 ^ (8 * (k - 1 - j)) % 256 = (y : Int) := by
  rw [hy]
  unfold dig
  rw [show (256 : Nat) = 2 ^ 8 from rfl, ← Nat.pow_mul]
  simp

/-- How join's loops stand: t bytes are laid. -/
def JoinLoop (G : Nat → Nat) (k t : Nat) (w : World) (v : Value) (wr : World) : Prop :=
  Own wr w.heap.size v t (rowB G k) ∧ Below w.heap.size w wr

theorem join_any (k : Nat) (A : Option Addr) (n c : Nat) (G : Nat → Nat) (w : World) (h1 : 1 ≤ k) (h4 : k ≤ 4) (hn : n ≤ 9223372036854775807) (hr : n * k ≤ 140737488355328) (hG : ∀ i, i < n → G i < 256 ^ k) (h : IntsAt w A n (fun i => (G i : Int))) :
    Calls Try.prog 57 #[.int .i64 (k : Int), .slice A n c] w fun e w' => ∃ v, e = .returned v ∧ Reads w' v (n * k) (rowB G k) ∧ Below w.heap.size w w' := by
  have H := Lib.hid h
  have HG := Lib.hid hG
  have HR := Lib.hid hr
  clear h hG hr
  go_enter Try.func57, Try.ntmps57
  go_wp2
  go_loopw [4, 10] (fun v x wr => ∃ i : Nat, i ≤ n ∧ x = .int .i64 (i : Int) ∧ JoinLoop G k (i * k) w v wr) (fun _ x _ => n - (intOf x).toNat)
  case atStart => exact ⟨0, by omega, rfl, by rw [Nat.zero_mul]; exact own_none _ _ _, Below.refl _ _⟩
  case round =>
    obtain ⟨i, hi, rfl, ho, hb⟩ := hrel
    have HO := Lib.hid ho
    have HB := Lib.hid hb
    clear ho hb
    by_cases hk : i < n
    · obtain ⟨ad, rfl⟩ := H.out.addr (by omega)
      have hc := cell_later HB.out (H.out.at_ hk)
      obtain ⟨z, ez⟩ : ∃ z, z = G i := ⟨_, rfl⟩
      have hz : z < 4294967296 := by
        have h2 := pow_le_four h4
        have h3 := HG.out i hk
        omega
      simp only [← ez] at hc
      have EZ := Lib.hid ez
      clear ez
      have HT : Hid (i * k + k ≤ 140737488355328) := Lib.hid (by
        have h5 : (i + 1) * k ≤ n * k := Nat.mul_le_mul_right k hk
        have h6 := HR.out
        rw [Nat.add_mul, Nat.one_mul] at h5
        omega)
      go_wp2
      clear hc
      go_loopw [4, 15] (fun v x wr => ∃ j : Nat, j ≤ k ∧ x = .int .i64 (j : Int) ∧ JoinLoop G k (i * k + j) w v wr) (fun _ x _ => k - (intOf x).toNat)
      case atStart => exact ⟨0, by omega, rfl, HO.out, HB.out⟩
      case round =>
        clear HO HB
        obtain ⟨j, hj, rfl, ho, hb⟩ := hrel
        have HO := Lib.hid ho
        have HB := Lib.hid hb
        clear ho hb
        by_cases hjk : j < k
        · obtain ⟨y, ey⟩ : ∃ y, y = dig z k j := ⟨_, rfl⟩
          have hs := byte_shr ey
          have hy : y < 256 := by rw [ey]; exact dig_lt _ _ _
          have EY : Hid (y = rowB G k (i * k + j)) := Lib.hid (by rw [ey, EZ.out, rowB_at hjk])
          clear ey
          have hbx : Below w.heap.size w (wr.alloc (.cells #[.int .u8 (y : Int)] 5)) := HB.out.alloc HB.out.size _
          obtain ⟨v2, w2, r2, o2, _, g2⟩ := run_bytes (c := 1) 28 (HO.out.alloc (.cells #[.int .u8 (y : Int)] 5)) (one_new wr hy) (by intro e; cases e) (by have := HT.out; omega) hbx.size
          have hb2 : Below w.heap.size w w2 := (HO.out.alloc (.cells #[.int .u8 (y : Int)] 5)).grown_below hbx (Nat.le_refl _) hbx.size g2
          have o3 : Own w2 w.heap.size v2 (i * k + (j + 1)) (rowB G k) := Own.congr (n := i * k + j + 1) o2 fun t ht => by
            by_cases h5 : t < i * k + j
            · rw [behind_low h5]
            · obtain rfl : t = i * k + j := by omega
              rw [behind_high (Nat.le_refl _), EY.out]
          have R2 := Lib.hid r2
          have O3 := Lib.hid o3
          have B2 := Lib.hid hb2
          clear r2 o2 o3 hb2 g2 hbx
          go_wp2_with (at_builtin; refine Lib.wpList_append_run _ rfl (.tmp 18) (.tmp 27) _ _ rfl _ _ rfl rfl _ _ R2.out ?_)
          clear hs
          go_roundw
          case rel => exact ⟨j + 1, by omega, by go_num, O3.out, B2.out⟩
          case measure => simp [intOf]; omega
        · obtain rfl : j = k := by omega
          go_wp2
          go_roundw
          case rel => exact ⟨i + 1, by omega, by go_num, by rw [Nat.add_mul, Nat.one_mul]; exact HO.out, HB.out⟩
          case measure => simp [intOf]; omega
    · obtain rfl : i = n := by omega
      go_wp2
      go_ret
      exact ⟨_, rfl, HO.out.reads (fun t _ => rowB_lt _ _ _), HB.out⟩

/-- The answer: a slice that reads as n bytes f, and no error. -/
def Bears (n : Nat) (f : Nat → Nat) (w : World) (e : Ending) (w' : World) : Prop :=
  ∃ v, e = .returned (.tuple #[v, .int .i64 0]) ∧ Reads w' v n f ∧ Below w.heap.size w w'

/-- How Row's loop stands. -/
theorem row_ok (k : Nat) (A : Option Addr) (n c : Nat) (G : Nat → Nat) (w : World) (h1 : 1 ≤ k) (h4 : k ≤ 4) (hn : n ≤ 9223372036854775807) (hr : n * k ≤ 140737488355328) (hG : ∀ i, i < n → G i < 256 ^ k) (h : IntsAt w A n (fun i => (G i : Int))) :
    Calls Try.prog 46 #[.int .i64 (k : Int), .slice A n c] w (Bears (n * k) (rowB G k) w) := by
  have H := Lib.hid h
  have HG := Lib.hid hG
  have HR := Lib.hid hr
  clear h hG hr
  go_enter Try.func46, Try.ntmps46
  go_wp2_with fail
  with_reducible refine (isSize_yes k _ h1 h4).mono ?_
  rintro e w' ⟨rfl, rfl⟩
  go_wp2
  go_loop [13] (fun x => ∃ i : Nat, i ≤ n ∧ x = .int .i64 (i : Int)) (fun x => n - (intOf x).toNat)
  case atStart => exact ⟨0, by omega, rfl⟩
  case round =>
    obtain ⟨i, hi, rfl⟩ := hrel
    by_cases hk : i < n
    · obtain ⟨ad, rfl⟩ := H.out.addr (by omega)
      have hc := H.out.at_ hk
      obtain ⟨z, ez⟩ : ∃ z, z = G i := ⟨_, rfl⟩
      have hz : decide ((0 : Int) ≤ (z : Int) ∧ (z : Int) < ((256 ^ k : Nat) : Int)) = true := by
        have h3 := HG.out i hk
        rw [decide_eq_true_eq]
        rw [ez]
        omega
      simp only [← ez] at hc
      have EZ := Lib.hid ez
      have HZ := Lib.hid hz
      clear ez hz
      go_wp2_with fail
      with_reducible refine (fits_any (z : Int) k _ h1 h4).mono ?_
      rintro e w' ⟨rfl, rfl⟩
      rw [HZ.out]
      go_wp2
      clear hc
      go_round
      case rel => exact ⟨i + 1, by omega, by go_num⟩
      case measure => simp [intOf]; omega
    · obtain rfl : i = n := by omega
      go_wp2_with fail
      with_reducible refine (join_any k A i c G _ h1 h4 hn HR.out HG.out H.out).mono ?_
      rintro e w' ⟨v, rfl, hv, hb⟩
      have HV := Lib.hid hv
      have HB := Lib.hid hb
      clear hv hb
      go_wp2
      go_ret2
      exact ⟨v, rfl, HV.out, HB.out⟩

theorem row_range (k : Nat) (A : Option Addr) (n c : Nat) (g : Nat → Int) (w : World) (h1 : 1 ≤ k) (h4 : k ≤ 4) (hn : n ≤ 9223372036854775807) (h : IntsAt w A n g)
    (m : Nat) (hm : m < n) (hlow : ∀ i, i < m → 0 ≤ g i ∧ g i < ((256 ^ k : Nat) : Int)) (hbad : ¬ (0 ≤ g m ∧ g m < ((256 ^ k : Nat) : Int))) :
    Calls Try.prog 46 #[.int .i64 (k : Int), .slice A n c] w fun e w' => e = .returned (.tuple #[.slice none 0 0, .int .i64 5]) ∧ w = w' := by
  have H := Lib.hid h
  have HL := Lib.hid hlow
  have HD := Lib.hid hbad
  clear h hlow hbad
  go_enter Try.func46, Try.ntmps46
  go_wp2_with fail
  with_reducible refine (isSize_yes k _ h1 h4).mono ?_
  rintro e w' ⟨rfl, rfl⟩
  go_wp2
  go_loop [13] (fun x => ∃ i : Nat, i ≤ m ∧ x = .int .i64 (i : Int)) (fun x => n - (intOf x).toNat)
  case atStart => exact ⟨0, by omega, rfl⟩
  case round =>
    obtain ⟨i, hi, rfl⟩ := hrel
    have hk : i < n := by omega
    obtain ⟨ad, rfl⟩ := H.out.addr (by omega)
    have hc := H.out.at_ hk
    obtain ⟨z, ez⟩ : ∃ z, z = g i := ⟨_, rfl⟩
    rw [← ez] at hc
    by_cases him : i < m
    · have HZ : Hid (decide ((0 : Int) ≤ z ∧ z < ((256 ^ k : Nat) : Int)) = true) := Lib.hid (by rw [decide_eq_true_eq, ez]; exact HL.out i him)
      clear ez
      go_wp2_with fail
      with_reducible refine (fits_any z k _ h1 h4).mono ?_
      rintro e w' ⟨rfl, rfl⟩
      rw [HZ.out]
      go_wp2
      clear hc
      go_round
      case rel => exact ⟨i + 1, by omega, by go_num⟩
      case measure => simp [intOf]; omega
    · obtain rfl : i = m := by omega
      have HZ : Hid (decide ((0 : Int) ≤ z ∧ z < ((256 ^ k : Nat) : Int)) = false) := Lib.hid (by rw [decide_eq_false_iff_not, ez]; exact HD.out)
      clear ez
      go_wp2_with fail
      with_reducible refine (fits_any z k _ h1 h4).mono ?_
      rintro e w' ⟨rfl, rfl⟩
      rw [HZ.out]
      go_wp2
      go_ret2
      exact ⟨rfl, rfl⟩

theorem row_arg (s : Int) (v : Value) (w : World) (h : ¬ (1 ≤ s ∧ s ≤ 4)) :
    Calls Try.prog 46 #[.int .i64 s, v] w fun e w' => e = .returned (.tuple #[.slice none 0 0, .int .i64 1]) ∧ w = w' := by
  go_enter Try.func46, Try.ntmps46
  go_wp2_with fail
  with_reducible refine (isSize_no s _ h).mono ?_
  rintro e w' ⟨rfl, rfl⟩
  go_wp2
  go_ret2
  exact ⟨rfl, rfl⟩

end Go.Proofs.Ytmgeifolgdgapaa

namespace Go.Proofs.Ytmgeifolgdgapaa
open Go.RowKit

theorem join_own (k : Nat) (A : Option Addr) (n c : Nat) (G : Nat → Nat) (w : World) (h1 : 1 ≤ k) (h4 : k ≤ 4) (hn : n ≤ 9223372036854775807) (hr : n * k ≤ 140737488355328) (hG : ∀ i, i < n → G i < 256 ^ k) (h : IntsAt w A n (fun i => (G i : Int))) :
    Calls Try.prog 57 #[.int .i64 (k : Int), .slice A n c] w fun e w' => ∃ v, e = .returned v ∧ Own w' w.heap.size v (n * k) (rowB G k) ∧ Below w.heap.size w w' := by
  have H := Lib.hid h
  have HG := Lib.hid hG
  have HR := Lib.hid hr
  clear h hG hr
  go_enter Try.func57, Try.ntmps57
  go_wp2
  go_loopw [4, 10] (fun v x wr => ∃ i : Nat, i ≤ n ∧ x = .int .i64 (i : Int) ∧ JoinLoop G k (i * k) w v wr) (fun _ x _ => n - (intOf x).toNat)
  case atStart => exact ⟨0, by omega, rfl, by rw [Nat.zero_mul]; exact own_none _ _ _, Below.refl _ _⟩
  case round =>
    obtain ⟨i, hi, rfl, ho, hb⟩ := hrel
    have HO := Lib.hid ho
    have HB := Lib.hid hb
    clear ho hb
    by_cases hk : i < n
    · obtain ⟨ad, rfl⟩ := H.out.addr (by omega)
      have hc := cell_later HB.out (H.out.at_ hk)
      obtain ⟨z, ez⟩ : ∃ z, z = G i := ⟨_, rfl⟩
      have hz : z < 4294967296 := by
        have h2 := pow_le_four h4
        have h3 := HG.out i hk
        omega
      simp only [← ez] at hc
      have EZ := Lib.hid ez
      clear ez
      have HT : Hid (i * k + k ≤ 140737488355328) := Lib.hid (by
        have h5 : (i + 1) * k ≤ n * k := Nat.mul_le_mul_right k hk
        have h6 := HR.out
        rw [Nat.add_mul, Nat.one_mul] at h5
        omega)
      go_wp2
      clear hc
      go_loopw [4, 15] (fun v x wr => ∃ j : Nat, j ≤ k ∧ x = .int .i64 (j : Int) ∧ JoinLoop G k (i * k + j) w v wr) (fun _ x _ => k - (intOf x).toNat)
      case atStart => exact ⟨0, by omega, rfl, HO.out, HB.out⟩
      case round =>
        clear HO HB
        obtain ⟨j, hj, rfl, ho, hb⟩ := hrel
        have HO := Lib.hid ho
        have HB := Lib.hid hb
        clear ho hb
        by_cases hjk : j < k
        · obtain ⟨y, ey⟩ : ∃ y, y = dig z k j := ⟨_, rfl⟩
          have hs := byte_shr ey
          have hy : y < 256 := by rw [ey]; exact dig_lt _ _ _
          have EY : Hid (y = rowB G k (i * k + j)) := Lib.hid (by rw [ey, EZ.out, rowB_at hjk])
          clear ey
          have hbx : Below w.heap.size w (wr.alloc (.cells #[.int .u8 (y : Int)] 5)) := HB.out.alloc HB.out.size _
          obtain ⟨v2, w2, r2, o2, _, g2⟩ := run_bytes (c := 1) 28 (HO.out.alloc (.cells #[.int .u8 (y : Int)] 5)) (one_new wr hy) (by intro e; cases e) (by have := HT.out; omega) hbx.size
          have hb2 : Below w.heap.size w w2 := (HO.out.alloc (.cells #[.int .u8 (y : Int)] 5)).grown_below hbx (Nat.le_refl _) hbx.size g2
          have o3 : Own w2 w.heap.size v2 (i * k + (j + 1)) (rowB G k) := Own.congr (n := i * k + j + 1) o2 fun t ht => by
            by_cases h5 : t < i * k + j
            · rw [behind_low h5]
            · obtain rfl : t = i * k + j := by omega
              rw [behind_high (Nat.le_refl _), EY.out]
          have R2 := Lib.hid r2
          have O3 := Lib.hid o3
          have B2 := Lib.hid hb2
          clear r2 o2 o3 hb2 g2 hbx
          go_wp2_with (at_builtin; refine Lib.wpList_append_run _ rfl (.tmp 18) (.tmp 27) _ _ rfl _ _ rfl rfl _ _ R2.out ?_)
          clear hs
          go_roundw
          case rel => exact ⟨j + 1, by omega, by go_num, O3.out, B2.out⟩
          case measure => simp [intOf]; omega
        · obtain rfl : j = k := by omega
          go_wp2
          go_roundw
          case rel => exact ⟨i + 1, by omega, by go_num, by rw [Nat.add_mul, Nat.one_mul]; exact HO.out, HB.out⟩
          case measure => simp [intOf]; omega
    · obtain rfl : i = n := by omega
      go_wp2
      go_ret
      exact ⟨_, rfl, HO.out, HB.out⟩

/-- The answer: a row of the call's own, n bytes f, and no error. -/
def Owns (n : Nat) (f : Nat → Nat) (w : World) (e : Ending) (w' : World) : Prop :=
  ∃ v, e = .returned (.tuple #[v, .int .i64 0]) ∧ Own w' w.heap.size v n f ∧ Below w.heap.size w w'

/-- How Row's loop stands. -/
theorem row_own (k : Nat) (A : Option Addr) (n c : Nat) (G : Nat → Nat) (w : World) (h1 : 1 ≤ k) (h4 : k ≤ 4) (hn : n ≤ 9223372036854775807) (hr : n * k ≤ 140737488355328) (hG : ∀ i, i < n → G i < 256 ^ k) (h : IntsAt w A n (fun i => (G i : Int))) :
    Calls Try.prog 46 #[.int .i64 (k : Int), .slice A n c] w (Owns (n * k) (rowB G k) w) := by
  have H := Lib.hid h
  have HG := Lib.hid hG
  have HR := Lib.hid hr
  clear h hG hr
  go_enter Try.func46, Try.ntmps46
  go_wp2_with fail
  with_reducible refine (isSize_yes k _ h1 h4).mono ?_
  rintro e w' ⟨rfl, rfl⟩
  go_wp2
  go_loop [13] (fun x => ∃ i : Nat, i ≤ n ∧ x = .int .i64 (i : Int)) (fun x => n - (intOf x).toNat)
  case atStart => exact ⟨0, by omega, rfl⟩
  case round =>
    obtain ⟨i, hi, rfl⟩ := hrel
    by_cases hk : i < n
    · obtain ⟨ad, rfl⟩ := H.out.addr (by omega)
      have hc := H.out.at_ hk
      obtain ⟨z, ez⟩ : ∃ z, z = G i := ⟨_, rfl⟩
      have hz : decide ((0 : Int) ≤ (z : Int) ∧ (z : Int) < ((256 ^ k : Nat) : Int)) = true := by
        have h3 := HG.out i hk
        rw [decide_eq_true_eq]
        rw [ez]
        omega
      simp only [← ez] at hc
      have EZ := Lib.hid ez
      have HZ := Lib.hid hz
      clear ez hz
      go_wp2_with fail
      with_reducible refine (fits_any (z : Int) k _ h1 h4).mono ?_
      rintro e w' ⟨rfl, rfl⟩
      rw [HZ.out]
      go_wp2
      clear hc
      go_round
      case rel => exact ⟨i + 1, by omega, by go_num⟩
      case measure => simp [intOf]; omega
    · obtain rfl : i = n := by omega
      go_wp2_with fail
      with_reducible refine (join_own k A i c G _ h1 h4 hn HR.out HG.out H.out).mono ?_
      rintro e w' ⟨v, rfl, hv, hb⟩
      have HV := Lib.hid hv
      have HB := Lib.hid hb
      clear hv hb
      go_wp2
      go_ret2
      exact ⟨v, rfl, HV.out, HB.out⟩

end Go.Proofs.Ytmgeifolgdgapaa

namespace Go.Proofs.Ytmgeifolgdgapaa
open Go.RowKit

/-- Two byte rows: the same? -/
theorem equal_any (v u : Value) (n m : Nat) (f g : Nat → Nat) (w : World) (hv : Reads w v n f) (hu : Reads w u m g) :
    Calls Try.prog 34 #[v, u] w fun e w' => ∃ b, e = .returned (.bool b) ∧ (b = true ↔ n = m ∧ ∀ i, i < n → f i = g i) ∧ w = w' := by
  have c1 := hv.conv
  have c2 := hu.conv
  have hlen : ∀ (h : Nat → Nat) (k : Nat), (str h k).toList.length = k := fun h k => by rw [str_list]; simp
  have hb : (((str f n).toList == (str g m).toList) = true ↔ n = m ∧ ∀ i, i < n → f i = g i) := by
    constructor
    · intro h
      have he : (str f n).toList = (str g m).toList := by simpa using h
      have hl : n = m := by rw [← hlen f n, ← hlen g m, he]
      subst hl
      obtain ⟨_, _, rfl, _, _, _, p⟩ := hv
      obtain ⟨_, _, rfl, _, _, _, q⟩ := hu
      exact ⟨rfl, str_inj p.small q.small h⟩
    · rintro ⟨rfl, h⟩
      exact str_same h
  obtain ⟨X, eX⟩ : ∃ X, X = str f n := ⟨_, rfl⟩
  obtain ⟨Y, eY⟩ : ∃ Y, Y = str g m := ⟨_, rfl⟩
  rw [← eX] at c1 hb
  rw [← eY] at c2 hb
  obtain ⟨b, eb⟩ : ∃ b, b = (X.toList == Y.toList) := ⟨_, rfl⟩
  rw [← eb] at hb
  have ebr := eb.symm
  have HB := Lib.hid hb
  obtain ⟨A, c, rfl, _, _, _, _⟩ := hv
  obtain ⟨B, d, rfl, _, _, _, _⟩ := hu
  clear eX eY hb eb hlen
  go_enter Try.func34, Try.ntmps34
  go_wp2
  go_ret
  exact ⟨_, rfl, HB.out, rfl⟩

theorem Reads.first {w : World} {A : Option Addr} {n c m : Nat} {f : Nat → Nat} (h : Reads w (.slice A n c) n f) (hm : m ≤ n) : Reads w (.slice A m c) m f := by
  obtain ⟨A', c', e, h1, h2, h3, hs⟩ := h
  cases e
  exact ⟨A, c, rfl, by omega, h2, h3, hs.first hm⟩
end Go.Proofs.Ytmgeifolgdgapaa

namespace Go.Proofs.Ytmgeifolgdgapaa
open Go.RowKit

theorem zero_size (k : Nat) : (Builtin.zeroCells (Value.int .u8 0).cells k).size = k := by
  unfold Builtin.zeroCells
  simp [Value.cells]

/-- What append(nil, make([]byte, k)...) leaves, cut to nothing. -/
theorem grow_run (k : Nat) (w : World) (h0 : 0 < k) (hk : k ≤ 140737488355328) :
    ∃ cap w', (Builtin.append_ #[28, 3] 28 #[.slice none 0 0, .int .i64 (k : Int)]).run Try.prog w = .ok (.slice (some ⟨w.heap.size, 0, none⟩) k cap) w' ∧ k ≤ cap ∧ cap ≤ 9223372036854775807 ∧
      (∀ f, Own w' w.heap.size (.slice (some ⟨w.heap.size, 0, none⟩) 0 cap) 0 f) ∧ Below w.heap.size w w' := by
  obtain ⟨i0, hi, hz0, hz1, hz2⟩ := info_parts byte_info
  have hr := Lib.run_append_nil_zeros (P := Try.prog) w 28 3 28 5 i0 (.int .u8 0) .i64 .i64 Try.underlying28 Try.underlying3 hi hz0 k h0 (by omega) (by omega) (by rw [hz2]; omega)
  have hge := grownCap_ge w k 0 5
  have hle := grownCap_le_maxLen w k 0 5 (by unfold maxLen; omega)
  refine ⟨_, _, hr, hge, by unfold maxLen at hle; omega, fun f => ⟨rfl, .inr ⟨w.heap.size, _, _, rfl, Nat.le_refl _, heap_alloc_new w.drew _, Nat.zero_le _, hle, ?_, by simp [cellsOf]⟩⟩, (Below.refl _ _).drew.alloc (Nat.le_refl _) _⟩
  rw [Array.size_append, zero_size, zero_size]
  omega

end Go.Proofs.Ytmgeifolgdgapaa

namespace Go.Proofs.Ytmgeifolgdgapaa
open Go.RowKit

theorem BytesAt.from_ {w : World} {ad : Addr} {n t k : Nat} {f : Nat → Nat} (h : BytesAt w (some ad) n f) (ht : t + k ≤ n) : BytesAt w (some (ad.add t)) k (fun j => f (t + j)) :=
  ⟨fun i hi => h.small _ (by omega), fun i hi => ⟨_, rfl, by rw [Addr.add_add]; exact h.at_ (by omega)⟩⟩

/-- The answer: a slice that reads as n numbers g, and no error. -/
def BearsI (n : Nat) (g : Nat → Int) (w : World) (e : Ending) (w' : World) : Prop :=
  ∃ v, e = .returned (.tuple #[v, .int .i64 0]) ∧ ReadsI w' v n g ∧ Below w.heap.size w w'

/-- Unrow's numbers as far as the first i. -/
def upTo (f : Nat → Nat) (k i : Nat) (j : Nat) : Int := if j < i then (rowN f k j : Int) else 0
def UnrowLoop (f : Nat → Nat) (k q : Nat) (w : World) (x : Value) (wr : World) : Prop :=
  ∃ i : Nat, i ≤ q ∧ x = .int .i64 (i : Int) ∧ IntsLie wr w.heap.size (upTo f k i) q ∧ Below w.heap.size w wr
theorem rowN_small {f : Nat → Nat} {k n i : Nat} (h4 : k ≤ 4) (hf : ∀ i, i < n → f i < 256) (hi : i * k + k ≤ n) : rowN f k i < 4294967296 := by
  have h1 := rowN_lt (f := f) (k := k) (i := i) fun j hj => hf _ (by omega)
  have h2 := pow_le_four h4
  omega

end Go.Proofs.Ytmgeifolgdgapaa

