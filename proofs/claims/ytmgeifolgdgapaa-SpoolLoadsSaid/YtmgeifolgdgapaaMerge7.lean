/- Get; Flush. Flush; New; Crash. What Put asks of its writes ahead of the first one. -/
import Derived.Test.YtmgeifolgdgapaaDvLast
import Derived.Deep.WholeRow
namespace Go.Proofs.Ytmgeifolgdgapaa
open Go.RowKit

theorem there_new (w : World) (Z : Array Value) (T : TypeId) (n : Nat) (hz : Z.size = n) : (w.alloc (.cells Z T)).there w.heap.size 0 n := fun j hj => by
  have hg : (w.alloc (.cells Z T)).heap[w.heap.size]? = some (.cells Z T) := heap_alloc_new w _
  refine ⟨?_, ?_⟩
  · rw [cell_of_row _ _ _ _ _ _ hg, Nat.zero_add, Array.getElem?_eq_getElem (by omega)]; rfl
  · exact frozen_of_row _ _ _ _ _ hg
theorem row_literal (w : World) (Z : Array Value) (T : TypeId) (C : Nat → Value) (n : Nat) (hz : Z = ((List.range n).map C).toArray) : RowIs (w.alloc (.cells Z T)) w.heap.size T C n := by
  unfold RowIs
  rw [heap_alloc_new, hz]

/-- A sector was read. -/
def Got (f : Nat → Nat) (w : World) (e : Ending) (w' : World) : Prop :=
  ∃ k, e = .returned (.tuple #[.slice (some ⟨k, 0, none⟩) 64 64, .int .i64 0]) ∧ RowIs w' k 57 (fun i => .int .u8 (f i : Int)) 64 ∧ w.heap.size ≤ k ∧ Below w.heap.size w w'

set_option maxRecDepth 100000 in
theorem dev_get_down {w : World} {base g h : Nat} {L : Value} {D : Dev} (d : IsDev w base g h L D) (z : Int) (ho : D.off = true) :
    Calls Try.prog 9 #[.pointer (some ⟨g, 0, none⟩), .int .i64 z] w fun e w' => e = .returned (.tuple #[.slice none 0 0, .int .i64 10]) ∧ w = w' := by
  obtain ⟨c0, c1, c2, c3, c4, cf⟩ := d.cells
  rw [ho] at c2
  clear c0 c1 c3 c4 cf
  go_enter Try.func9, Try.ntmps9
  go_wp2
  go_ret2
  exact ⟨rfl, rfl⟩

set_option maxRecDepth 100000 in
theorem dev_get_range {w : World} {base g h : Nat} {L : Value} {D : Dev} (d : IsDev w base g h L D) (z : Int) (ho : D.off = false) (hr : hasB D z = false) :
    Calls Try.prog 9 #[.pointer (some ⟨g, 0, none⟩), .int .i64 z] w fun e w' => e = .returned (.tuple #[.slice none 0 0, .int .i64 5]) ∧ w = w' := by
  obtain ⟨c0, c1, c2, c3, c4, cf⟩ := d.cells
  rw [ho] at c2
  have HD := Lib.hid d
  have HR := Lib.hid hr
  clear c0 c1 c3 c4 cf d hr
  go_enter Try.func9, Try.ntmps9
  go_wp2_with fail
  refine (has_any HD.out z).mono ?_
  rintro e w' ⟨rfl, rfl⟩
  rw [HR.out]
  go_wp2
  go_ret2
  exact ⟨rfl, rfl⟩

set_option maxRecDepth 100000 in
theorem sector_zero : (Try.prog.info? 57).map (fun i => (i.zero, i.size)) = some (some (.agg (cellsOf (fun _ => 0) 64).toArray), 64) := by kernel_rfl
set_option maxRecDepth 100000 in
theorem zero_sector (w : World) : (zeroValue 57).run Try.prog w = .ok (.agg (cellsOf (fun _ => 0) 64).toArray) w := (zero_of_info sector_zero).1 w

set_option maxRecDepth 100000 in
theorem dev_get_ok {w : World} {base g h : Nat} {L : Value} {D : Dev} (d : IsDev w base g h L D) {t : Nat} (ho : D.off = false) (ht : t < D.size) :
    Calls Try.prog 9 #[.pointer (some ⟨g, 0, none⟩), .int .i64 (t : Int)] w (Got (D.view t) w) := by
  obtain ⟨c0, c1, c2, c3, c4, cf⟩ := d.cells
  rw [ho] at c2
  have HD := Lib.hid d
  have HR : Hid (hasB D t = true) := Lib.hid (by unfold hasB; simp; omega)
  clear c0 c1 c3 c4 cf d
  go_enter Try.func9, Try.ntmps9
  go_wp2_with fail
  refine (has_any HD.out t).mono ?_
  rintro e w' ⟨rfl, rfl⟩
  rw [HR.out]
  go_wp2_with fail
  refine (dev_last_any HD.out ht).mono ?_
  rintro e w1 ⟨rfl, hb⟩
  have HB := Lib.hid hb
  clear hb
  go_wp2_with (first
    | (refine wpList_store_mid rfl 57 (.tmp 6) (.tmp 19) ?_ w1.heap.size 0 (cellsOf (D.view t) 64).toArray ?_ ?_ ?_ (sector_len' _) (sector_one _) ?_
       · rfl
       · rfl
       · rfl
       · exact sector_there _ (there_new _ _ _ _ (by kernel_rfl))))
  go_ret2
  refine ⟨w1.heap.size, rfl, stored_sector (row_literal w1 _ 57 (fun _ => .int .u8 0) 64 (by kernel_rfl)) (D.view t), HB.out.size, ?_⟩
  exact (HB.out.alloc HB.out.size _).trans ((apart_setCells _ _ _ _).below (by have := HB.out.size; simp; omega) fun i hi e => by have := HB.out.size; omega)

/-- Those of the first i writes that p names. -/
def keptTo (l : List Wr) (p : Nat → Bool) : Nat → List Wr
  | 0 => []
  | i + 1 => keptTo l p i ++ (if p i then (l[i]?).toList else [])
theorem keptTo_yes {l : List Wr} {p : Nat → Bool} {i : Nat} (hi : i < l.length) (hp : p i = true) : keptTo l p (i + 1) = keptTo l p i ++ [l[i]] := by
  simp [keptTo, hp, hi]
theorem keptTo_no {l : List Wr} {p : Nat → Bool} {i : Nat} (hp : p i = false) : keptTo l p (i + 1) = keptTo l p i := by
  simp [keptTo, hp]
theorem keptTo_all (l : List Wr) : ∀ i, i ≤ l.length → keptTo l (fun _ => true) i = l.take i
  | 0, _ => by simp [keptTo]
  | i + 1, h => by rw [keptTo_yes (by omega) rfl, keptTo_all l i (by omega), List.take_succ_eq_append_getElem (by omega)]

/-- Behind a write that lasts. -/
theorem IsDev.settled {w : World} {base g h : Nat} {L : Value} {D : Dev} (d : IsDev w base g h L D) {x : Wr} (h2 : ∀ j, j < 64 → x.data j < 256) :
    IsDev (w.setCells h (x.at_ * 64) (cellsOf x.data 64)) base g h L { D with sure := lay D.sure x } := by
  have a := apart_setCells h (cellsOf x.data 64) (x.at_ * 64) w
  refine ⟨(a.block g (Array.getElem?_eq_some_iff.1 d.head).1 d.ne).trans d.head, ?_, ?_, d.bg, d.bh, d.ne, d.ng, d.nh, d.size, ?_, d.loose, d.left⟩
  · refine (d.body.sets (cellsOf x.data 64) (x.at_ * 64)).congr fun i hi => ?_
    show over (dcell D.sure) _ _ i = dcell (lay D.sure x) i
    unfold over dcell lay
    rw [cellsOf_length]
    by_cases hc : x.at_ * 64 ≤ i ∧ i < x.at_ * 64 + 64
    · rw [if_pos hc, List.getD_eq_getElem?_getD, cellsOf_at x.data (by omega), if_pos (by omega)]
      show Value.int .u8 _ = _
      rw [show i % 64 = i - x.at_ * 64 by omega]
    · rw [if_neg hc, if_neg (by omega)]
  · refine ⟨d.own.1, ?_⟩
    rcases d.own.2 with h5 | ⟨k, cap, cur, e, hb0, hg, rest⟩
    · exact .inl h5
    · exact .inr ⟨k, cap, cur, e, hb0, (a.block k (Array.getElem?_eq_some_iff.1 hg).1 (fun e5 => d.nh (by rw [e, ← e5]; rfl))).trans hg, rest⟩
  · intro i hi j hj
    show lay D.sure x i j < 256
    unfold lay
    by_cases hc : i = x.at_
    · rw [if_pos hc]; exact h2 j hj
    · rw [if_neg hc]; exact d.sure i hi j hj

/-- Behind the last line: none is loose any more. -/
theorem IsDev.emptied {w : World} {base g h : Nat} {L : Value} {D : Dev} (d : IsDev w base g h L D) : IsDev (w.setCell ⟨g, 1, none⟩ (.slice none 0 0)) base g h (.slice none 0 0) { D with loose := [] } :=
  ⟨by rw [heap_setCell_same w g 1 _ _ _ d.head]; rfl, d.body.apart (apart_set w g 1 _) (Ne.symm d.ne), World.ownsRow_nil _ _ _ _, d.bg, d.bh, d.ne, (by intro e; cases e), (by intro e; cases e), d.size, d.sure, (by intro x hx; cases hx), d.left⟩

/-- No write. -/
def noWr : Wr := ⟨0, fun _ => 0⟩
set_option maxRecDepth 100000 in
theorem write_zero : (Try.prog.info? 59).map (fun i => (i.zero, i.size)) = some (some (.agg (wcells noWr).toArray), 65) := by kernel_rfl
set_option maxRecDepth 100000 in
theorem write_size : (Try.prog.info? 59).map (·.size) = some 65 := (zero_of_info write_zero).2
set_option maxRecDepth 100000 in
theorem zero_write (w : World) : (zeroValue 59).run Try.prog w = .ok (.agg (wcells noWr).toArray) w := (zero_of_info write_zero).1 w
set_option maxRecDepth 100000 in
theorem write_len (x : Wr) : (Try.prog.info? 59).map (·.size) = some (wcells x).length := by rw [wcells_length]; exact write_size
set_option maxRecDepth 100000 in
theorem write_len' (x : Wr) : (Try.prog.info? 59).map (·.size) = some (wcells x).toArray.size := by simp only [List.size_toArray, wcells_length]; exact write_size
theorem wcells_one (x : Wr) (v : Value) (h : v ∈ wcells x) : v.oneCell' = true := by
  rcases List.mem_cons.1 h with rfl | h
  · rfl
  · exact cellsOf_one _ _ v h
theorem write_one (x : Wr) : (wcells x).toArray.all (·.oneCell') = true := all_oneCell_toArray (wcells_one x)
theorem write_there {w : World} {b o : Nat} (x : Wr) (h : w.there b o 65) : w.there b o (wcells x).toArray.size := by simpa [wcells_length] using h

/-- How far the writes have been made to last. -/
def Settling (w : World) (base g h : Nat) (L : Value) (D : Dev) (p : Nat → Bool) (v : Value) (wr : World) : Prop :=
  ∃ i, i ≤ D.loose.length ∧ v = .int .i64 (i : Int) ∧ IsDev wr base g h L { D with sure := lays D.sure (keptTo D.loose p i) } ∧ Apart (fun k => k = h) w wr

/-- The device behind a settling. -/
def Dev.settle (D : Dev) (p : Nat → Bool) : Dev := { D with sure := lays D.sure (keptTo D.loose p D.loose.length), loose := [] }
def Settled (w : World) (base g h : Nat) (D : Dev) (p : Nat → Bool) (e : Ending) (w' : World) : Prop :=
  e = .returned (.tuple #[]) ∧ IsDev w' base g h (.slice none 0 0) (D.settle p) ∧ Apart (fun k => k = g ∨ k = h) w w'

theorem boxed_write {w : World} {x : Wr} {w2 : World} (h : (w.alloc (.cells (wcells noWr).toArray 59)).setCells w.heap.size 0 (wcells x) = w2) :
    Below w.heap.size w w2 ∧ w2.cell? ⟨w.heap.size, 0, none⟩ = some (.int .i64 (x.at_ : Int)) ∧ w2.rangeAt w.heap.size 1 (cellsOf x.data 64) ∧ w2.heap.size = w.heap.size + 1 := by
  have ht := there_new w (wcells noWr).toArray 59 65 (by rw [List.size_toArray, wcells_length])
  have hr := World.rangeAt_setCells_same (w.alloc (.cells (wcells noWr).toArray 59)) w.heap.size 0 (wcells x) (by rw [wcells_length]; exact ht)
  have ha := apart_setCells w.heap.size (wcells x) 0 (w.alloc (.cells (wcells noWr).toArray 59))
  rw [h] at hr ha
  refine ⟨((Below.refl _ w).alloc (Nat.le_refl _) _).trans (ha.below (by simp) fun i hi e => by omega), ?_, fun j v hv => ?_, ?_⟩
  · have := hr 0 (.int .i64 (x.at_ : Int)) rfl
    simpa using this
  · have := hr (j + 1) v (by simpa [wcells] using hv)
    rwa [show 0 + (j + 1) = 1 + j by omega] at this
  · rw [← h]
    exact (setCells_size _ _ _ _).trans (by simp)

theorem held_behind {w : World} {g h b n m o x : Nat} {v : Value} {cs vs : List Value} (c0 : w.cell? ⟨g, 0, none⟩ = some v) (hp : w.cell? ⟨b, 0, none⟩ = some (.int .i64 (x : Int))) (hr : w.rangeAt b n cs) (ht : w.there h o m) (h1 : g ≠ h) (h2 : b ≠ h) :
    (w.drew.setCells h o vs).cell? ⟨g, 0, none⟩ = some v ∧ (w.drew.setCells h o vs).cell? ⟨b, 0, none⟩ = some (.int .i64 (x : Int)) ∧ (w.drew.setCells h o vs).rangeAt b n cs ∧ (w.drew.setCells h o vs).there h o m :=
  ⟨by rw [World.cell?_setCells_out h vs o _ _ (fun e _ => absurd e h1)]; exact c0, by rw [World.cell?_setCells_out h vs o _ _ (fun e _ => absurd e h2)]; exact hp, World.rangeAt_setCells_apart (w := w.drew) hr h o vs (.inl h2), World.there_setCells (w := w.drew) ht h o vs⟩

end Go.Proofs.Ytmgeifolgdgapaa

namespace Go.Proofs.Ytmgeifolgdgapaa
open Go.RowKit

/-- What Flush answers: the device behind it, or none the wiser. -/
def Flushed (w : World) (base g h : Nat) (L : Value) (D : Dev) (e : Ending) (w' : World) : Prop :=
  Apart (fun k => k = g ∨ k = h) w w' ∧
    ((D.power.1 = true ∧ e = .returned (.int .i64 0) ∧ IsDev w' base g h (.slice none 0 0) (D.power.2.settle (fun _ => true))) ∨
      (D.power.1 = false ∧ e = .returned (.int .i64 10) ∧ IsDev w' base g h L D.power.2))

/-- A device of n sectors of bytes 0. -/
def fresh (n : Nat) : Dev := ⟨n, fun _ _ => 0, [], false, false, 0⟩
def Born (n : Nat) (w : World) (e : Ending) (w' : World) : Prop :=
  ∃ g h, e = .returned (.tuple #[.pointer (some ⟨g, 0, none⟩), .int .i64 0]) ∧ IsDev w' w.heap.size g h (.slice none 0 0) (fresh n) ∧ Below w.heap.size w w'

set_option maxRecDepth 100000 in
theorem sector_three : (Try.prog.info? 57).map (fun i => (i.zero, i.size, i.bytes)) = some (some (.agg (cellsOf (fun _ => 0) 64).toArray), 64, 64) := by kernel_rfl
set_option maxRecDepth 100000 in
theorem make_sectors (n : Nat) (hn : n ≤ 424) (u : World) :
    ∃ w', (Instr.makeSlice 45 (.int .i64 (n : Int)) (.int .i64 (n : Int))).run Try.prog u = .ok (.slice (some ⟨u.heap.size, 0, none⟩) n n) w' ∧ RowIs w' u.heap.size 57 (dcell fun _ _ => 0) (n * 64) ∧ Below u.heap.size u w' ∧ w'.heap.size = u.heap.size + 1 := by
  obtain ⟨i0, hi, hz0, hz1, hz2⟩ := info_parts sector_three
  have h := run_make (P := Try.prog) u 45 57 i0 _ Try.underlying45 hi hz0 .i64 .i64 (n : Int) (n : Int) (by omega) (Int.le_refl _) (by rw [hz2]; omega) (by omega)
  rw [hz1, Int.toNat_natCast] at h
  refine ⟨_, h, ?_, (Below.refl _ _).alloc (Nat.le_refl _) _, by simp⟩
  unfold RowIs
  rw [heap_alloc_new]
  congr 2
  apply Array.ext'
  unfold madeCells
  simp only [Array.toList_map, Array.toList_range]
  apply List.map_congr_left
  intro i _
  have hz : (cellsOf (fun _ => 0) 64).toArray.size = 64 := by simp [cellsOf_length]
  show (cellsOf (fun _ => 0) 64).toArray[i % (cellsOf (fun _ => 0) 64).toArray.size]! = .int .u8 0
  rw [hz]
  have hi : i % 64 < 64 := by omega
  have h5 := cellsOf_at (fun _ => 0) hi
  have h6 : (cellsOf (fun _ => 0) 64).toArray[i % 64]? = some (.int .u8 0) := by rw [List.getElem?_toArray]; exact h5
  show (cellsOf (fun _ => 0) 64).toArray[i % 64]! = .int .u8 0
  rw [Array.getElem!_eq_getD, Array.getD_eq_getD_getElem?, h6]
  rfl

set_option maxRecDepth 100000 in
theorem new_arg (z : Int) (w : World) (h : ¬ (1 ≤ z ∧ z ≤ 424)) :
    Calls Try.prog 5 #[.int .i64 z] w fun e w' => e = .returned (.tuple #[.pointer none, .int .i64 1]) ∧ w = w' := by
  by_cases h1 : z < 1
  · go_enter Try.func5, Try.ntmps5
    go_wp2
    go_ret2
    exact ⟨rfl, rfl⟩
  · have h2 : 424 < z := by omega
    have d1 : decide (z < 1) = false := by simpa using h1
    clear h
    go_enter Try.func5, Try.ntmps5
    go_wp2
    go_ret2
    exact ⟨rfl, rfl⟩

set_option maxRecDepth 100000 in
theorem dev_new_ok (n : Nat) (w : World) (h1 : 1 ≤ n) (h2 : n ≤ 424) :
    Calls Try.prog 5 #[.int .i64 (n : Int)] w (Born n w) := by
  obtain ⟨w1, hmk, hr, hb, hs⟩ := make_sectors n h2 w
  have HR := Lib.hid hr
  have HB := Lib.hid hb
  have HS := Lib.hid hs
  have d1 : ¬ (n : Int) < 1 := by omega
  have d2 : ¬ (424 : Int) < (n : Int) := by omega
  clear hr hb hs
  go_enter Try.func5, Try.ntmps5
  go_wp2
  go_ret2
  refine ⟨w1.heap.size, w.heap.size, rfl, ?_, HB.out.alloc HB.out.size _⟩
  have hne : w1.heap.size ≠ w.heap.size := by have := HS.out; omega
  exact ⟨heap_alloc_new _ _, HR.out.below ((Below.refl _ _).alloc (Nat.le_refl _) _), World.ownsRow_nil _ _ _ _, HB.out.size, Nat.le_refl _, hne, (by intro e; cases e), (by intro e; cases e), ⟨h1, h2⟩, (fun _ _ _ _ => by show (0 : Nat) < 256; omega), (fun x hx => by cases hx), by show (_ : Int) ≤ 0; omega, by show (0 : Int) ≤ _; omega, fun h => by cases h⟩

/-- Does the list name write t? -/
def named (Z : List Int) (i t : Nat) : Bool := decide ((t : Int) ∈ Z.take i)
theorem named_next {Z : List Int} {i t : Nat} (hi : i < Z.length) : named Z (i + 1) t = (named Z i t || decide ((t : Int) = Z[i])) := by
  unfold named
  rw [List.take_succ_eq_append_getElem hi]
  rw [Bool.eq_iff_iff]
  simp only [List.mem_append, List.mem_singleton, decide_eq_true_eq, Bool.or_eq_true]

set_option maxRecDepth 100000 in
theorem dbool_info : (Try.prog.info? 4).map (fun i => (i.zero, i.size, i.bytes)) = some (some (.bool false), 1, 1) := by kernel_rfl
/-- The device behind a crash that spares those writes that the list names. -/
def Dev.crash (D : Dev) (Z : List Int) : Dev := { D.settle (fun t => named Z Z.length t) with off := false, limited := false, left := 0 }
def Crashed (w : World) (base g h : Nat) (D : Dev) (Z : List Int) (e : Ending) (w' : World) : Prop :=
  e = .returned (.tuple #[]) ∧ IsDev w' base g h (.slice none 0 0) (D.crash Z) ∧ Apart (fun k => k = g ∨ k = h) w w'

def Marking (w w1 : World) (m : Nat) (Z : List Int) (v : Value) (wr : World) : Prop :=
  ∃ i, i ≤ Z.length ∧ v = .int .i64 (i : Int) ∧ RowIs wr w.heap.size 4 (fun t => .bool (named Z i t)) m ∧ Below w.heap.size w wr ∧ Apart (fun k => k = w.heap.size) w1 wr

theorem RowIs.marks {w : World} {g n : Nat} {T : TypeId} {p : Nat → Bool} (h : RowIs w g T (fun t => .bool (p t)) n) : MarksAt w (some ⟨g, 0, none⟩) n p :=
  fun i hi => ⟨_, rfl, by rw [add_nil]; exact h.cell hi⟩

end Go.Proofs.Ytmgeifolgdgapaa

namespace Go.Proofs.Ytmgeifolgdgapaa
open Go.RowKit

/-- Writes that came in: write i is at z i, its bytes are the slice v i, which reads as l i bytes f i. -/
structure WritesIn (w : World) (A : Option Addr) (n : Nat) (z : Nat → Int) (v : Nat → Value) (l : Nat → Nat) (f : Nat → Nat → Nat) : Prop where
  cell : ∀ i, i < n → ∃ ad, A = some ad ∧ w.cell? (ad.add (i * 2)) = some (.int .i64 (z i)) ∧ w.cell? (ad.add (i * 2 + 1)) = some (v i)
  data : ∀ i, i < n → Reads w (v i) (l i) (f i)
  range : ∀ i, i < n → -9223372036854775808 ≤ z i ∧ z i ≤ 9223372036854775807

theorem WritesIn.below {w w' : World} {A : Option Addr} {n : Nat} {z : Nat → Int} {v : Nat → Value} {l : Nat → Nat} {f : Nat → Nat → Nat} (h : WritesIn w A n z v l f) (b : Below w.heap.size w w') : WritesIn w' A n z v l f where
  cell := fun i hi => by
    obtain ⟨ad, e, h1, h2⟩ := h.cell i hi
    exact ⟨ad, e, cell_later b h1, cell_later b h2⟩
  data := fun i hi => (h.data i hi).below b
  range := h.range

/-- Has one of n the mark? -/
def anyB (n : Nat) (p : Nat → Bool) : Bool := decide (∃ i, i < n ∧ p i = true)
theorem anyB_yes {n : Nat} {p : Nat → Bool} {i : Nat} (hi : i < n) (hp : p i = true) : anyB n p = true := decide_eq_true ⟨i, hi, hp⟩
theorem anyB_no {n : Nat} {p : Nat → Bool} (h : ∀ i, i < n → p i = false) : anyB n p = false := decide_eq_false (by rintro ⟨i, hi, hp⟩; rw [h i hi] at hp; cases hp)

set_option maxRecDepth 100000 in
theorem short_any (z : Int) (A : Option Addr) (l c : Nat) (w : World) :
    Calls Try.prog 16 #[.agg #[.int .i64 z, .slice A l c]] w fun e w' => e = .returned (.bool (decide (l ≠ 64))) ∧ Below w.heap.size w w' := by
  by_cases hl : l = 64
  · subst hl
    go_enter Try.func16, Try.ntmps16
    go_wp2
    go_ret
    exact ⟨rfl, (Below.refl _ _).alloc (Nat.le_refl _) _⟩
  · have e : ((l : Int) != 64) = true := by simp; omega
    have e2 : decide (l ≠ 64) = true := by simpa using hl
    rw [e2]
    clear e2
    go_enter Try.func16, Try.ntmps16
    go_wp2
    go_ret
    exact ⟨rfl, (Below.refl _ _).alloc (Nat.le_refl _) _⟩

set_option maxRecDepth 100000 in
theorem beyond_any {w : World} {base g h q : Nat} {L : Value} {D : Dev} (d : IsDev w base g h L D) (hq : w.cell? ⟨q, 0, none⟩ = some (.pointer (some ⟨g, 0, none⟩))) (z : Int) (v : Value) :
    Calls Try.prog 17 #[.agg #[.int .i64 z, v], .pointer (some ⟨q, 0, none⟩)] w fun e w' => e = .returned (.bool (!hasB D z)) ∧ Below w.heap.size w w' := by
  have HD := Lib.hid d
  have hqw := World.block_lt_of_cell? w _ hq
  obtain ⟨b, hb⟩ : ∃ b, b = hasB D z := ⟨_, rfl⟩
  have HB := Lib.hid hb
  rw [← hb]
  clear d hb
  go_enter Try.func17, Try.ntmps17
  go_wp2_with fail
  refine (has_any (HD.out.below ((Below.refl _ _).alloc (Nat.le_refl _) _)) z).mono ?_
  rintro e w' ⟨rfl, rfl⟩
  rw [← HB.out]
  go_wp2
  go_ret
  exact ⟨rfl, (Below.refl _ _).alloc (Nat.le_refl _) _⟩

/-- Is the write's sector not of 64 bytes? Is its place none of the device's? -/
def shortB (l : Nat → Nat) (i : Nat) : Bool := decide (l i ≠ 64)
def beyondB (D : Dev) (z : Nat → Int) (i : Nat) : Bool := !hasB D (z i)

/-- What IndexFunc answers. -/
def Indexed (n : Nat) (p : Nat → Bool) (w : World) (e : Ending) (w' : World) : Prop := ∃ i : Int, e = .returned (.int .i64 i) ∧ decide (0 ≤ i) = anyB n p ∧ Below w.heap.size w w'

set_option maxRecDepth 100000 in
theorem index_short {w : World} {A : Option Addr} {n c : Nat} {z : Nat → Int} {v : Nat → Value} {l : Nat → Nat} {f : Nat → Nat → Nat} (s : WritesIn w A n z v l f) (hn : n ≤ 9223372036854775807) :
    Calls Try.prog 31 #[.slice A n c, .func (.func 16) #[] #[]] w (Indexed n (shortB l) w) := by
  have HS := Lib.hid s
  clear s
  go_enter Try.func31, Try.ntmps31
  go_wp2
  go_loopw [8] (fun x wr => ∃ i : Nat, i ≤ n ∧ x = .int .i64 (i : Int) ∧ (∀ j, j < i → (shortB l) j = false) ∧ Below w.heap.size w wr) (fun x _ => n - (intOf x).toNat)
  case atStart => exact ⟨0, Nat.zero_le _, rfl, fun j hj => absurd hj (by omega), Below.refl _ _⟩
  case round =>
    obtain ⟨i, hi, rfl, hno, hb⟩ := hrel
    have B1 := Lib.hid hb
    have HN := Lib.hid hno
    clear hb hno
    by_cases h0 : i < n
    · have S1 := HS.out.below B1.out
      obtain ⟨ad, rfl, c0, c1⟩ := S1.cell i h0
      obtain ⟨Av, cv, hv, -⟩ := S1.data i h0
      have HV := Lib.hid hv
      clear S1 hv
      rw [HV.out, ← Addr.add_add] at c1
      replace c1 : wr.cell? ⟨(ad.add (i * 2)).block, (ad.add (i * 2)).off + 1, none⟩ = some (.slice Av (l i) cv) := c1
      go_wp2_with fail
      refine (short_any _ _ _ _ _).mono ?_
      rintro e w2 ⟨rfl, hb⟩
      have B2 := Lib.hid (B1.out.trans (hb.mono B1.out.size))
      clear hb c0 c1
      by_cases hp : (shortB l) i = true
      · have HP := Lib.hid hp
        rw [show decide (l i ≠ 64) = true from hp]
        clear hp
        go_wp2
        go_ret
        exact ⟨_, rfl, by rw [anyB_yes h0 HP.out]; simp, B2.out⟩
      · have hp' : (shortB l) i = false := by simpa using hp
        have HP := Lib.hid hp'
        rw [show decide (l i ≠ 64) = false from hp']
        clear hp hp'
        go_wp2
        go_roundw
        case rel => exact ⟨i + 1, by omega, by go_num, fun j hj => by
          rcases Nat.lt_or_ge j i with h5 | h5
          · exact HN.out j h5
          · obtain rfl : j = i := by omega
            exact HP.out, B2.out⟩
        case measure => simp [intOf]; omega
    · obtain rfl : i = n := by omega
      go_wp2
      go_ret
      exact ⟨_, rfl, by rw [anyB_no HN.out]; simp, B1.out⟩

set_option maxRecDepth 100000 in
theorem contains_short {w : World} {A : Option Addr} {n c : Nat} {z : Nat → Int} {v : Nat → Value} {l : Nat → Nat} {f : Nat → Nat → Nat} (s : WritesIn w A n z v l f) (hn : n ≤ 9223372036854775807) :
    Calls Try.prog 15 #[.slice A n c, .func (.func 16) #[] #[]] w (Fresh (.bool (anyB n (shortB l))) w) := by
  have HS := Lib.hid s
  clear s
  go_enter Try.func15, Try.ntmps15
  go_wp2_with fail
  refine (index_short (c := c) HS.out hn ).mono ?_
  rintro e w2 ⟨i, rfl, hi, hb⟩
  have HI := Lib.hid hi
  have B2 := Lib.hid hb
  clear hi hb
  go_wp2
  go_ret
  exact ⟨by rw [HI.out]; rfl, B2.out⟩

set_option maxRecDepth 100000 in
theorem index_beyond {w : World} {A : Option Addr} {n c : Nat} {z : Nat → Int} {v : Nat → Value} {l : Nat → Nat} {f : Nat → Nat → Nat} (s : WritesIn w A n z v l f) (hn : n ≤ 9223372036854775807) {base g h q : Nat} {L : Value} {D : Dev} (d : IsDev w base g h L D) (hq : w.cell? ⟨q, 0, none⟩ = some (.pointer (some ⟨g, 0, none⟩))) :
    Calls Try.prog 31 #[.slice A n c, .func (.func 17) #[] #[.pointer (some ⟨q, 0, none⟩)]] w (Indexed n (beyondB D z) w) := by
  have HS := Lib.hid s
  have HD := Lib.hid d
  have HQ := Lib.hid hq
  clear s d hq
  go_enter Try.func31, Try.ntmps31
  go_wp2
  go_loopw [8] (fun x wr => ∃ i : Nat, i ≤ n ∧ x = .int .i64 (i : Int) ∧ (∀ j, j < i → (beyondB D z) j = false) ∧ Below w.heap.size w wr) (fun x _ => n - (intOf x).toNat)
  case atStart => exact ⟨0, Nat.zero_le _, rfl, fun j hj => absurd hj (by omega), Below.refl _ _⟩
  case round =>
    obtain ⟨i, hi, rfl, hno, hb⟩ := hrel
    have B1 := Lib.hid hb
    have HN := Lib.hid hno
    clear hb hno
    by_cases h0 : i < n
    · have S1 := HS.out.below B1.out
      obtain ⟨ad, rfl, c0, c1⟩ := S1.cell i h0
      obtain ⟨Av, cv, hv, -⟩ := S1.data i h0
      have HV := Lib.hid hv
      clear S1 hv
      rw [HV.out, ← Addr.add_add] at c1
      replace c1 : wr.cell? ⟨(ad.add (i * 2)).block, (ad.add (i * 2)).off + 1, none⟩ = some (.slice Av (l i) cv) := c1
      go_wp2_with fail
      refine (beyond_any (HD.out.below B1.out) (cell_later B1.out HQ.out) _ _).mono ?_
      rintro e w2 ⟨rfl, hb⟩
      have B2 := Lib.hid (B1.out.trans (hb.mono B1.out.size))
      clear hb c0 c1
      by_cases hp : (beyondB D z) i = true
      · have HP := Lib.hid hp
        rw [show (!hasB D (z i)) = true from hp]
        clear hp
        go_wp2
        go_ret
        exact ⟨_, rfl, by rw [anyB_yes h0 HP.out]; simp, B2.out⟩
      · have hp' : (beyondB D z) i = false := by simpa using hp
        have HP := Lib.hid hp'
        rw [show (!hasB D (z i)) = false from hp']
        clear hp hp'
        go_wp2
        go_roundw
        case rel => exact ⟨i + 1, by omega, by go_num, fun j hj => by
          rcases Nat.lt_or_ge j i with h5 | h5
          · exact HN.out j h5
          · obtain rfl : j = i := by omega
            exact HP.out, B2.out⟩
        case measure => simp [intOf]; omega
    · obtain rfl : i = n := by omega
      go_wp2
      go_ret
      exact ⟨_, rfl, by rw [anyB_no HN.out]; simp, B1.out⟩

set_option maxRecDepth 100000 in
theorem contains_beyond {w : World} {A : Option Addr} {n c : Nat} {z : Nat → Int} {v : Nat → Value} {l : Nat → Nat} {f : Nat → Nat → Nat} (s : WritesIn w A n z v l f) (hn : n ≤ 9223372036854775807) {base g h q : Nat} {L : Value} {D : Dev} (d : IsDev w base g h L D) (hq : w.cell? ⟨q, 0, none⟩ = some (.pointer (some ⟨g, 0, none⟩))) :
    Calls Try.prog 15 #[.slice A n c, .func (.func 17) #[] #[.pointer (some ⟨q, 0, none⟩)]] w (Fresh (.bool (anyB n (beyondB D z))) w) := by
  have HS := Lib.hid s
  have HD := Lib.hid d
  have HQ := Lib.hid hq
  clear s d hq
  go_enter Try.func15, Try.ntmps15
  go_wp2_with fail
  refine (index_beyond (c := c) HS.out hn HD.out HQ.out).mono ?_
  rintro e w2 ⟨i, rfl, hi, hb⟩
  have HI := Lib.hid hi
  have B2 := Lib.hid hb
  clear hi hb
  go_wp2
  go_ret
  exact ⟨by rw [HI.out]; rfl, B2.out⟩

end Go.Proofs.Ytmgeifolgdgapaa

