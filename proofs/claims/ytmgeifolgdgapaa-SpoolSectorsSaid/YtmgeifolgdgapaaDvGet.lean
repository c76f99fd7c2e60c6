
/- Get; Flush. -/
import Derived.Test.YtmgeifolgdgapaaDvLast
import Derived.Deep.WholeRow
namespace Go.Proofs.Ytmgeifolgdgapaa
open Go.RowKit

theorem there_new (w : World) (Z : Array Value) (T : TypeId) (n : Nat) (hz : Z.size = n) : (w.alloc (.cells Z T)).there w.heap.size 0 n := fun j hj => by
  have hg : (w.alloc (.cells Z T)).heap[w.heap.size]? = some (.cells Z T) := heap_alloc_new w _
  refine ⟨?_, ?_⟩
  · rw [cell_of_row _ _ _ _ _ _ hg, Nat.zero_add, Array.getElem?_eq_getElem (by omega)]; rfl
  · exact frozen_of_row _ _ _ _ _ hg
theorem row_literal (w : World) (Z : Array Value) (T : TypeId) (C : Nat → Value) (n : Nat) (hz : Z = ((List.range n).map C).toArray) : RowIs (w.alloc (.cells Z T)) w.heap.size T C n := by
  unfold RowIs
  rw [heap_alloc_new, hz]

/-- A sector was read. -/
def Got (f : Nat → Nat) (w : World) (e : Ending) (w' : World) : Prop :=
  ∃ k, e = .returned (.tuple #[.slice (some ⟨k, 0, none⟩) 64 64, .int .i64 0]) ∧ RowIs w' k 57 (fun i => .int .u8 (f i : Int)) 64 ∧ w.heap.size ≤ k ∧ Below w.heap.size w w'

set_option maxRecDepth 100000 in
theorem dev_get_down {w : World} {base g h : Nat} {L : Value} {D : Dev} (d : IsDev w base g h L D) (z : Int) (ho : D.off = true) :
    Calls Try.prog 9 #[.pointer (some ⟨g, 0, none⟩), .int .i64 z] w fun e w' => e = .returned (.tuple #[.slice none 0 0, .int .i64 10]) ∧ w = w' := by
  obtain ⟨c0, c1, c2, c3, c4, cf⟩ := d.cells
  rw [ho] at c2
  clear c0 c1 c3 c4 cf
  go_enter Try.func9, Try.ntmps9
  go_wp2
  go_ret2
  exact ⟨rfl, rfl⟩

set_option maxRecDepth 100000 in
theorem dev_get_range {w : World} {base g h : Nat} {L : Value} {D : Dev} (d : IsDev w base g h L D) (z : Int) (ho : D.off = false) (hr : hasB D z = false) :
    Calls Try.prog 9 #[.pointer (some ⟨g, 0, none⟩), .int .i64 z] w fun e w' => e = .returned (.tuple #[.slice none 0 0, .int .i64 5]) ∧ w = w' := by
  obtain ⟨c0, c1, c2, c3, c4, cf⟩ := d.cells
  rw [ho] at c2
  have HD := Lib.hid d
  have HR := Lib.hid hr
  clear c0 c1 c3 c4 cf d hr
  go_enter Try.func9, Try.ntmps9
  go_wp2_with fail
  refine (has_any HD.out z).mono ?_
  rintro e w' ⟨rfl, rfl⟩
  rw [HR.out]
  go_wp2
  go_ret2
  exact ⟨rfl, rfl⟩

set_option maxRecDepth 100000 in
theorem sector_zero : (Try.prog.info? 57).map (fun i => (i.zero, i.size)) = some (some (.agg (cellsOf (fun _ => 0) 64).toArray), 64) := by kernel_rfl
set_option maxRecDepth 100000 in
theorem zero_sector (w : World) : (zeroValue 57).run Try.prog w = .ok (.agg (cellsOf (fun _ => 0) 64).toArray) w := (zero_of_info sector_zero).1 w

set_option maxRecDepth 100000 in
theorem dev_get_ok {w : World} {base g h : Nat} {L : Value} {D : Dev} (d : IsDev w base g h L D) {t : Nat} (ho : D.off = false) (ht : t < D.size) :
    Calls Try.prog 9 #[.pointer (some ⟨g, 0, none⟩), .int .i64 (t : Int)] w (Got (D.view t) w) := by
  obtain ⟨c0, c1, c2, c3, c4, cf⟩ := d.cells
  rw [ho] at c2
  have HD := Lib.hid d
  have HR : Hid (hasB D t = true) := Lib.hid (by unfold hasB; simp; omega)
  clear c0 c1 c3 c4 cf d
  go_enter Try.func9, Try.ntmps9
  go_wp2_with fail
  refine (has_any HD.out t).mono ?_
  rintro e w' ⟨rfl, rfl⟩
  rw [HR.out]
  go_wp2_with fail
  refine (dev_last_any HD.out ht).mono ?_
  rintro e w1 ⟨rfl, hb⟩
  have HB := Lib.hid hb
  clear hb
  go_wp2_with (first
    | (refine wpList_store_mid rfl 57 (.tmp 6) (.tmp 19) ?_ w1.heap.size 0 (cellsOf (D.view t) 64).toArray ?_ ?_ ?_ (sector_len' _) (sector_one _) ?_
       · rfl
       · rfl
       · rfl
       · exact sector_there _ (there_new _ _ _ _ (by kernel_rfl))))
  go_ret2
  refine ⟨w1.heap.size, rfl, stored_sector (row_literal w1 _ 57 (fun _ => .int .u8 0) 64 (by kernel_rfl)) (D.view t), HB.out.size, ?_⟩
  exact (HB.out.alloc HB.out.size _).trans ((apart_setCells _ _ _ _).below (by have := HB.out.size; simp; omega) fun i hi e => by have := HB.out.size; omega)

/-- Those of the first i writes that p names. -/
def keptTo (l : List Wr) (p : Nat → Bool) : Nat → List Wr
  | 0 => []
  | i + 1 => keptTo l p i ++ (if p i then (l[i]?).toList else [])
theorem keptTo_yes {l : List Wr} {p : Nat → Bool} {i : Nat} (hi : i < l.length) (hp : p i = true) : keptTo l p (i + 1) = keptTo l p i ++ [l[i]] := by
  simp [keptTo, hp, hi]
theorem keptTo_no {l : List Wr} {p : Nat → Bool} {i : Nat} (hp : p i = false) : keptTo l p (i + 1) = keptTo l p i := by
  simp [keptTo, hp]
theorem keptTo_all (l : List Wr) : ∀ i, i ≤ l.length → keptTo l (fun _ => true) i = l.take i
  | 0, _ => by simp [keptTo]
  | i + 1, h => by rw [keptTo_yes (by omega) rfl, keptTo_all l i (by omega), List.take_succ_eq_append_getElem (by omega)]

/-- Behind a write that lasts. -/
theorem IsDev.settled {w : World} {base g h : Nat} {L : Value} {D : Dev} (d : IsDev w base g h L D) {x : Wr} (h2 : ∀ j, j < 64 → x.data j < 256) :
    IsDev (w.setCells h (x.at_ * 64) (cellsOf x.data 64)) base g h L { D with sure := lay D.sure x } := by
  have a := apart_setCells h (cellsOf x.data 64) (x.at_ * 64) w
  refine ⟨(a.block g (Array.getElem?_eq_some_iff.1 d.head).1 d.ne).trans d.head, ?_, ?_, d.bg, d.bh, d.ne, d.ng, d.nh, d.size, ?_, d.loose, d.left⟩
  · refine (d.body.sets (cellsOf x.data 64) (x.at_ * 64)).congr fun i hi => ?_
    show over (dcell D.sure) _ _ i = dcell (lay D.sure x) i
    unfold over dcell lay
    rw [cellsOf_length]
    by_cases hc : x.at_ * 64 ≤ i ∧ i < x.at_ * 64 + 64
    · rw [if_pos hc, List.getD_eq_getElem?_getD, cellsOf_at x.data (by omega), if_pos (by omega)]
      show Value.int .u8 _ = _
      rw [show i % 64 = i - x.at_ * 64 by omega]
    · rw [if_neg hc, if_neg (by omega)]
  · refine ⟨d.own.1, ?_⟩
    rcases d.own.2 with h5 | ⟨k, cap, cur, e, hb0, hg, rest⟩
    · exact .inl h5
    · exact .inr ⟨k, cap, cur, e, hb0, (a.block k (Array.getElem?_eq_some_iff.1 hg).1 (fun e5 => d.nh (by rw [e, ← e5]; rfl))).trans hg, rest⟩
  · intro i hi j hj
    show lay D.sure x i j < 256
    unfold lay
    by_cases hc : i = x.at_
    · rw [if_pos hc]; exact h2 j hj
    · rw [if_neg hc]; exact d.sure i hi j hj

/-- Behind the last line: none is loose any more. -/
theorem IsDev.emptied {w : World} {base g h : Nat} {L : Value} {D : Dev} (d : IsDev w base g h L D) : IsDev (w.setCell ⟨g, 1, none⟩ (.slice none 0 0)) base g h (.slice none 0 0) { D with loose := [] } :=
  ⟨by rw [heap_setCell_same w g 1 _ _ _ d.head]; rfl, d.body.apart (apart_set w g 1 _) (Ne.symm d.ne), World.ownsRow_nil _ _ _ _, d.bg, d.bh, d.ne, (by intro e; cases e), (by intro e; cases e), d.size, d.sure, (by intro x hx; cases hx), d.left⟩

/-- No write. -/
def noWr : Wr := ⟨0, fun _ => 0⟩
set_option maxRecDepth 100000 in
theorem write_zero : (Try.prog.info? 59).map (fun i => (i.zero, i.size)) = some (some (.agg (wcells noWr).toArray), 65) := by kernel_rfl
set_option maxRecDepth 100000 in
theorem write_size : (Try.prog.info? 59).map (·.size) = some 65 := (zero_of_info write_zero).2
set_option maxRecDepth 100000 in
theorem zero_write (w : World) : (zeroValue 59).run Try.prog w = .ok (.agg (wcells noWr).toArray) w := (zero_of_info write_zero).1 w
set_option maxRecDepth 100000 in
theorem write_len (x : Wr) : (Try.prog.info? 59).map (·.size) = some (wcells x).length := by rw [wcells_length]; exact write_size
set_option maxRecDepth 100000 in
theorem write_len' (x : Wr) : (Try.prog.info? 59).map (·.size) = some (wcells x).toArray.size := by simp only [List.size_toArray, wcells_length]; exact write_size
theorem wcells_one (x : Wr) (v : Value) (h : v ∈ wcells x) : v.oneCell' = true := by
  rcases List.mem_cons.1 h with rfl | h
  · rfl
  · exact cellsOf_one _ _ v h
theorem write_one (x : Wr) : (wcells x).toArray.all (·.oneCell') = true := all_oneCell_toArray (wcells_one x)
theorem write_there {w : World} {b o : Nat} (x : Wr) (h : w.there b o 65) : w.there b o (wcells x).toArray.size := by simpa [wcells_length] using h

/-- How far the writes have been made to last. -/
def Settling (w : World) (base g h : Nat) (L : Value) (D : Dev) (p : Nat → Bool) (v : Value) (wr : World) : Prop :=
  ∃ i, i ≤ D.loose.length ∧ v = .int .i64 (i : Int) ∧ IsDev wr base g h L { D with sure := lays D.sure (keptTo D.loose p i) } ∧ Apart (fun k => k = h) w wr

/-- The device behind a settling. -/
def Dev.settle (D : Dev) (p : Nat → Bool) : Dev := { D with sure := lays D.sure (keptTo D.loose p D.loose.length), loose := [] }
def Settled (w : World) (base g h : Nat) (D : Dev) (p : Nat → Bool) (e : Ending) (w' : World) : Prop :=
  e = .returned (.tuple #[]) ∧ IsDev w' base g h (.slice none 0 0) (D.settle p) ∧ Apart (fun k => k = g ∨ k = h) w w'

theorem boxed_write {w : World} {x : Wr} {w2 : World} (h : (w.alloc (.cells (wcells noWr).toArray 59)).setCells w.heap.size 0 (wcells x) = w2) :
    Below w.heap.size w w2 ∧ w2.cell? ⟨w.heap.size, 0, none⟩ = some (.int .i64 (x.at_ : Int)) ∧ w2.rangeAt w.heap.size 1 (cellsOf x.data 64) ∧ w2.heap.size = w.heap.size + 1 := by
  have ht := there_new w (wcells noWr).toArray 59 65 (by rw [List.size_toArray, wcells_length])
  have hr := World.rangeAt_setCells_same (w.alloc (.cells (wcells noWr).toArray 59)) w.heap.size 0 (wcells x) (by rw [wcells_length]; exact ht)
  have ha := apart_setCells w.heap.size (wcells x) 0 (w.alloc (.cells (wcells noWr).toArray 59))
  rw [h] at hr ha
  refine ⟨((Below.refl _ w).alloc (Nat.le_refl _) _).trans (ha.below (by simp) fun i hi e => by omega), ?_, fun j v hv => ?_, ?_⟩
  · have := hr 0 (.int .i64 (x.at_ : Int)) rfl
    simpa using this
  · have := hr (j + 1) v (by simpa [wcells] using hv)
    rwa [show 0 + (j + 1) = 1 + j by omega] at this
  · rw [← h]
    exact (setCells_size _ _ _ _).trans (by simp)

theorem held_behind {w : World} {g h b n m o x : Nat} {v : Value} {cs vs : List Value} (c0 : w.cell? ⟨g, 0, none⟩ = some v) (hp : w.cell? ⟨b, 0, none⟩ = some (.int .i64 (x : Int))) (hr : w.rangeAt b n cs) (ht : w.there h o m) (h1 : g ≠ h) (h2 : b ≠ h) :
    (w.drew.setCells h o vs).cell? ⟨g, 0, none⟩ = some v ∧ (w.drew.setCells h o vs).cell? ⟨b, 0, none⟩ = some (.int .i64 (x : Int)) ∧ (w.drew.setCells h o vs).rangeAt b n cs ∧ (w.drew.setCells h o vs).there h o m :=
  ⟨by rw [World.cell?_setCells_out h vs o _ _ (fun e _ => absurd e h1)]; exact c0, by rw [World.cell?_setCells_out h vs o _ _ (fun e _ => absurd e h2)]; exact hp, World.rangeAt_setCells_apart (w := w.drew) hr h o vs (.inl h2), World.there_setCells (w := w.drew) ht h o vs⟩

end Go.Proofs.Ytmgeifolgdgapaa
