/- The state without volumes: sound, without places, and it fits. The state without volumes fits: no places, an empty map of owners, an empty list. An empty list, sorted. The text of the state without volumes: 16 bytes 0. -/
import Derived.Test.YtdocclkphffpkaaGreatStWords
import Derived.Test.YtdocclkphffpkaaGreatCalm
import Derived.Deep.Cut
import Derived.Deep.CutRange
import Derived.Deep.CutBlock
import Derived.Deep.DeepCutAuto
import Derived.Carry
import Derived.Test.YtdocclkphffpkaaGreatLfPlat
import Derived.Test.YtdocclkphffpkaaGreatMerge1
namespace Go.Proofs.YtdocclkphffpkaaGreat
open Go.RowKit

abbrev z0 : Nat → Nat := fun _ => 0
abbrev zV : Nat → Value := fun _ => .slice none 0 0
/-- The state without volumes. -/
def zState : Value := .agg (scells z0 z0 zV).toArray

theorem unfit_none (v : Value) (w : World) :
    Calls Tryz.prog 112 #[.slice none 0 0, v] w fun e w' => e = .returned (.int .i64 (-1)) ∧ w = w' := by
  go_enter Tryz.func112, Tryz.ntmps112
  go_wp2
  go_loopw [8] (fun i wr => i = .int .i64 0 ∧ w = wr) (fun _ _ => 0)
  case atStart => exact ⟨rfl, rfl⟩
  case round =>
    obtain ⟨rfl, rfl⟩ := hrel
    go_wp2
    go_ret
    exact ⟨rfl, rfl⟩
theorem contains_none (v : Value) (w : World) :
    Calls Tryz.prog 103 #[.slice none 0 0, v] w fun e w' => e = .returned (.bool false) ∧ w = w' := by
  go_enter Tryz.func103, Tryz.ntmps103
  go_wp2_with fail
  with_reducible refine (unfit_none v _).mono ?_
  rintro e w' ⟨rfl, rfl⟩
  go_wp2
  go_ret
  exact ⟨rfl, rfl⟩
theorem entry_none (w : World) :
    Calls Tryz.prog 102 #[.agg #[.int .i64 0, .int .i64 0]] w fun e w' => e = .returned (.bool true) ∧ Below w.heap.size w w' := by
  go_enter Tryz.func102, Tryz.ntmps102
  go_wp2
  go_ret
  exact ⟨rfl, (Below.refl _ _).alloc (Nat.le_refl _) _⟩

theorem sound_none (w : World) :
    Calls Tryz.prog 89 #[.agg (scells z0 z0 zV).toArray] w (Fresh (.bool true) w) := by
  have ZB := Lib.hid (st_new w z0 z0 zV)
  have B0 : Hid (Below w.heap.size w (w.alloc (.cells (scells z0 z0 zV).toArray 32))) := Lib.hid ((Below.refl _ w).alloc (Nat.le_refl _) _)
  go_enter Tryz.func89, Tryz.ntmps89
  go_wp2_with (refine wpList_load_mid rfl 28 (.tmp 5) rfl w.heap.size 0 rfl (ecells z0 z0) _ (StIs.entries ZB.out) Tryz.underlying28 rfl (entries_len _ _) ?_)
  go_loopw [7] (fun v wr => ∃ i : Nat, i ≤ 8 ∧ v = .int .i64 (i : Int) ∧ StIs wr w.heap.size z0 z0 zV ∧ Below w.heap.size w wr) (fun v _ => 8 - (intOf v).toNat)
  case atStart => exact ⟨0, by omega, rfl, ZB.out, B0.out⟩
  case round =>
    clear ZB B0
    obtain ⟨i, hi, rfl, hs, hb⟩ := hrel
    have HS := Lib.hid hs
    have HB := Lib.hid hb
    clear hs hb
    by_cases h8 : i < 8
    · have hx := fun w => run_entry w z0 z0 h8
      obtain ⟨w2, hw2⟩ : ∃ w2, w2 = wr.alloc (.cells #[.int .i64 0, .int .i64 0] 27) := ⟨_, rfl⟩
      have hc0 : w2.cell? ⟨wr.heap.size, 0, none⟩ = some (.int .i64 0) := by rw [hw2, World.cell?_alloc_mark]; rfl
      have hc1 : w2.cell? ⟨wr.heap.size, 1, none⟩ = some (.int .i64 0) := by rw [hw2, World.cell?_alloc_mark]; rfl
      have hb2 : Below wr.heap.size wr w2 := by rw [hw2]; exact (Below.refl _ _).alloc (Nat.le_refl _) _
      have hr : w2.cell? ⟨w.heap.size, 16 + i, none⟩ = some (.slice none 0 0) := StIs.row (HS.out.below hb2) h8
      have l0 : ∀ z : Later w2, z.val.cell? ⟨wr.heap.size, 0, none⟩ = some (.int .i64 0) := fun z => cell_later z.ext hc0
      have l1 : ∀ z : Later w2, z.val.cell? ⟨wr.heap.size, 1, none⟩ = some (.int .i64 0) := fun z => cell_later z.ext hc1
      have lr : ∀ z : Later w2, z.val.cell? ⟨w.heap.size, 16 + i, none⟩ = some (.slice none 0 0) := fun z => cell_later z.ext hr
      have B2 := Lib.hid (HB.out.trans (hb2.mono HB.out.size))
      have S2 := Lib.hid (HS.out.below hb2)
      clear hc0 hc1 hb2 hr
      go_wp2
      rw [← hw2]
      clear hw2
      refine region_later (by kernel_rfl) (by kernel_rfl) ?_
      repeat (go_big_quiet_step (first
        | (go_at_call 102; exact later_fresh (fun W => entry_none W))))
      refine wpQuiet_nil ?_
      rintro w9 ⟨⟨w3, hb3⟩, hw9⟩
      obtain rfl : w9 = w3 := hw9
      have S3 := Lib.hid (S2.out.below hb3)
      have B3 := Lib.hid (B2.out.trans (hb3.mono B2.out.size))
      have c3 := StIs.row S3.out h8
      clear l0 l1 lr hb3
      go_wp2_with fail
      with_reducible refine (contains_none _ _).mono ?_
      rintro e w' ⟨rfl, rfl⟩
      clear c3
      go_wp2
      go_roundw
      case rel => exact ⟨i + 1, by omega, by go_num, S3.out, B3.out⟩
      case measure => simp [intOf]; omega
    · obtain rfl : i = 8 := by omega
      go_wp2
      go_ret
      exact ⟨rfl, HB.out⟩
end Go.Proofs.YtdocclkphffpkaaGreat

namespace Go.Proofs.YtdocclkphffpkaaGreat
open Go.RowKit

/-- The rows of places of a state that was loaded. -/
def vcells (V : Nat → Value) : List Value := (List.range 8).map V
theorem vcells_length (V : Nat → Value) : (vcells V).length = 8 := by simp [vcells]
theorem StIs.places {w : World} {b : Nat} {K S : Nat → Nat} {V : Nat → Value} (h : StIs w b K S V) : w.rangeAt b 16 (vcells V) := by
  refine RowIs.range h (by rw [vcells_length]; omega) fun j hj => ?_
  rw [vcells_length] at hj
  rw [scell_row]
  unfold vcells
  rw [List.getElem?_map, List.getElem?_range hj]
  rfl
theorem rows_info : (Tryz.prog.info? 30).map (·.size) = some 8 := by kernel_rfl
theorem rows_len (V : Nat → Value) : (Tryz.prog.info? 30).map (·.size) = some (vcells V).length := by rw [vcells_length]; exact rows_info
theorem row_size : ∃ i, Tryz.prog.info? 29 = some i := by
  have h : (Tryz.prog.info? 29).isSome = true := by kernel_rfl
  exact Option.isSome_iff_exists.1 h
theorem row_cells : Tryz.prog.cellsOf 29 = 1 := by kernel_rfl
/-- Row j of a row of rows of places. -/
theorem run_row (w : World) (V : Nat → Value) {j : Nat} (hj : j < 8) :
    (Instr.index 30 (.agg (vcells V).toArray) (.int .i64 (j : Int))).run Tryz.prog w = .ok (V j) w := by
  obtain ⟨i, hi⟩ := row_size
  have h : 0 ≤ (j : Int) ∧ (j : Int) < ((8 : Nat) : Int) := by omega
  have ha : (isAgg 29).run Tryz.prog w = .ok false w := by
    unfold isAgg
    rw [Sem.run_bind, run_underlying Tryz.underlying29 w]
    rfl
  have hx : (vcells V).toArray[j]? = some (V j) := by
    rw [List.getElem?_toArray]
    unfold vcells
    rw [List.getElem?_map, List.getElem?_range hj]
    rfl
  simp only [Instr.index, Sem.run_bind, run_underlying Tryz.underlying30 w, Result.andThen_ok, asIntOf, Sem.run_pure, if_pos h, run_sizeOf w hi, row_cells]
  rw [Int.toNat_natCast]
  simp only [part, Sem.run_bind, ha, Result.andThen_ok, Bool.false_eq_true, if_false, Nat.mul_one, hx]
  rfl

/-- A map without entries. -/
def NoMap (w : World) (b : Nat) : Prop := w.heap[b]? = some (.map #[] 0)
theorem NoMap.lt {w : World} {b : Nat} (h : NoMap w b) : b < w.heap.size := (Array.getElem?_eq_some_iff.1 h).1
theorem NoMap.below {w w' : World} {b : Nat} (h : NoMap w b) (hb : Below w.heap.size w w') : NoMap w' b := (hb.block b h.lt).trans h

theorem byPlace_none (w : World) :
    Calls Tryz.prog 90 #[.agg (scells z0 z0 zV).toArray] w fun e w' => ∃ b, e = .returned (.map (some b)) ∧ NoMap w' b ∧ Below w.heap.size w w' := by
  have hmm := @run_makeMap Tryz.prog
  have ZB := Lib.hid ((st_new w z0 z0 zV).below ((Below.refl _ _).alloc (Nat.le_refl _) (.map #[] 0)))
  have B0 : Hid (Below w.heap.size w ((w.alloc (.cells (scells z0 z0 zV).toArray 32)).alloc (.map #[] 0))) := Lib.hid (((Below.refl _ w).alloc (Nat.le_refl _) _).alloc (by simp) _)
  have M0 : Hid (NoMap ((w.alloc (.cells (scells z0 z0 zV).toArray 32)).alloc (.map #[] 0)) (w.heap.size + 1)) := Lib.hid (by
    have := heap_alloc_new (w.alloc (.cells (scells z0 z0 zV).toArray 32)) (.map #[] 0)
    rw [World.size_alloc] at this
    exact this)
  go_enter Tryz.func90, Tryz.ntmps90
  go_wp2_with (refine wpList_load_mid rfl 30 (.tmp 9) rfl w.heap.size 16 rfl (vcells zV) _ (StIs.places ZB.out) Tryz.underlying30 rfl (rows_len _) ?_)
  go_loopw [11] (fun v wr => ∃ i : Nat, i ≤ 8 ∧ v = .int .i64 (i : Int) ∧ NoMap wr (w.heap.size + 1) ∧ Below w.heap.size w wr) (fun v _ => 8 - (intOf v).toNat)
  case atStart => exact ⟨0, by omega, rfl, M0.out, B0.out⟩
  case round =>
    clear ZB B0 M0
    obtain ⟨i, hi, rfl, hm, hb⟩ := hrel
    have HM := Lib.hid hm
    have HB := Lib.hid hb
    clear hm hb
    by_cases h8 : i < 8
    · have hx := fun w => run_row w zV h8
      go_wp2
      go_loopw [17] (fun v wq => v = .int .i64 0 ∧ wr = wq) (fun _ _ => 0)
      case atStart => exact ⟨rfl, rfl⟩
      case round =>
        obtain ⟨rfl, rfl⟩ := hrel
        go_wp2
        go_roundw
        case rel => exact ⟨i + 1, by omega, by go_num, HM.out, HB.out⟩
        case measure => simp [intOf]; omega
    · obtain rfl : i = 8 := by omega
      go_wp2
      go_ret
      exact ⟨_, rfl, HM.out, HB.out⟩
end Go.Proofs.YtdocclkphffpkaaGreat

namespace Go.Proofs.YtdocclkphffpkaaGreat
open Go.RowKit

set_option maxRecDepth 100000 in
theorem len64_zero (w : World) : Calls Tryz.prog 130 #[.int .u64 0] w fun e w' => (∃ u, e = .returned u) ∧ w = w' := by
  go_enter Tryz.func130, Tryz.ntmps130
  go_wp2
  go_ret
  exact ⟨⟨_, rfl⟩, rfl⟩
theorem len_zero (w : World) : Calls Tryz.prog 119 #[.int .u64 0] w fun e w' => (∃ u, e = .returned u) ∧ w = w' := by
  go_enter Tryz.func119, Tryz.ntmps119
  go_wp2_with fail
  with_reducible refine (len64_zero _).mono ?_
  rintro e w' ⟨⟨u, rfl⟩, rfl⟩
  go_wp2
  go_ret
  exact ⟨⟨_, rfl⟩, rfl⟩
theorem insertion_none (v : Value) (w : World) : Calls Tryz.prog 120 #[v, .int .i64 0, .int .i64 0] w fun e w' => (∃ u, e = .returned u) ∧ w = w' := by
  go_enter Tryz.func120, Tryz.ntmps120
  go_wp2
  go_loopw [6] (fun i wr => i = .int .i64 1 ∧ w = wr) (fun _ _ => 0)
  case atStart => exact ⟨rfl, rfl⟩
  case round =>
    obtain ⟨rfl, rfl⟩ := hrel
    go_wp2
    go_end0
    exact ⟨⟨_, rfl⟩, rfl⟩
theorem pdq_none (v : Value) (l : Value) (w : World) : Calls Tryz.prog 118 #[v, .int .i64 0, .int .i64 0, l] w fun e w' => (∃ u, e = .returned u) ∧ w = w' := by
  go_enter Tryz.func118, Tryz.ntmps118
  go_wp2
  refine wp_loop_rounds 1 ?_
  rw [rounds_succ]
  go_wp2_with fail
  with_reducible refine (insertion_none _ _).mono ?_
  rintro e w' ⟨⟨u, rfl⟩, rfl⟩
  go_wp2
  refine bodyPost_ret (results_none (by rfl) _ _ _) rfl ?_
  exact ⟨⟨_, rfl⟩, rfl⟩
theorem sort_none (A : Option Addr) (c : Nat) (w : World) : Calls Tryz.prog 114 #[.slice A 0 c] w fun e w' => (∃ u, e = .returned u) ∧ w = w' := by
  go_enter Tryz.func114, Tryz.ntmps114
  go_wp2_with fail
  with_reducible refine (len_zero _).mono ?_
  rintro e w' ⟨⟨u, rfl⟩, rfl⟩
  go_wp2_with fail
  with_reducible refine (pdq_none _ u _).mono ?_
  rintro e w' ⟨⟨u, rfl⟩, rfl⟩
  go_wp2
  go_end0
  exact ⟨⟨_, rfl⟩, rfl⟩
theorem compact_none (A : Option Addr) (c : Nat) (w : World) : Calls Tryz.prog 115 #[.slice A 0 c] w fun e w' => e = .returned (.slice A 0 c) ∧ w = w' := by
  go_enter Tryz.func115, Tryz.ntmps115
  go_wp2
  go_ret
  exact ⟨rfl, rfl⟩

theorem z_info : (Tryz.prog.info? 55).map (fun i => (i.zero, i.size, i.bytes)) = some (some (.complex .f64 0 0), 1, 16) := by kernel_rfl
theorem make_none (w : World) : (Instr.makeSlice 29 (.int .i64 0) (.int .i64 0)).run Tryz.prog w = .ok (.slice (some ⟨w.heap.size, 0, none⟩) 0 0) (w.alloc (.cells #[] 55)) := by
  obtain ⟨i0, hi, hz0, hz1, hz2⟩ := info_parts z_info
  have h := run_make (P := Tryz.prog) w 29 55 i0 (.complex .f64 0 0) Tryz.underlying29 hi hz0 .i64 .i64 0 0 (by omega) (Int.le_refl _) (by rw [hz2]; omega) (by omega)
  rw [h, hz1]
  have e : (madeCells (Value.complex FloatKind.f64 0 0).cells (Int.toNat 0 * 1)) = #[] := by simp [madeCells]
  rw [e]
  rfl

set_option maxRecDepth 20000 in
theorem axisSort_none (A : Option Addr) (c : Nat) (w : World) :
    Calls Tryz.prog 105 #[.slice A 0 c] w fun e w' => ∃ B d, e = .returned (.tuple #[.slice B 0 d, .int .i64 0]) ∧ Below w.heap.size w w' := by
  have m0 : ∀ u : World, (Instr.makeSlice 114 (.int .i64 0) (.int .i64 0)).run Tryz.prog u = .ok (.slice (some ⟨u.heap.size, 0, none⟩) 0 0) (u.alloc (.cells (intsOf (fun _ => 0) 0).toArray 3)) := make_ints 0 (by omega)
  have m1 := make_none
  have HB : Hid (Below w.heap.size w ((w.alloc (.cells (intsOf (fun _ => 0) 0).toArray 3)).alloc (.cells #[] 55))) := Lib.hid (((Below.refl _ w).alloc (Nat.le_refl _) _).alloc (by simp) _)
  go_enter Tryz.func105, Tryz.ntmps105
  go_wp2
  refine wp_loop_rounds 1 ?_
  rw [rounds_succ]
  go_wp2_with fail
  with_reducible refine (sort_none _ _ _).mono ?_
  rintro e w' ⟨⟨u, rfl⟩, rfl⟩
  go_wp2_with fail
  with_reducible refine (compact_none _ _ _).mono ?_
  rintro e w' ⟨rfl, rfl⟩
  go_wp2
  refine wp_loop_rounds 1 ?_
  rw [rounds_succ]
  go_wp2
  go_ret2
  exact ⟨_, _, rfl, HB.out⟩

theorem run_range_empty {w : World} {b : Nat} (h : NoMap w b) :
    (Instr.range 135 (.map (some b))).run Tryz.prog w = .ok (.pointer (some ⟨w.heap.size, 0, none⟩)) (w.alloc (.mapIter (some b) 0 #[] 0)) := by
  have hg : (getObj b).run Tryz.prog w = .ok (.map #[] 0) w := by
    unfold NoMap at h
    simp [getObj, Sem.run, h]
  simp [Instr.range, run_underlying Tryz.underlying135, hg]
theorem run_next_empty {w : World} {b r : Nat} (h : NoMap w b) (hr : w.heap[r]? = some (.mapIter (some b) 0 #[] 0)) (ty : TypeId) :
    (Instr.next (.pointer (some ⟨r, 0, none⟩)) false ty).run Tryz.prog w = .ok (.tuple #[.bool false]) w := by
  have hg : (getObj b).run Tryz.prog w = .ok (.map #[] 0) w := by
    unfold NoMap at h
    simp [getObj, Sem.run, h]
  have hi : (getObj r).run Tryz.prog w = .ok (.mapIter (some b) 0 #[] 0) w := by simp [getObj, Sem.run, hr]
  simp [Instr.next, hg, hi]
  intro e
  cases e

theorem sorted_none {b : Nat} {w : World} (h : NoMap w b) :
    Calls Tryz.prog 91 #[.map (some b)] w fun e w' => ∃ B d, e = .returned (.slice B 0 d) ∧ Below w.heap.size w w' := by
  have m1 := make_none
  have hl : (Builtin.len_ #[135] 3 #[.map (some b)]).run Tryz.prog w = .ok (.int .i64 0) w := by
    have hg : (getObj b).run Tryz.prog w = .ok (.map #[] 0) w := by
      unfold NoMap at h
      simp [getObj, Sem.run, h]
    simp [Builtin.len_, hg, goInt]
  have b1 : Below w.heap.size w (w.alloc (.cells #[] 55)) := (Below.refl _ _).alloc (Nat.le_refl _) _
  have hr := run_range_empty (h.below b1)
  have b2 : Below w.heap.size w ((w.alloc (.cells #[] 55)).alloc (.mapIter (some b) 0 #[] 0)) := b1.alloc (by simp) _
  have hx := run_next_empty (r := w.heap.size + 1) (h.below b2) (by
    have := heap_alloc_new (w.alloc (.cells #[] 55)) (.mapIter (some b) 0 #[] 0)
    rw [World.size_alloc] at this
    exact this)
  rw [World.size_alloc] at hr
  have B2 := Lib.hid b2
  clear b1 b2 h
  go_enter Tryz.func91, Tryz.ntmps91
  go_wp2
  refine wp_loop_rounds 1 ?_
  rw [rounds_succ]
  go_wp2_with fail
  with_reducible refine (axisSort_none _ _ _).mono ?_
  rintro e w3 ⟨B, d, rfl, hb3⟩
  have B3 := Lib.hid (B2.out.trans (hb3.mono B2.out.size))
  clear hb3 hr hx hl m1
  go_wp2
  go_ret
  exact ⟨_, _, rfl, B3.out⟩

theorem owners_info : (Tryz.prog.info? 138).map (fun i => (i.zero, i.size, i.bytes)) = some (some (.slice none 0 0), 1, 24) := by kernel_rfl
theorem make_owners (w : World) : (Instr.makeSlice 110 (.int .i64 0) (.int .i64 0)).run Tryz.prog w = .ok (.slice (some ⟨w.heap.size, 0, none⟩) 0 0) (w.alloc (.cells #[] 138)) := by
  obtain ⟨i0, hi, hz0, hz1, hz2⟩ := info_parts owners_info
  have h := run_make (P := Tryz.prog) w 110 138 i0 (.slice none 0 0) Tryz.underlying110 hi hz0 .i64 .i64 0 0 (by omega) (Int.le_refl _) (by rw [hz2]; omega) (by omega)
  rw [h, hz1]
  have e : (madeCells (Value.slice none 0 0).cells (Int.toNat 0 * 1)) = #[] := by simp [madeCells]
  rw [e]
  rfl

theorem owners_none (w : World) :
    Calls Tryz.prog 66 #[.agg (scells z0 z0 zV).toArray] w fun e w' => ∃ B d v, e = .returned (.tuple #[.slice B 0 d, v, .int .i64 0]) ∧ Below w.heap.size w w' := by
  have ZB := Lib.hid (st_new w z0 z0 zV)
  have B0 : Hid (Below w.heap.size w (w.alloc (.cells (scells z0 z0 zV).toArray 32))) := Lib.hid ((Below.refl _ w).alloc (Nat.le_refl _) _)
  have mo := make_owners
  go_enter Tryz.func66, Tryz.ntmps66
  go_wp2_with (refine wpList_load_mid rfl 32 (.tmp 1) rfl w.heap.size 0 rfl (scells z0 z0 zV) _ (StIs.whole ZB.out) Tryz.underlying32 rfl (state_len _ _ _) ?_)
  with_reducible refine (sound_none _).mono ?_
  rintro e w1 ⟨rfl, hb1⟩
  have Z1 := Lib.hid (ZB.out.below hb1)
  have B1 := Lib.hid (B0.out.trans (hb1.mono B0.out.size))
  clear hb1 ZB B0
  go_wp2_with (refine wpList_load_mid rfl 32 (.tmp 1) rfl w.heap.size 0 rfl (scells z0 z0 zV) _ (StIs.whole Z1.out) Tryz.underlying32 rfl (state_len _ _ _) ?_)
  with_reducible refine (byPlace_none _).mono ?_
  rintro e w2 ⟨b, rfl, hm, hb2⟩
  have M := Lib.hid hm
  have B2 := Lib.hid (B1.out.trans (hb2.mono B1.out.size))
  clear hb2 hm B1 Z1
  go_wp2_with fail
  with_reducible refine (sorted_none M.out).mono ?_
  rintro e w3 ⟨B, d, rfl, hb3⟩
  have B3 := Lib.hid (B2.out.trans (hb3.mono B2.out.size))
  have B4 := Lib.hid (B3.out.alloc B3.out.size (.cells #[] 138))
  clear hb3 B2 M
  go_wp2
  refine wp_loop_rounds 1 ?_
  rw [rounds_succ]
  go_wp2
  go_ret3
  exact ⟨_, _, _, rfl, B4.out⟩

/-- The state without volumes fits in any geometry that may be. -/
theorem fit_none (s b : Int) (w : World) (g : Geo s b) :
    Calls Tryz.prog 45 #[.agg (scells z0 z0 zV).toArray, .agg #[.int .i64 s, .int .i64 b]] w (Fresh (.int .i64 0) w) := by
  have hk : 0 ≤ (s - 2 - 2) * b := Int.mul_nonneg (by have := g.1; omega) (by have := g.2; omega)
  obtain ⟨k, ek⟩ : ∃ k, k = (s - 2 - 2) * b := ⟨_, rfl⟩
  have hd : decide (k < 0) = false := by rw [ek]; simp; exact hk
  have C1 : ∀ W : World, Calls Tryz.prog 65 #[.agg #[.int .i64 s, .int .i64 b]] W (Fresh (.tuple #[.int .i64 k, .int .i64 0]) W) := fun W => by rw [ek]; exact capacity_ok s b W g
  have ZB := Lib.hid ((st_new w z0 z0 zV).below ((Below.refl _ _).alloc (Nat.le_refl _) (.cells #[.int .i64 s, .int .i64 b] 34)))
  have B0 : Hid (Below w.heap.size w ((w.alloc (.cells (scells z0 z0 zV).toArray 32)).alloc (.cells #[.int .i64 s, .int .i64 b] 34))) := Lib.hid (((Below.refl _ w).alloc (Nat.le_refl _) _).alloc (by simp) _)
  have C2 := Lib.hid C1
  clear C1 hk ek g
  go_enter Tryz.func45, Tryz.ntmps45
  go_wp2_with fail
  with_reducible refine (C2.out _).mono ?_
  rintro e w1 ⟨rfl, hb1⟩
  have Z1 := Lib.hid (ZB.out.below hb1)
  have B1 := Lib.hid (B0.out.trans (hb1.mono B0.out.size))
  clear hb1 ZB B0
  go_wp2_with (refine wpList_load_mid rfl 32 (.tmp 2) rfl w.heap.size 0 rfl (scells z0 z0 zV) _ (StIs.whole Z1.out) Tryz.underlying32 rfl (state_len _ _ _) ?_)
  with_reducible refine (owners_none _).mono ?_
  rintro e w2 ⟨B, d, v, rfl, hb2⟩
  have B2 := Lib.hid (B1.out.trans (hb2.mono B1.out.size))
  clear hb2 B1 Z1
  go_wp2
  refine wp_loop_rounds 1 ?_
  rw [rounds_succ]
  go_wp2
  go_ret
  exact ⟨rfl, B2.out⟩
end Go.Proofs.YtdocclkphffpkaaGreat

namespace Go.Proofs.YtdocclkphffpkaaGreat
open Go.RowKit

theorem two_new (w : World) : BytesAt (w.alloc (.cells #[.int .u8 0, .int .u8 0] 5)) (some ⟨w.heap.size, 0, none⟩) 2 (fun _ => 0) :=
  ⟨fun _ _ => by show 0 < 256; omega, fun i hi => ⟨_, rfl, by
    rcases (by omega : i = 0 ∨ i = 1) with rfl | rfl <;> (rw [add_nil, World.cell?_alloc_mark]; rfl)⟩⟩
theorem zero_behind (n : Nat) : behind (fun _ => 0) n (fun _ => 0) = fun _ => 0 := by
  funext i
  unfold behind
  split <;> rfl

theorem row_none (W : World) : Calls Tryz.prog 69 #[.int .i64 2, .slice none 0 0] W (Bears 0 (fun _ => 0) W) := by
  have h := row_ok 2 none 0 0 (fun _ => 0) W (by omega) (by omega) (by omega) (by omega) (fun i hi => absurd hi (by omega)) (IntsAt.none_ _ _)
  refine Calls.mono h fun e w' hx => ?_
  obtain ⟨v, he, hv, hb⟩ := hx
  exact ⟨v, he, hv.congr fun i hi => absurd hi (by omega), hb⟩

def TextLoop (w : World) (v x : Value) (wr : World) : Prop :=
  ∃ i : Nat, i ≤ 8 ∧ x = .int .i64 (i : Int) ∧ StIs wr w.heap.size z0 z0 zV ∧ Own wr (w.heap.size + 1) v (2 * i) (fun _ => 0) ∧ Below w.heap.size w wr

set_option maxRecDepth 20000 in
theorem text_none (n : Value) (w : World) :
    Calls Tryz.prog 46 #[.agg (scells z0 z0 zV).toArray, n] w fun e w' => ∃ v, e = .returned v ∧ Reads w' v 16 (fun _ => 0) ∧ Below w.heap.size w w' := by
  have ZB := Lib.hid (st_new w z0 z0 zV)
  have B0 : Hid (Below w.heap.size w (w.alloc (.cells (scells z0 z0 zV).toArray 32))) := Lib.hid ((Below.refl _ w).alloc (Nat.le_refl _) _)
  go_enter Tryz.func46, Tryz.ntmps46
  go_wp2_with (refine wpList_load_mid rfl 28 (.tmp 12) rfl w.heap.size 0 rfl (ecells z0 z0) _ (StIs.entries ZB.out) Tryz.underlying28 rfl (entries_len _ _) ?_)
  go_loopw [4, 14] (fun v x wr => TextLoop w v x wr) (fun _ x _ => 8 - (intOf x).toNat)
  case atStart => exact ⟨0, by omega, rfl, ZB.out, own_none _ _ _, B0.out⟩
  case round =>
    clear ZB B0
    obtain ⟨i, hi, rfl, hs, ho, hb⟩ := hrel
    have HS := Lib.hid hs
    have HO := Lib.hid ho
    have HB := Lib.hid hb
    clear hs ho hb
    by_cases h8 : i < 8
    · have hx := fun w => run_entry w z0 z0 h8
      have hb2 : Below wr.heap.size wr (wr.alloc (.cells #[.int .i64 0, .int .i64 0] 27)) := (Below.refl _ _).alloc (Nat.le_refl _) _
      have hr : (wr.alloc (.cells #[.int .i64 0, .int .i64 0] 27)).cell? ⟨w.heap.size, 16 + i, none⟩ = some (.slice none 0 0) := StIs.row (HS.out.below hb2) h8
      have B2 := Lib.hid hb2
      clear hb2
      go_wp2
      refine wp_loop_rounds 1 ?_
      rw [rounds_succ]
      go_wp2_with fail
      obtain ⟨w2, hw2⟩ : ∃ w2, w2 = wr.alloc (.cells #[.int .i64 0, .int .i64 0] 27) := ⟨_, rfl⟩
      have hc0 : w2.cell? ⟨wr.heap.size, 0, none⟩ = some (.int .i64 0) := by rw [hw2, World.cell?_alloc_mark]; rfl
      have hc1 : w2.cell? ⟨wr.heap.size, 1, none⟩ = some (.int .i64 0) := by rw [hw2, World.cell?_alloc_mark]; rfl
      rw [← hw2] at B2 ⊢
      have S2 := Lib.hid (HS.out.below B2.out)
      have O2 : Hid (Own w2 (w.heap.size + 1) u4 (2 * i) fun _ => 0) := Lib.hid (owns_later HO.out B2.out)
      have C0 := Lib.hid hc0
      have C1 := Lib.hid hc1
      have B3 := Lib.hid (HB.out.trans (B2.out.mono HB.out.size))
      clear hw2 hr hc0 hc1 B2
      with_reducible refine (row_none _).mono ?_
      rintro e w3 ⟨v3, rfl, hv3, hb3⟩
      have S3 := Lib.hid (S2.out.below hb3)
      have c0 := cell_later hb3 C0.out
      have c1 := cell_later hb3 C1.out
      have O3 : Hid (Own w3 (w.heap.size + 1) u4 (2 * i) fun _ => 0) := Lib.hid (owns_later O2.out hb3)
      have B4 := Lib.hid (B3.out.trans (hb3.mono B3.out.size))
      have V3 := Lib.hid hv3
      clear hb3 hv3 S2 O2 C0 C1 B3
      have L3 := S3.out.lt
      have hb4 : Below (w.heap.size + 1) w3 (w3.alloc (.cells #[.int .u8 0, .int .u8 0] 5)) := (Below.refl _ _).alloc L3 _
      obtain ⟨v4, w4, r4, o4, -, g4⟩ := run_bytes (c := 2) 44 (O3.out.alloc (.cells #[.int .u8 0, .int .u8 0] 5)) (two_new w3) (by intro e; cases e) (by omega) (by have := L3; simp; omega)
      rw [zero_behind] at o4
      have hb5 : Below (w.heap.size + 1) w3 w4 := (O3.out.alloc (.cells #[.int .u8 0, .int .u8 0] 5)).grown_below hb4 (Nat.le_refl _) (Nat.le_trans L3 hb4.size) g4
      obtain ⟨A5, n5, e5, _, _, h5, _⟩ := V3.out
      have s4 : w.heap.size + 1 ≤ w4.heap.size := Nat.le_trans L3 hb5.size
      obtain ⟨v6, w6, r6, o6, -, g6⟩ := run_bytes (f := fun _ => 0) (g := fun _ => 0) (A := A5) (m := 0) (c := n5) 44 o4 ⟨fun i hi => absurd hi (by omega), fun i hi => absurd hi (by omega)⟩ h5 (by omega) s4
      rw [zero_behind] at o6
      have hb6 : Below (w.heap.size + 1) w3 w6 := o4.grown_below hb5 (Nat.le_refl _) s4 g6
      have R4 := Lib.hid r4
      have R6 := Lib.hid r6
      have O6 : Hid (Own w6 (w.heap.size + 1) v6 (2 * (i + 1)) fun _ => 0) := Lib.hid o6
      have S6 : Hid (StIs w6 w.heap.size z0 z0 zV) := Lib.hid ((hb6.block w.heap.size (by omega)).trans S3.out)
      have B6 : Hid (Below w.heap.size w w6) := Lib.hid (B4.out.trans (hb6.mono (by omega)))
      subst e5
      clear hb4 r4 o4 g4 hb5 h5 s4 r6 o6 g6 hb6 V3 O3 S3 B4
      go_wp2_with (first
        | (at_builtin; refine Lib.wpList_append_run _ rfl (.tmp 39) (.tmp 46) _ _ rfl _ _ rfl rfl _ _ R4.out ?_)
        | (at_builtin; refine Lib.wpList_append_run _ rfl (.tmp 48) (.tmp 49) _ _ rfl _ _ rfl rfl _ _ R6.out ?_))
      go_roundw
      case rel => exact ⟨i + 1, by omega, by go_num, S6.out, O6.out, B6.out⟩
      case measure => simp [intOf]; omega
    · obtain rfl : i = 8 := by omega
      go_wp2
      go_ret
      exact ⟨_, rfl, Own.reads HO.out (fun _ _ => by show 0 < 256; omega), HB.out⟩
end Go.Proofs.YtdocclkphffpkaaGreat

