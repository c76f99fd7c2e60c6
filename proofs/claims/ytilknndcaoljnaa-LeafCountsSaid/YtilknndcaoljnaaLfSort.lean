/- An empty list, sorted. -/
import Derived.Test.YtilknndcaoljnaaLfFit
import Derived.Test.YtilknndcaoljnaaLfPlat
namespace Go.Proofs.Ytilknndcaoljnaa
open Go.RowKit

set_option maxRecDepth 100000 in
theorem len64_zero (w : World) : Calls Try.prog 88 #[.int .u64 0] w fun e w' => (∃ u, e = .returned u) ∧ w = w' := by
  go_enter Try.func88, Try.ntmps88
  go_wp2
  go_ret
  exact ⟨⟨_, rfl⟩, rfl⟩
theorem len_zero (w : World) : Calls Try.prog 77 #[.int .u64 0] w fun e w' => (∃ u, e = .returned u) ∧ w = w' := by
  go_enter Try.func77, Try.ntmps77
  go_wp2_with fail
  with_reducible refine (len64_zero _).mono ?_
  rintro e w' ⟨⟨u, rfl⟩, rfl⟩
  go_wp2
  go_ret
  exact ⟨⟨_, rfl⟩, rfl⟩
theorem insertion_none (v : Value) (w : World) : Calls Try.prog 78 #[v, .int .i64 0, .int .i64 0] w fun e w' => (∃ u, e = .returned u) ∧ w = w' := by
  go_enter Try.func78, Try.ntmps78
  go_wp2
  go_loopw [6] (fun i wr => i = .int .i64 1 ∧ w = wr) (fun _ _ => 0)
  case atStart => exact ⟨rfl, rfl⟩
  case round =>
    obtain ⟨rfl, rfl⟩ := hrel
    go_wp2
    go_end0
    exact ⟨⟨_, rfl⟩, rfl⟩
theorem pdq_none (v : Value) (l : Value) (w : World) : Calls Try.prog 76 #[v, .int .i64 0, .int .i64 0, l] w fun e w' => (∃ u, e = .returned u) ∧ w = w' := by
  go_enter Try.func76, Try.ntmps76
  go_wp2
  refine wp_loop_rounds 1 ?_
  rw [rounds_succ]
  go_wp2_with fail
  with_reducible refine (insertion_none _ _).mono ?_
  rintro e w' ⟨⟨u, rfl⟩, rfl⟩
  go_wp2
  refine bodyPost_ret (results_none (by rfl) _ _ _) rfl ?_
  exact ⟨⟨_, rfl⟩, rfl⟩
theorem sort_none (A : Option Addr) (c : Nat) (w : World) : Calls Try.prog 72 #[.slice A 0 c] w fun e w' => (∃ u, e = .returned u) ∧ w = w' := by
  go_enter Try.func72, Try.ntmps72
  go_wp2_with fail
  with_reducible refine (len_zero _).mono ?_
  rintro e w' ⟨⟨u, rfl⟩, rfl⟩
  go_wp2_with fail
  with_reducible refine (pdq_none _ u _).mono ?_
  rintro e w' ⟨⟨u, rfl⟩, rfl⟩
  go_wp2
  go_end0
  exact ⟨⟨_, rfl⟩, rfl⟩
theorem compact_none (A : Option Addr) (c : Nat) (w : World) : Calls Try.prog 73 #[.slice A 0 c] w fun e w' => e = .returned (.slice A 0 c) ∧ w = w' := by
  go_enter Try.func73, Try.ntmps73
  go_wp2
  go_ret
  exact ⟨rfl, rfl⟩

theorem z_info : (Try.prog.info? 62).map (fun i => (i.zero, i.size, i.bytes)) = some (some (.complex .f64 0 0), 1, 16) := by kernel_rfl
theorem make_none (w : World) : (Instr.makeSlice 41 (.int .i64 0) (.int .i64 0)).run Try.prog w = .ok (.slice (some ⟨w.heap.size, 0, none⟩) 0 0) (w.alloc (.cells #[] 62)) := by
  obtain ⟨i0, hi, hz0, hz1, hz2⟩ := info_parts z_info
  have h := run_make (P := Try.prog) w 41 62 i0 (.complex .f64 0 0) Try.underlying41 hi hz0 .i64 .i64 0 0 (by omega) (Int.le_refl _) (by rw [hz2]; omega) (by omega)
  rw [h, hz1]
  have e : (madeCells (Value.complex FloatKind.f64 0 0).cells (Int.toNat 0 * 1)) = #[] := by simp [madeCells]
  rw [e]
  rfl

set_option maxRecDepth 20000 in
theorem axisSort_none (A : Option Addr) (c : Nat) (w : World) :
    Calls Try.prog 64 #[.slice A 0 c] w fun e w' => ∃ B d, e = .returned (.tuple #[.slice B 0 d, .int .i64 0]) ∧ Below w.heap.size w w' := by
  have m0 : ∀ u : World, (Instr.makeSlice 71 (.int .i64 0) (.int .i64 0)).run Try.prog u = .ok (.slice (some ⟨u.heap.size, 0, none⟩) 0 0) (u.alloc (.cells (intsOf (fun _ => 0) 0).toArray 3)) := make_ints 0 (by omega)
  have m1 := make_none
  have HB : Hid (Below w.heap.size w ((w.alloc (.cells (intsOf (fun _ => 0) 0).toArray 3)).alloc (.cells #[] 62))) := Lib.hid (((Below.refl _ w).alloc (Nat.le_refl _) _).alloc (by simp) _)
  go_enter Try.func64, Try.ntmps64
  go_wp2
  refine wp_loop_rounds 1 ?_
  rw [rounds_succ]
  go_wp2_with fail
  with_reducible refine (sort_none _ _ _).mono ?_
  rintro e w' ⟨⟨u, rfl⟩, rfl⟩
  go_wp2_with fail
  with_reducible refine (compact_none _ _ _).mono ?_
  rintro e w' ⟨rfl, rfl⟩
  go_wp2
  refine wp_loop_rounds 1 ?_
  rw [rounds_succ]
  go_wp2
  go_ret2
  exact ⟨_, _, rfl, HB.out⟩

theorem run_range_empty {w : World} {b : Nat} (h : NoMap w b) :
    (Instr.range 87 (.map (some b))).run Try.prog w = .ok (.pointer (some ⟨w.heap.size, 0, none⟩)) (w.alloc (.mapIter (some b) 0 #[] 0)) := by
  have hg : (getObj b).run Try.prog w = .ok (.map #[] 0) w := by
    unfold NoMap at h
    simp [getObj, Sem.run, h]
  simp [Instr.range, run_underlying Try.underlying87, hg]
theorem run_next_empty {w : World} {b r : Nat} (h : NoMap w b) (hr : w.heap[r]? = some (.mapIter (some b) 0 #[] 0)) (ty : TypeId) :
    (Instr.next (.pointer (some ⟨r, 0, none⟩)) false ty).run Try.prog w = .ok (.tuple #[.bool false]) w := by
  have hg : (getObj b).run Try.prog w = .ok (.map #[] 0) w := by
    unfold NoMap at h
    simp [getObj, Sem.run, h]
  have hi : (getObj r).run Try.prog w = .ok (.mapIter (some b) 0 #[] 0) w := by simp [getObj, Sem.run, hr]
  simp [Instr.next, hg, hi]
  intro e
  cases e

theorem sorted_none {b : Nat} {w : World} (h : NoMap w b) :
    Calls Try.prog 50 #[.map (some b)] w fun e w' => ∃ B d, e = .returned (.slice B 0 d) ∧ Below w.heap.size w w' := by
  have m1 := make_none
  have hl : (Builtin.len_ #[87] 3 #[.map (some b)]).run Try.prog w = .ok (.int .i64 0) w := by
    have hg : (getObj b).run Try.prog w = .ok (.map #[] 0) w := by
      unfold NoMap at h
      simp [getObj, Sem.run, h]
    simp [Builtin.len_, hg, goInt]
  have b1 : Below w.heap.size w (w.alloc (.cells #[] 62)) := (Below.refl _ _).alloc (Nat.le_refl _) _
  have hr := run_range_empty (h.below b1)
  have b2 : Below w.heap.size w ((w.alloc (.cells #[] 62)).alloc (.mapIter (some b) 0 #[] 0)) := b1.alloc (by simp) _
  have hx := run_next_empty (r := w.heap.size + 1) (h.below b2) (by
    have := heap_alloc_new (w.alloc (.cells #[] 62)) (.mapIter (some b) 0 #[] 0)
    rw [World.size_alloc] at this
    exact this)
  rw [World.size_alloc] at hr
  have B2 := Lib.hid b2
  clear b1 b2 h
  go_enter Try.func50, Try.ntmps50
  go_wp2
  refine wp_loop_rounds 1 ?_
  rw [rounds_succ]
  go_wp2_with fail
  with_reducible refine (axisSort_none _ _ _).mono ?_
  rintro e w3 ⟨B, d, rfl, hb3⟩
  have B3 := Lib.hid (B2.out.trans (hb3.mono B2.out.size))
  clear hb3 hr hx hl m1
  go_wp2
  go_ret
  exact ⟨_, _, rfl, B3.out⟩

theorem owners_info : (Try.prog.info? 90).map (fun i => (i.zero, i.size, i.bytes)) = some (some (.slice none 0 0), 1, 24) := by kernel_rfl
theorem make_owners (w : World) : (Instr.makeSlice 67 (.int .i64 0) (.int .i64 0)).run Try.prog w = .ok (.slice (some ⟨w.heap.size, 0, none⟩) 0 0) (w.alloc (.cells #[] 90)) := by
  obtain ⟨i0, hi, hz0, hz1, hz2⟩ := info_parts owners_info
  have h := run_make (P := Try.prog) w 67 90 i0 (.slice none 0 0) Try.underlying67 hi hz0 .i64 .i64 0 0 (by omega) (Int.le_refl _) (by rw [hz2]; omega) (by omega)
  rw [h, hz1]
  have e : (madeCells (Value.slice none 0 0).cells (Int.toNat 0 * 1)) = #[] := by simp [madeCells]
  rw [e]
  rfl

theorem owners_none (w : World) :
    Calls Try.prog 34 #[.agg (scells z0 z0 zV).toArray] w fun e w' => ∃ B d v, e = .returned (.tuple #[.slice B 0 d, v, .int .i64 0]) ∧ Below w.heap.size w w' := by
  have ZB := Lib.hid (st_new w z0 z0 zV)
  have B0 : Hid (Below w.heap.size w (w.alloc (.cells (scells z0 z0 zV).toArray 44))) := Lib.hid ((Below.refl _ w).alloc (Nat.le_refl _) _)
  have mo := make_owners
  go_enter Try.func34, Try.ntmps34
  go_wp2_with (refine wpList_load_mid rfl 44 (.tmp 1) rfl w.heap.size 0 rfl (scells z0 z0 zV) _ (StIs.whole ZB.out) Try.underlying44 rfl (state_len _ _ _) ?_)
  with_reducible refine (sound_none _).mono ?_
  rintro e w1 ⟨rfl, hb1⟩
  have Z1 := Lib.hid (ZB.out.below hb1)
  have B1 := Lib.hid (B0.out.trans (hb1.mono B0.out.size))
  clear hb1 ZB B0
  go_wp2_with (refine wpList_load_mid rfl 44 (.tmp 1) rfl w.heap.size 0 rfl (scells z0 z0 zV) _ (StIs.whole Z1.out) Try.underlying44 rfl (state_len _ _ _) ?_)
  with_reducible refine (byPlace_none _).mono ?_
  rintro e w2 ⟨b, rfl, hm, hb2⟩
  have M := Lib.hid hm
  have B2 := Lib.hid (B1.out.trans (hb2.mono B1.out.size))
  clear hb2 hm B1 Z1
  go_wp2_with fail
  with_reducible refine (sorted_none M.out).mono ?_
  rintro e w3 ⟨B, d, rfl, hb3⟩
  have B3 := Lib.hid (B2.out.trans (hb3.mono B2.out.size))
  have B4 := Lib.hid (B3.out.alloc B3.out.size (.cells #[] 90))
  clear hb3 B2 M
  go_wp2
  refine wp_loop_rounds 1 ?_
  rw [rounds_succ]
  go_wp2
  go_ret3
  exact ⟨_, _, _, rfl, B4.out⟩

/-- The state without volumes fits in any geometry that may be. -/
theorem fit_none (s b : Int) (w : World) (g : Geo s b) :
    Calls Try.prog 23 #[.agg (scells z0 z0 zV).toArray, .agg #[.int .i64 s, .int .i64 b]] w (Fresh (.int .i64 0) w) := by
  have hk : 0 ≤ (s - 2 - 2) * b := Int.mul_nonneg (by have := g.1; omega) (by have := g.2; omega)
  obtain ⟨k, ek⟩ : ∃ k, k = (s - 2 - 2) * b := ⟨_, rfl⟩
  have hd : decide (k < 0) = false := by rw [ek]; simp; exact hk
  have C1 : ∀ W : World, Calls Try.prog 33 #[.agg #[.int .i64 s, .int .i64 b]] W (Fresh (.tuple #[.int .i64 k, .int .i64 0]) W) := fun W => by rw [ek]; exact capacity_ok s b W g
  have ZB := Lib.hid ((st_new w z0 z0 zV).below ((Below.refl _ _).alloc (Nat.le_refl _) (.cells #[.int .i64 s, .int .i64 b] 46)))
  have B0 : Hid (Below w.heap.size w ((w.alloc (.cells (scells z0 z0 zV).toArray 44)).alloc (.cells #[.int .i64 s, .int .i64 b] 46))) := Lib.hid (((Below.refl _ w).alloc (Nat.le_refl _) _).alloc (by simp) _)
  have C2 := Lib.hid C1
  clear C1 hk ek g
  go_enter Try.func23, Try.ntmps23
  go_wp2_with fail
  with_reducible refine (C2.out _).mono ?_
  rintro e w1 ⟨rfl, hb1⟩
  have Z1 := Lib.hid (ZB.out.below hb1)
  have B1 := Lib.hid (B0.out.trans (hb1.mono B0.out.size))
  clear hb1 ZB B0
  go_wp2_with (refine wpList_load_mid rfl 44 (.tmp 2) rfl w.heap.size 0 rfl (scells z0 z0 zV) _ (StIs.whole Z1.out) Try.underlying44 rfl (state_len _ _ _) ?_)
  with_reducible refine (owners_none _).mono ?_
  rintro e w2 ⟨B, d, v, rfl, hb2⟩
  have B2 := Lib.hid (B1.out.trans (hb2.mono B1.out.size))
  clear hb2 B1 Z1
  go_wp2
  refine wp_loop_rounds 1 ?_
  rw [rounds_succ]
  go_wp2
  go_ret
  exact ⟨rfl, B2.out⟩
end Go.Proofs.Ytilknndcaoljnaa
