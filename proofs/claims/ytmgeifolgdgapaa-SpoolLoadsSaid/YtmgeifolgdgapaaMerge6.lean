/- What five bytes are as a delta: the package's answer. What five bytes are as a delta: the document's answer. A delta as five bytes: the document's answer. -/
import Derived.Test.YtmgeifolgdgapaaMerge2
import Derived.Test.YtmgeifolgdgapaaMerge4
import Derived.RegionTactic
import Derived.Deep.RegionHeld3
import Derived.Deep.MidRow
import Derived.Laws.ResultCell
namespace Go.Proofs.Ytmgeifolgdgapaa
open Go.RowKit

/-- The delta that bytes say. -/
def delOf (f : Nat → Nat) : Del := ⟨f 0, f 1 / 16, f 1 % 16, f 2, f 3, f 4⟩
def noDel : Value := .agg #[.int .i64 0, .int .i64 0, .int .i64 0, .int .i64 0, .complex .f64 0 0]
def Decoded (n : Nat) (f : Nat → Nat) (w : World) (e : Ending) (w' : World) : Prop :=
  ((n = 5 ∧ Valid (delOf f) ∧ e = .returned (.tuple #[(delOf f).val, .int .i64 0])) ∨ (¬ (n = 5 ∧ Valid (delOf f)) ∧ ∃ x : Int, x ≠ 0 ∧ e = .returned (.tuple #[noDel, .int .i64 x]))) ∧ Below w.heap.size w w'

theorem del_results {P : Program} {fn : Func} {p u : Tmp} {ty : TypeId} (h : fn.results = #[.cell p ty, .tmp u]) (tmps : Array Value) (w : World) (g : Nat) (t : TypeId) (cs : Array Value) (fr : Nat × Nat) (d : TypeDesc)
    (hp : tmps.getD p undef = .pointer (some ⟨g, 0, none⟩)) (hg : w.heap[g]? = some (.cells cs t fr)) (hu : P.underlying ty = some d) (hd : (match d with | .struct _ | .array _ _ => true | _ => false) = true) (hi : (P.info? ty).map (·.size) = some cs.size) :
    (results fn tmps).run P w = .ok (.tuple #[.agg cs, tmps.getD u undef]) w := by
  rw [results_cell_tmp h, hp]
  simp only [asAddr, Sem.run_pure, Result.andThen_ok, run_loadVar_row w g t ty cs fr d hg hu hd hi]
/-- Five cells of one block are given anew. -/
theorem five_put {w : World} {g : Nat} {x0 x1 x2 x3 x4 : Value} {T : TypeId} (h : w.heap[g]? = some (.cells #[x0, x1, x2, x3, x4] T (0, 0))) (y0 y1 y2 y3 y4 : Value) :
    ∃ w', w' = (((((w.setCell ⟨g, 0, none⟩ y0).setCell ⟨g, 1, none⟩ y1).setCell ⟨g, 2, none⟩ y2).setCell ⟨g, 3, none⟩ y3).setCell ⟨g, 4, none⟩ y4) ∧ w'.heap[g]? = some (.cells #[y0, y1, y2, y3, y4] T (0, 0)) ∧ Apart (fun k => k = g) w w' ∧ w.cell? ⟨g, 0, none⟩ = some x0 ∧ w.frozen? ⟨g, 0, none⟩ = false ∧ (w.setCell ⟨g, 0, none⟩ y0).cell? ⟨g, 1, none⟩ = some x1 ∧ (w.setCell ⟨g, 0, none⟩ y0).frozen? ⟨g, 1, none⟩ = false ∧ ((w.setCell ⟨g, 0, none⟩ y0).setCell ⟨g, 1, none⟩ y1).cell? ⟨g, 2, none⟩ = some x2 ∧ ((w.setCell ⟨g, 0, none⟩ y0).setCell ⟨g, 1, none⟩ y1).frozen? ⟨g, 2, none⟩ = false ∧ (((w.setCell ⟨g, 0, none⟩ y0).setCell ⟨g, 1, none⟩ y1).setCell ⟨g, 2, none⟩ y2).cell? ⟨g, 3, none⟩ = some x3 ∧ (((w.setCell ⟨g, 0, none⟩ y0).setCell ⟨g, 1, none⟩ y1).setCell ⟨g, 2, none⟩ y2).frozen? ⟨g, 3, none⟩ = false ∧ ((((w.setCell ⟨g, 0, none⟩ y0).setCell ⟨g, 1, none⟩ y1).setCell ⟨g, 2, none⟩ y2).setCell ⟨g, 3, none⟩ y3).cell? ⟨g, 4, none⟩ = some x4 ∧ ((((w.setCell ⟨g, 0, none⟩ y0).setCell ⟨g, 1, none⟩ y1).setCell ⟨g, 2, none⟩ y2).setCell ⟨g, 3, none⟩ y3).frozen? ⟨g, 4, none⟩ = false := by
  have h1 := heap_setCell_same w g 0 _ T y0 h
  have h2 := heap_setCell_same _ g 1 _ T y1 h1
  have h3 := heap_setCell_same _ g 2 _ T y2 h2
  have h4 := heap_setCell_same _ g 3 _ T y3 h3
  have h5 := heap_setCell_same _ g 4 _ T y4 h4
  refine ⟨_, rfl, h5, ?_, ?_⟩
  · exact apart_setCells g [y0, y1, y2, y3, y4] 0 w
  · exact ⟨by rw [cell_of_row _ g 0 _ _ _ h]; rfl, frozen_of_row _ g 0 _ _ h, by rw [cell_of_row _ g 1 _ _ _ h1]; rfl, frozen_of_row _ g 1 _ _ h1, by rw [cell_of_row _ g 2 _ _ _ h2]; rfl, frozen_of_row _ g 2 _ _ h2, by rw [cell_of_row _ g 3 _ _ _ h3]; rfl, frozen_of_row _ g 3 _ _ h3, by rw [cell_of_row _ g 4 _ _ _ h4]; rfl, frozen_of_row _ g 4 _ _ h4⟩
theorem wrap_i64 {z : Int} (h0 : 0 ≤ z) (h1 : z < 256) : IntKind.i64.wrap z = z := by
  unfold IntKind.wrap
  simp [IntKind.bits, IntKind.signed]
  omega
theorem wrap_u8 {z : Int} (h0 : 0 ≤ z) (h1 : z < 256) : IntKind.u8.wrap z = z := by
  unfold IntKind.wrap
  simp [IntKind.bits, IntKind.signed]
  omega
theorem later1 {w : World} {p : Addr} {v : Value} (h : w.cell? p = some v) (o : Obj) : (w.alloc o).cell? p = some v :=
  cell_later ((Below.refl _ w).alloc (Nat.le_refl _) o) h
theorem later2 {w : World} {p : Addr} {v : Value} (h : w.cell? p = some v) (o o' : Obj) : ((w.alloc o).alloc o').cell? p = some v :=
  cell_later (((Below.refl _ w).alloc (Nat.le_refl _) o).alloc (by simp) o') h

set_option maxRecDepth 100000 in
set_option maxHeartbeats 1600000 in
theorem ddecode_any (ad : Addr) (c : Nat) (f : Nat → Nat) (w : World) (hv : BytesAt w (some ad) 5 f) :
    Calls Try.prog 33 #[.slice (some ad) 5 c] w (Decoded 5 f w) := by
  have hst := put_complex
  have hmx : Try.prog.follows .mixedOrders = true := by kernel_rfl
  have c0 := hv.at_ (i := 0) (by omega)
  have c1 := hv.at_ (i := 1) (by omega)
  have c2 := hv.at_ (i := 2) (by omega)
  have c3 := hv.at_ (i := 3) (by omega)
  have c4 := hv.at_ (i := 4) (by omega)
  have s0 := hv.small 0 (by omega)
  have s1 := hv.small 1 (by omega)
  have s2 := hv.small 2 (by omega)
  have s3 := hv.small 3 (by omega)
  have s4 := hv.small 4 (by omega)
  obtain ⟨x0, e0⟩ : ∃ x, x = f 0 := ⟨_, rfl⟩
  obtain ⟨x1, e1⟩ : ∃ x, x = f 1 := ⟨_, rfl⟩
  obtain ⟨x2, e2⟩ : ∃ x, x = f 2 := ⟨_, rfl⟩
  obtain ⟨x3, e3⟩ : ∃ x, x = f 3 := ⟨_, rfl⟩
  obtain ⟨x4, e4⟩ : ∃ x, x = f 4 := ⟨_, rfl⟩
  have E : Hid (delOf f = ⟨x0, x1 / 16, x1 % 16, x2, x3, x4⟩) := Lib.hid (by unfold delOf; rw [e0, e1, e2, e3, e4])
  rw [← e0] at c0 s0
  rw [← e1] at c1 s1
  rw [← e2] at c2 s2
  rw [← e3] at c3 s3
  rw [← e4] at c4 s4
  clear hv e0 e1 e2 e3 e4
  have c0' : w.cell? ad = some (.int .u8 (x0 : Int)) := by simpa [Addr.add] using c0
  obtain ⟨w1, hw1⟩ : ∃ w1, w1 = w.alloc (.cells #[.int .i64 0, .int .i64 0, .int .i64 0, .int .i64 0, .complex .f64 0 0] 52) := ⟨_, rfl⟩
  have hb1 : Below w.heap.size w w1 := by rw [hw1]; exact (Below.refl _ w).alloc (Nat.le_refl _) _
  have C0 : Hid (w1.cell? ad = some (.int .u8 (x0 : Int))) := Lib.hid (cell_later hb1 c0')
  have C1 : Hid (w1.cell? ⟨ad.block, ad.off + 1, none⟩ = some (.int .u8 (x1 : Int))) := Lib.hid (cell_later hb1 c1)
  have C2 : Hid (w1.cell? ⟨ad.block, ad.off + 2, none⟩ = some (.int .u8 (x2 : Int))) := Lib.hid (cell_later hb1 c2)
  have C3 : Hid (w1.cell? ⟨ad.block, ad.off + 3, none⟩ = some (.int .u8 (x3 : Int))) := Lib.hid (cell_later hb1 c3)
  have C4 : Hid (w1.cell? ⟨ad.block, ad.off + 4, none⟩ = some (.int .u8 (x4 : Int))) := Lib.hid (cell_later hb1 c4)
  have B1 := Lib.hid hb1
  clear hb1 c0 c0' c1 c2 c3 c4
  go_enter Try.func33, Try.ntmps33
  go_wp2
  rw [← hw1]
  refine wp_region_held_drew (S := fun w' => Below w1.heap.size w1 w') (by kernel_rfl) ((Below.refl _ _).drew) (fun hH => ?_)
  refine wpAnyH_take (i := 0) (v := .slice (some ad) 5 c) rfl (by kernel_rfl) (by kernel_rfl) (by kernel_rfl) (fun _ _ _ h => h) (Or.inl ⟨by rfl, fun w' hS => by go_simp⟩) hH ?_
  simp only [Act.put, List.setIfInBounds_toArray]
  refine wpAnyH_take (i := 1) (v := .pointer (some ad)) rfl (by kernel_rfl) (by kernel_rfl) (by kernel_rfl) (fun _ _ _ h => h) (Or.inl ⟨by rfl, fun w' hS => by go_simp⟩) hH ?_
  simp only [Act.put]
  refine wpAnyH_take (i := 2) (v := .int .u8 (x0 : Int)) rfl (by kernel_rfl) (by kernel_rfl) (by kernel_rfl) (fun _ _ _ h => h) (Or.inl ⟨by rfl, fun w' hS => by have s1 := cell_later hS C0.out; go_simp⟩) hH ?_
  simp only [Act.put]
  refine wpAnyH_take (i := 3) (v := .int .i64 (x0 : Int)) rfl (by kernel_rfl) (by kernel_rfl) (by kernel_rfl) (fun _ _ _ h => h) (Or.inl ⟨by rfl, fun w' hS => by go_simp; exact wrap_i64 (by omega) (by omega)⟩) hH ?_
  simp only [Act.put]
  refine wpAnyH_take (i := 4) (v := .slice (some ad) 5 c) rfl (by kernel_rfl) (by kernel_rfl) (by kernel_rfl) (fun _ _ _ h => h) (Or.inl ⟨by rfl, fun w' hS => by go_simp⟩) hH ?_
  simp only [Act.put]
  refine wpAnyH_take (i := 5) (v := .pointer (some ⟨ad.block, ad.off + 1, none⟩)) rfl (by kernel_rfl) (by kernel_rfl) (by kernel_rfl) (fun _ _ _ h => h) (Or.inl ⟨by rfl, fun w' hS => by go_simp⟩) hH ?_
  simp only [Act.put]
  refine wpAnyH_take (i := 6) (v := .int .u8 (x1 : Int)) rfl (by kernel_rfl) (by kernel_rfl) (by kernel_rfl) (fun _ _ _ h => h) (Or.inl ⟨by rfl, fun w' hS => by have s1 := cell_later hS C1.out; go_simp⟩) hH ?_
  simp only [Act.put]
  refine wpAnyH_take (i := 7) (v := .int .u8 ((x1 : Int) / 16)) rfl (by kernel_rfl) (by kernel_rfl) (by kernel_rfl) (fun _ _ _ h => h) (Or.inl ⟨by rfl, fun w' hS => by go_simp; exact wrap_u8 (by omega) (by omega)⟩) hH ?_
  simp only [Act.put]
  refine wpAnyH_take (i := 8) (v := .int .i64 ((x1 : Int) / 16)) rfl (by kernel_rfl) (by kernel_rfl) (by kernel_rfl) (fun _ _ _ h => h) (Or.inl ⟨by rfl, fun w' hS => by go_simp; exact wrap_i64 (by omega) (by omega)⟩) hH ?_
  simp only [Act.put]
  refine wpAnyH_take (i := 9) (v := .slice (some ad) 5 c) rfl (by kernel_rfl) (by kernel_rfl) (by kernel_rfl) (fun _ _ _ h => h) (Or.inl ⟨by rfl, fun w' hS => by go_simp⟩) hH ?_
  simp only [Act.put]
  refine wpAnyH_take (i := 10) (v := .pointer (some ⟨ad.block, ad.off + 1, none⟩)) rfl (by kernel_rfl) (by kernel_rfl) (by kernel_rfl) (fun _ _ _ h => h) (Or.inl ⟨by rfl, fun w' hS => by go_simp⟩) hH ?_
  simp only [Act.put]
  refine wpAnyH_take (i := 11) (v := .int .u8 (x1 : Int)) rfl (by kernel_rfl) (by kernel_rfl) (by kernel_rfl) (fun _ _ _ h => h) (Or.inl ⟨by rfl, fun w' hS => by have s1 := cell_later hS C1.out; go_simp⟩) hH ?_
  simp only [Act.put]
  refine wpAnyH_take (i := 12) (v := .int .u8 ((x1 : Int) % 16)) rfl (by kernel_rfl) (by kernel_rfl) (by kernel_rfl) (fun _ _ _ h => h) (Or.inl ⟨by rfl, fun w' hS => by go_simp; first | omega | exact Int.tmod_eq_emod_of_nonneg (by omega)⟩) hH ?_
  simp only [Act.put]
  refine wpAnyH_take (i := 13) (v := .int .i64 ((x1 : Int) % 16)) rfl (by kernel_rfl) (by kernel_rfl) (by kernel_rfl) (fun _ _ _ h => h) (Or.inl ⟨by rfl, fun w' hS => by go_simp; exact wrap_i64 (by omega) (by omega)⟩) hH ?_
  simp only [Act.put]
  refine wpAnyH_take (i := 14) (v := .slice (some ad) 5 c) rfl (by kernel_rfl) (by kernel_rfl) (by kernel_rfl) (fun _ _ _ h => h) (Or.inl ⟨by rfl, fun w' hS => by go_simp⟩) hH ?_
  simp only [Act.put]
  refine wpAnyH_take (i := 15) (v := .pointer (some ⟨ad.block, ad.off + 2, none⟩)) rfl (by kernel_rfl) (by kernel_rfl) (by kernel_rfl) (fun _ _ _ h => h) (Or.inl ⟨by rfl, fun w' hS => by go_simp⟩) hH ?_
  simp only [Act.put]
  refine wpAnyH_take (i := 16) (v := .int .u8 (x2 : Int)) rfl (by kernel_rfl) (by kernel_rfl) (by kernel_rfl) (fun _ _ _ h => h) (Or.inl ⟨by rfl, fun w' hS => by have s1 := cell_later hS C2.out; go_simp⟩) hH ?_
  simp only [Act.put]
  refine wpAnyH_take (i := 17) (v := .int .i64 (x2 : Int)) rfl (by kernel_rfl) (by kernel_rfl) (by kernel_rfl) (fun _ _ _ h => h) (Or.inl ⟨by rfl, fun w' hS => by go_simp; exact wrap_i64 (by omega) (by omega)⟩) hH ?_
  simp only [Act.put]
  refine wpAnyH_take (i := 18) (v := .slice (some ad) 5 c) rfl (by kernel_rfl) (by kernel_rfl) (by kernel_rfl) (fun _ _ _ h => h) (Or.inl ⟨by rfl, fun w' hS => by go_simp⟩) hH ?_
  simp only [Act.put]
  refine wpAnyH_take (i := 19) (v := .pointer (some ⟨ad.block, ad.off + 3, none⟩)) rfl (by kernel_rfl) (by kernel_rfl) (by kernel_rfl) (fun _ _ _ h => h) (Or.inl ⟨by rfl, fun w' hS => by go_simp⟩) hH ?_
  simp only [Act.put]
  refine wpAnyH_take (i := 20) (v := .int .u8 (x3 : Int)) rfl (by kernel_rfl) (by kernel_rfl) (by kernel_rfl) (fun _ _ _ h => h) (Or.inl ⟨by rfl, fun w' hS => by have s1 := cell_later hS C3.out; go_simp⟩) hH ?_
  simp only [Act.put]
  refine wpAnyH_take (i := 21) (v := .float .f64 (floatOfInt .f64 (x3 : Int))) rfl (by kernel_rfl) (by kernel_rfl) (by kernel_rfl) (fun _ _ _ h => h) (Or.inl ⟨by rfl, fun w' hS => by go_simp⟩) hH ?_
  simp only [Act.put]
  refine wpAnyH_take (i := 22) (v := .slice (some ad) 5 c) rfl (by kernel_rfl) (by kernel_rfl) (by kernel_rfl) (fun _ _ _ h => h) (Or.inl ⟨by rfl, fun w' hS => by go_simp⟩) hH ?_
  simp only [Act.put]
  refine wpAnyH_take (i := 23) (v := .pointer (some ⟨ad.block, ad.off + 4, none⟩)) rfl (by kernel_rfl) (by kernel_rfl) (by kernel_rfl) (fun _ _ _ h => h) (Or.inl ⟨by rfl, fun w' hS => by go_simp⟩) hH ?_
  simp only [Act.put]
  refine wpAnyH_take (i := 24) (v := .int .u8 (x4 : Int)) rfl (by kernel_rfl) (by kernel_rfl) (by kernel_rfl) (fun _ _ _ h => h) (Or.inl ⟨by rfl, fun w' hS => by have s1 := cell_later hS C4.out; go_simp⟩) hH ?_
  simp only [Act.put]
  refine wpAnyH_take (i := 25) (v := .float .f64 (floatOfInt .f64 (x4 : Int))) rfl (by kernel_rfl) (by kernel_rfl) (by kernel_rfl) (fun _ _ _ h => h) (Or.inl ⟨by rfl, fun w' hS => by go_simp⟩) hH ?_
  simp only [Act.put]
  refine wpAnyH_take (i := 26) (v := .complex .f64 (floatOfInt .f64 (x3 : Int)) (floatOfInt .f64 (x4 : Int))) rfl (by kernel_rfl) (by kernel_rfl) (by kernel_rfl) (fun _ _ _ h => h) (Or.inl ⟨by rfl, fun w' hS => by go_simp⟩) hH ?_
  simp only [Act.put]
  refine wpAnyH_take (i := 27) (v := .agg #[.int .i64 (x0 : Int), .int .i64 ((x1 : Int) / 16), .int .i64 ((x1 : Int) % 16), .int .i64 (x2 : Int), .complex .f64 (floatOfInt .f64 (x3 : Int)) (floatOfInt .f64 (x4 : Int))]) rfl (by kernel_rfl) (by kernel_rfl) (by kernel_rfl) (fun _ _ _ h => h) (Or.inl ⟨by rfl, fun w' hS => by go_simp⟩) hH ?_
  simp only [Act.put]
  refine wpAnyH_ready (rs := [28]) (by kernel_rfl) (by simp) ?_
  refine AllReadyH.cons rfl (fun K_ hK_ => ?_) AllReadyH.nil
  go_simp
  refine hK_.out _ _ (by rw [← hw1]; exact ((Below.refl _ w1).alloc (Nat.le_refl _) _).drew) (fun hH => ?_)
  clear hK_ K_ hH
  have hH2 : Below w1.heap.size w1 ((w1.alloc (.cells #[.int .i64 (x0 : Int), .int .i64 ((x1 : Int) / 16), .int .i64 ((x1 : Int) % 16), .int .i64 (x2 : Int), .complex .f64 (floatOfInt .f64 (x3 : Int)) (floatOfInt .f64 (x4 : Int))] 52)).drew) := ((Below.refl _ w1).alloc (Nat.le_refl _) _).drew
  refine wpAnyH_ready (rs := [29]) (by kernel_rfl) (by simp) ?_
  refine AllReadyH.cons rfl (fun K_ hK_ => ?_) AllReadyH.nil
  go_simp
  refine hK_.out _ _ (by rw [← hw1]; exact hH2) (fun hH => ?_)
  clear hK_ K_ hH hH2
  refine wpAnyH_done (by kernel_rfl) ?_ _
  have CK : Hid (∀ W, Calls Try.prog 28 #[.agg #[.int .i64 (x0 : Int), .int .i64 ((x1 : Int) / 16), .int .i64 ((x1 : Int) % 16), .int .i64 (x2 : Int), .complex .f64 (floatOfInt .f64 (x3 : Int)) (floatOfInt .f64 (x4 : Int))]] W (Checked_ (delOf f) W)) := Lib.hid fun W => by
    have h := dcheck_any (delOf f) W (by rw [E.out]; exact s3) (by rw [E.out]; exact s4)
    have ev : (delOf f).val = .agg #[.int .i64 (x0 : Int), .int .i64 ((x1 : Int) / 16), .int .i64 ((x1 : Int) % 16), .int .i64 (x2 : Int), .complex .f64 (floatOfInt .f64 (x3 : Int)) (floatOfInt .f64 (x4 : Int))] := by rw [E.out]; rfl
    rw [ev] at h
    exact h
  obtain ⟨w2, hw2⟩ : ∃ w2, w2 = (w1.alloc (.cells #[.int .i64 (x0 : Int), .int .i64 ((x1 : Int) / 16), .int .i64 ((x1 : Int) % 16), .int .i64 (x2 : Int), .complex .f64 (floatOfInt .f64 (x3 : Int)) (floatOfInt .f64 (x4 : Int))] 52)).drew := ⟨_, rfl⟩
  have B2 : Hid (Below w.heap.size w w2) := Lib.hid (by rw [hw2]; exact (B1.out.alloc B1.out.size _).drew)
  have G0 : Hid (w2.heap[w.heap.size]? = some (.cells #[.int .i64 0, .int .i64 0, .int .i64 0, .int .i64 0, .complex .f64 0 0] 52 (0, 0))) := Lib.hid (by
    have hb : Below w1.heap.size w1 w2 := by rw [hw2]; exact ((Below.refl _ w1).alloc (Nat.le_refl _) _).drew
    rw [hw1] at hb
    exact five_later hb)
  have G1 : Hid (w2.heap[w.heap.size + 1]? = some (.cells #[.int .i64 (x0 : Int), .int .i64 ((x1 : Int) / 16), .int .i64 ((x1 : Int) % 16), .int .i64 (x2 : Int), .complex .f64 (floatOfInt .f64 (x3 : Int)) (floatOfInt .f64 (x4 : Int))] 52 (0, 0))) := Lib.hid (by rw [hw2, hw1]; exact second_new w _ _)
  rw [← hw1, ← hw2]
  clear hw2 hw1 B1 C0 C1 C2 C3 C4
  obtain ⟨q0, q1, q2, q3, q4⟩ := five_cells G1.out
  go_wp2_with fail
  with_reducible refine (CK.out w2).mono ?_
  rintro e w3 ⟨⟨x, rfl, hx⟩, hb3⟩
  have B3 : Hid (Below w.heap.size w w3) := Lib.hid (B2.out.trans (hb3.mono B2.out.size))
  have K0 : Hid (w3.heap[w.heap.size]? = some (.cells #[.int .i64 0, .int .i64 0, .int .i64 0, .int .i64 0, .complex .f64 0 0] 52 (0, 0))) := Lib.hid ((hb3.block _ (Array.getElem?_eq_some_iff.1 G0.out).1).trans G0.out)
  have K1 : Hid (w3.heap[w.heap.size + 1]? = some (.cells #[.int .i64 (x0 : Int), .int .i64 ((x1 : Int) / 16), .int .i64 ((x1 : Int) % 16), .int .i64 (x2 : Int), .complex .f64 (floatOfInt .f64 (x3 : Int)) (floatOfInt .f64 (x4 : Int))] 52 (0, 0))) := Lib.hid ((hb3.block _ (Array.getElem?_eq_some_iff.1 G1.out).1).trans G1.out)
  clear hb3 q0 q1 q2 q3 q4 G0 G1 B2
  obtain ⟨q0, q1, q2, q3, q4⟩ := five_cells K1.out
  by_cases hval : Valid (delOf f)
  · obtain rfl : x = 0 := hx.2 hval
    have VV := Lib.hid hval
    obtain ⟨w4, hw4, h4, a4, r0, f0, r1, f1, r2, f2, r3, f3, r4, f4⟩ := five_put K0.out (.int .i64 (x0 : Int)) (.int .i64 ((x1 : Int) / 16)) (.int .i64 ((x1 : Int) % 16)) (.int .i64 (x2 : Int)) (.complex .f64 (floatOfInt .f64 (x3 : Int)) (floatOfInt .f64 (x4 : Int)))
    have H4 := Lib.hid h4
    have B4 : Hid (Below w.heap.size w w4) := Lib.hid (B3.out.trans (a4.below B3.out.size fun k hk e => by omega))
    clear hx hval h4 a4
    go_wp2_with (rw [← hw4]; clear hw4 r0 f0 r1 f1 r2 f2 r3 f3 r4 f4)
    refine bodyPost_ret (del_results (fn := Try.f33) rfl _ _ w.heap.size 52 _ (0, 0) _ rfl H4.out Try.underlying52 rfl delta_size) rfl ?_
    exact ⟨.inl ⟨rfl, VV.out, by rw [E.out]; rfl⟩, B4.out⟩
  · have h0 : (x != 0) = true := by simpa using fun h => hval (hx.1 h)
    have VV := Lib.hid hval
    obtain ⟨w4, hw4, h4, a4, r0, f0, r1, f1, r2, f2, r3, f3, r4, f4⟩ := five_put K0.out (.int .i64 0) (.int .i64 0) (.int .i64 0) (.int .i64 0) (.complex .f64 0 0)
    have H4 := Lib.hid h4
    have B4 : Hid (Below w.heap.size w w4) := Lib.hid (B3.out.trans (a4.below B3.out.size fun k hk e => by omega))
    clear hx hval h4 a4
    go_wp2_with (rw [← hw4]; clear hw4 r0 f0 r1 f1 r2 f2 r3 f3 r4 f4)
    refine bodyPost_ret (del_results (fn := Try.f33) rfl _ _ w.heap.size 52 _ (0, 0) _ rfl H4.out Try.underlying52 rfl delta_size) rfl ?_
    exact ⟨.inr ⟨fun h => VV.out h.2, 2, by omega, rfl⟩, B4.out⟩
end Go.Proofs.Ytmgeifolgdgapaa

namespace Go.Proofs.Ytmgeifolgdgapaa
open Go.RowKit

theorem makeB (x y : Int) (w : World) :
    Calls Try.prog 37 #[.int .i64 x, .int .i64 y] w fun e w' => e = .returned (.complex .f64 (floatOfInt .f64 x) (floatOfInt .f64 y)) ∧ w' = w := by
  go_enter Try.func37, Try.ntmps37
  go_wp2
  go_ret
  exact ⟨rfl, rfl⟩

set_option maxRecDepth 100000 in
set_option maxHeartbeats 1600000 in
theorem refDecodeD_any (ad : Addr) (c : Nat) (f : Nat → Nat) (w : World) (hv : BytesAt w (some ad) 5 f) :
    Calls Try.prog 24 #[.slice (some ad) 5 c] w (Decoded 5 f w) := by
  have hst := put_complex
  have hmx : Try.prog.follows .mixedOrders = true := by kernel_rfl
  have c0 := hv.at_ (i := 0) (by omega)
  have c1 := hv.at_ (i := 1) (by omega)
  have c2 := hv.at_ (i := 2) (by omega)
  have c3 := hv.at_ (i := 3) (by omega)
  have c4 := hv.at_ (i := 4) (by omega)
  have s0 := hv.small 0 (by omega)
  have s1 := hv.small 1 (by omega)
  have s2 := hv.small 2 (by omega)
  have s3 := hv.small 3 (by omega)
  have s4 := hv.small 4 (by omega)
  obtain ⟨x0, e0⟩ : ∃ x, x = f 0 := ⟨_, rfl⟩
  obtain ⟨x1, e1⟩ : ∃ x, x = f 1 := ⟨_, rfl⟩
  obtain ⟨x2, e2⟩ : ∃ x, x = f 2 := ⟨_, rfl⟩
  obtain ⟨x3, e3⟩ : ∃ x, x = f 3 := ⟨_, rfl⟩
  obtain ⟨x4, e4⟩ : ∃ x, x = f 4 := ⟨_, rfl⟩
  have E : Hid (delOf f = ⟨x0, x1 / 16, x1 % 16, x2, x3, x4⟩) := Lib.hid (by unfold delOf; rw [e0, e1, e2, e3, e4])
  rw [← e0] at c0 s0
  rw [← e1] at c1 s1
  rw [← e2] at c2 s2
  rw [← e3] at c3 s3
  rw [← e4] at c4 s4
  clear hv e0 e1 e2 e3 e4
  have c0' : w.cell? ad = some (.int .u8 (x0 : Int)) := by simpa [Addr.add] using c0
  obtain ⟨w1, hw1⟩ : ∃ w1, w1 = w.alloc (.cells #[.int .i64 0, .int .i64 0, .int .i64 0, .int .i64 0, .complex .f64 0 0] 52) := ⟨_, rfl⟩
  have hb1 : Below w.heap.size w w1 := by rw [hw1]; exact (Below.refl _ w).alloc (Nat.le_refl _) _
  have C0 : Hid (w1.cell? ad = some (.int .u8 (x0 : Int))) := Lib.hid (cell_later hb1 c0')
  have C1 : Hid (w1.cell? ⟨ad.block, ad.off + 1, none⟩ = some (.int .u8 (x1 : Int))) := Lib.hid (cell_later hb1 c1)
  have C2 : Hid (w1.cell? ⟨ad.block, ad.off + 2, none⟩ = some (.int .u8 (x2 : Int))) := Lib.hid (cell_later hb1 c2)
  have C3 : Hid (w1.cell? ⟨ad.block, ad.off + 3, none⟩ = some (.int .u8 (x3 : Int))) := Lib.hid (cell_later hb1 c3)
  have C4 : Hid (w1.cell? ⟨ad.block, ad.off + 4, none⟩ = some (.int .u8 (x4 : Int))) := Lib.hid (cell_later hb1 c4)
  have B1 := Lib.hid hb1
  clear hb1 c0 c0' c1 c2 c3 c4
  go_enter Try.func24, Try.ntmps24
  go_wp2
  rw [← hw1]
  refine wp_region_held_drew (S := fun w' => Below w1.heap.size w1 w') (by kernel_rfl) ((Below.refl _ _).drew) (fun hH => ?_)
  refine wpAnyH_take (i := 0) (v := .slice (some ad) 5 c) rfl (by kernel_rfl) (by kernel_rfl) (by kernel_rfl) (fun _ _ _ h => h) (Or.inl ⟨by rfl, fun w' hS => by go_simp⟩) hH ?_
  simp only [Act.put, List.setIfInBounds_toArray]
  refine wpAnyH_take (i := 1) (v := .pointer (some ad)) rfl (by kernel_rfl) (by kernel_rfl) (by kernel_rfl) (fun _ _ _ h => h) (Or.inl ⟨by rfl, fun w' hS => by go_simp⟩) hH ?_
  simp only [Act.put]
  refine wpAnyH_take (i := 2) (v := .int .u8 (x0 : Int)) rfl (by kernel_rfl) (by kernel_rfl) (by kernel_rfl) (fun _ _ _ h => h) (Or.inl ⟨by rfl, fun w' hS => by have s1 := cell_later hS C0.out; go_simp⟩) hH ?_
  simp only [Act.put]
  refine wpAnyH_take (i := 3) (v := .int .i64 (x0 : Int)) rfl (by kernel_rfl) (by kernel_rfl) (by kernel_rfl) (fun _ _ _ h => h) (Or.inl ⟨by rfl, fun w' hS => by go_simp; exact wrap_i64 (by omega) (by omega)⟩) hH ?_
  simp only [Act.put]
  refine wpAnyH_take (i := 4) (v := .slice (some ad) 5 c) rfl (by kernel_rfl) (by kernel_rfl) (by kernel_rfl) (fun _ _ _ h => h) (Or.inl ⟨by rfl, fun w' hS => by go_simp⟩) hH ?_
  simp only [Act.put]
  refine wpAnyH_take (i := 5) (v := .pointer (some ⟨ad.block, ad.off + 1, none⟩)) rfl (by kernel_rfl) (by kernel_rfl) (by kernel_rfl) (fun _ _ _ h => h) (Or.inl ⟨by rfl, fun w' hS => by go_simp⟩) hH ?_
  simp only [Act.put]
  refine wpAnyH_take (i := 6) (v := .int .u8 (x1 : Int)) rfl (by kernel_rfl) (by kernel_rfl) (by kernel_rfl) (fun _ _ _ h => h) (Or.inl ⟨by rfl, fun w' hS => by have s1 := cell_later hS C1.out; go_simp⟩) hH ?_
  simp only [Act.put]
  refine wpAnyH_take (i := 7) (v := .int .i64 (x1 : Int)) rfl (by kernel_rfl) (by kernel_rfl) (by kernel_rfl) (fun _ _ _ h => h) (Or.inl ⟨by rfl, fun w' hS => by go_simp; exact wrap_i64 (by omega) (by omega)⟩) hH ?_
  simp only [Act.put]
  refine wpAnyH_take (i := 8) (v := .int .i64 ((x1 : Int) / 16)) rfl (by kernel_rfl) (by kernel_rfl) (by kernel_rfl) (fun _ _ _ h => h) (Or.inl ⟨by rfl, fun w' hS => by first | (go_simp; done) | (go_simp; omega) | (go_simp; exact wrap_i64 (by omega) (by omega)) | (go_simp; exact Int.tmod_eq_emod_of_nonneg (by omega))⟩) hH ?_
  simp only [Act.put]
  refine wpAnyH_take (i := 9) (v := .slice (some ad) 5 c) rfl (by kernel_rfl) (by kernel_rfl) (by kernel_rfl) (fun _ _ _ h => h) (Or.inl ⟨by rfl, fun w' hS => by go_simp⟩) hH ?_
  simp only [Act.put]
  refine wpAnyH_take (i := 10) (v := .pointer (some ⟨ad.block, ad.off + 1, none⟩)) rfl (by kernel_rfl) (by kernel_rfl) (by kernel_rfl) (fun _ _ _ h => h) (Or.inl ⟨by rfl, fun w' hS => by go_simp⟩) hH ?_
  simp only [Act.put]
  refine wpAnyH_take (i := 11) (v := .int .u8 (x1 : Int)) rfl (by kernel_rfl) (by kernel_rfl) (by kernel_rfl) (fun _ _ _ h => h) (Or.inl ⟨by rfl, fun w' hS => by have s1 := cell_later hS C1.out; go_simp⟩) hH ?_
  simp only [Act.put]
  refine wpAnyH_take (i := 12) (v := .int .i64 (x1 : Int)) rfl (by kernel_rfl) (by kernel_rfl) (by kernel_rfl) (fun _ _ _ h => h) (Or.inl ⟨by rfl, fun w' hS => by go_simp; exact wrap_i64 (by omega) (by omega)⟩) hH ?_
  simp only [Act.put]
  refine wpAnyH_take (i := 13) (v := .int .i64 ((x1 : Int) % 16)) rfl (by kernel_rfl) (by kernel_rfl) (by kernel_rfl) (fun _ _ _ h => h) (Or.inl ⟨by rfl, fun w' hS => by first | (go_simp; done) | (go_simp; omega) | (go_simp; exact wrap_i64 (by omega) (by omega)) | (go_simp; exact Int.tmod_eq_emod_of_nonneg (by omega))⟩) hH ?_
  simp only [Act.put]
  refine wpAnyH_take (i := 14) (v := .slice (some ad) 5 c) rfl (by kernel_rfl) (by kernel_rfl) (by kernel_rfl) (fun _ _ _ h => h) (Or.inl ⟨by rfl, fun w' hS => by go_simp⟩) hH ?_
  simp only [Act.put]
  refine wpAnyH_take (i := 15) (v := .pointer (some ⟨ad.block, ad.off + 2, none⟩)) rfl (by kernel_rfl) (by kernel_rfl) (by kernel_rfl) (fun _ _ _ h => h) (Or.inl ⟨by rfl, fun w' hS => by go_simp⟩) hH ?_
  simp only [Act.put]
  refine wpAnyH_take (i := 16) (v := .int .u8 (x2 : Int)) rfl (by kernel_rfl) (by kernel_rfl) (by kernel_rfl) (fun _ _ _ h => h) (Or.inl ⟨by rfl, fun w' hS => by have s1 := cell_later hS C2.out; go_simp⟩) hH ?_
  simp only [Act.put]
  refine wpAnyH_take (i := 17) (v := .int .i64 (x2 : Int)) rfl (by kernel_rfl) (by kernel_rfl) (by kernel_rfl) (fun _ _ _ h => h) (Or.inl ⟨by rfl, fun w' hS => by go_simp; exact wrap_i64 (by omega) (by omega)⟩) hH ?_
  simp only [Act.put]
  refine wpAnyH_take (i := 18) (v := .slice (some ad) 5 c) rfl (by kernel_rfl) (by kernel_rfl) (by kernel_rfl) (fun _ _ _ h => h) (Or.inl ⟨by rfl, fun w' hS => by go_simp⟩) hH ?_
  simp only [Act.put]
  refine wpAnyH_take (i := 19) (v := .pointer (some ⟨ad.block, ad.off + 3, none⟩)) rfl (by kernel_rfl) (by kernel_rfl) (by kernel_rfl) (fun _ _ _ h => h) (Or.inl ⟨by rfl, fun w' hS => by go_simp⟩) hH ?_
  simp only [Act.put]
  refine wpAnyH_take (i := 20) (v := .int .u8 (x3 : Int)) rfl (by kernel_rfl) (by kernel_rfl) (by kernel_rfl) (fun _ _ _ h => h) (Or.inl ⟨by rfl, fun w' hS => by have s1 := cell_later hS C3.out; go_simp⟩) hH ?_
  simp only [Act.put]
  refine wpAnyH_take (i := 21) (v := .int .i64 (x3 : Int)) rfl (by kernel_rfl) (by kernel_rfl) (by kernel_rfl) (fun _ _ _ h => h) (Or.inl ⟨by rfl, fun w' hS => by go_simp; exact wrap_i64 (by omega) (by omega)⟩) hH ?_
  simp only [Act.put]
  refine wpAnyH_take (i := 22) (v := .slice (some ad) 5 c) rfl (by kernel_rfl) (by kernel_rfl) (by kernel_rfl) (fun _ _ _ h => h) (Or.inl ⟨by rfl, fun w' hS => by go_simp⟩) hH ?_
  simp only [Act.put]
  refine wpAnyH_take (i := 23) (v := .pointer (some ⟨ad.block, ad.off + 4, none⟩)) rfl (by kernel_rfl) (by kernel_rfl) (by kernel_rfl) (fun _ _ _ h => h) (Or.inl ⟨by rfl, fun w' hS => by go_simp⟩) hH ?_
  simp only [Act.put]
  refine wpAnyH_take (i := 24) (v := .int .u8 (x4 : Int)) rfl (by kernel_rfl) (by kernel_rfl) (by kernel_rfl) (fun _ _ _ h => h) (Or.inl ⟨by rfl, fun w' hS => by have s1 := cell_later hS C4.out; go_simp⟩) hH ?_
  simp only [Act.put]
  refine wpAnyH_take (i := 25) (v := .int .i64 (x4 : Int)) rfl (by kernel_rfl) (by kernel_rfl) (by kernel_rfl) (fun _ _ _ h => h) (Or.inl ⟨by rfl, fun w' hS => by go_simp; exact wrap_i64 (by omega) (by omega)⟩) hH ?_
  simp only [Act.put]
  have MK := fun W => makeB (x3 : Int) (x4 : Int) W
  have HMK := Lib.hid MK
  clear MK
  refine wpAnyH_ready (rs := [26, 28]) (by kernel_rfl) (by simp) ?_
  refine AllReadyH.cons rfl (fun K_ hK_ => ?_) (AllReadyH.cons rfl (fun K_ hK_ => ?_) AllReadyH.nil)
  · go_simp
    refine (HMK.out _).mono ?_
    rintro e u1 ⟨rfl, rfl⟩
    refine hK_.out _ _ (by rw [← hw1]; exact (Below.refl _ w1).drew) (fun hH => ?_)
    clear hK_ K_
    refine wpAnyH_take (i := 27) (v := .agg #[.int .i64 (x0 : Int), .int .i64 ((x1 : Int) / 16), .int .i64 ((x1 : Int) % 16), .int .i64 (x2 : Int), .complex .f64 (floatOfInt .f64 (x3 : Int)) (floatOfInt .f64 (x4 : Int))]) rfl (by kernel_rfl) (by kernel_rfl) (by kernel_rfl) (fun _ _ _ h => h) (Or.inl ⟨by rfl, fun w' hS => by go_simp⟩) hH ?_
    simp only [Act.put, List.setIfInBounds_toArray]
    refine wpAnyH_ready (rs := [28]) (by kernel_rfl) (by simp) ?_
    refine AllReadyH.cons rfl (fun K_ hK_ => ?_) AllReadyH.nil
    go_simp
    refine hK_.out _ _ (by rw [← hw1]; exact ((Below.refl _ w1).alloc (Nat.le_refl _) _).drew) (fun hH => ?_)
    clear hK_ K_ hH
    refine wpAnyH_ready (rs := [29]) (by kernel_rfl) (by simp) ?_
    refine AllReadyH.cons rfl (fun K_ hK_ => ?_) AllReadyH.nil
    go_simp
    refine hK_.out _ _ (by rw [← hw1]; exact ((Below.refl _ w1).alloc (Nat.le_refl _) (.cells #[.int .i64 (x0 : Int), .int .i64 ((x1 : Int) / 16), .int .i64 ((x1 : Int) % 16), .int .i64 (x2 : Int), .complex .f64 (floatOfInt .f64 (x3 : Int)) (floatOfInt .f64 (x4 : Int))] 52)).drew) (fun hH => ?_)
    clear hK_ K_ hH
    refine wpAnyH_done (by kernel_rfl) ?_ _
    have CK : Hid (∀ W, Calls Try.prog 38 #[.agg #[.int .i64 (x0 : Int), .int .i64 ((x1 : Int) / 16), .int .i64 ((x1 : Int) % 16), .int .i64 (x2 : Int), .complex .f64 (floatOfInt .f64 (x3 : Int)) (floatOfInt .f64 (x4 : Int))]] W (Checked_ (delOf f) W)) := Lib.hid fun W => by
      have h := refCheck_any (delOf f) W (by rw [E.out]; exact s3) (by rw [E.out]; exact s4)
      have ev : (delOf f).val = .agg #[.int .i64 (x0 : Int), .int .i64 ((x1 : Int) / 16), .int .i64 ((x1 : Int) % 16), .int .i64 (x2 : Int), .complex .f64 (floatOfInt .f64 (x3 : Int)) (floatOfInt .f64 (x4 : Int))] := by rw [E.out]; rfl
      rw [ev] at h
      exact h
    obtain ⟨w2, hw2⟩ : ∃ w2, w2 = (w1.alloc (.cells #[.int .i64 (x0 : Int), .int .i64 ((x1 : Int) / 16), .int .i64 ((x1 : Int) % 16), .int .i64 (x2 : Int), .complex .f64 (floatOfInt .f64 (x3 : Int)) (floatOfInt .f64 (x4 : Int))] 52)).drew := ⟨_, rfl⟩
    have B2 : Hid (Below w.heap.size w w2) := Lib.hid (by rw [hw2]; exact (B1.out.alloc B1.out.size _).drew)
    have G0 : Hid (w2.heap[w.heap.size]? = some (.cells #[.int .i64 0, .int .i64 0, .int .i64 0, .int .i64 0, .complex .f64 0 0] 52 (0, 0))) := Lib.hid (by
      have hb : Below w1.heap.size w1 w2 := by rw [hw2]; exact ((Below.refl _ w1).alloc (Nat.le_refl _) _).drew
      rw [hw1] at hb
      exact five_later hb)
    have G1 : Hid (w2.heap[w.heap.size + 1]? = some (.cells #[.int .i64 (x0 : Int), .int .i64 ((x1 : Int) / 16), .int .i64 ((x1 : Int) % 16), .int .i64 (x2 : Int), .complex .f64 (floatOfInt .f64 (x3 : Int)) (floatOfInt .f64 (x4 : Int))] 52 (0, 0))) := Lib.hid (by rw [hw2, hw1]; exact second_new w _ _)
    rw [← hw1, ← hw2]
    clear hw2 hw1 B1 C0 C1 C2 C3 C4
    obtain ⟨q0, q1, q2, q3, q4⟩ := five_cells G1.out
    go_wp2_with fail
    with_reducible refine (CK.out w2).mono ?_
    rintro e w3 ⟨⟨x, rfl, hx⟩, hb3⟩
    have B3 : Hid (Below w.heap.size w w3) := Lib.hid (B2.out.trans (hb3.mono B2.out.size))
    have K0 : Hid (w3.heap[w.heap.size]? = some (.cells #[.int .i64 0, .int .i64 0, .int .i64 0, .int .i64 0, .complex .f64 0 0] 52 (0, 0))) := Lib.hid ((hb3.block _ (Array.getElem?_eq_some_iff.1 G0.out).1).trans G0.out)
    have K1 : Hid (w3.heap[w.heap.size + 1]? = some (.cells #[.int .i64 (x0 : Int), .int .i64 ((x1 : Int) / 16), .int .i64 ((x1 : Int) % 16), .int .i64 (x2 : Int), .complex .f64 (floatOfInt .f64 (x3 : Int)) (floatOfInt .f64 (x4 : Int))] 52 (0, 0))) := Lib.hid ((hb3.block _ (Array.getElem?_eq_some_iff.1 G1.out).1).trans G1.out)
    clear hb3 q0 q1 q2 q3 q4 G0 G1 B2
    obtain ⟨q0, q1, q2, q3, q4⟩ := five_cells K1.out
    by_cases hval : Valid (delOf f)
    · obtain rfl : x = 0 := hx.2 hval
      have VV := Lib.hid hval
      obtain ⟨w4, hw4, h4, a4, r0, f0, r1, f1, r2, f2, r3, f3, r4, f4⟩ := five_put K0.out (.int .i64 (x0 : Int)) (.int .i64 ((x1 : Int) / 16)) (.int .i64 ((x1 : Int) % 16)) (.int .i64 (x2 : Int)) (.complex .f64 (floatOfInt .f64 (x3 : Int)) (floatOfInt .f64 (x4 : Int)))
      have H4 := Lib.hid h4
      have B4 : Hid (Below w.heap.size w w4) := Lib.hid (B3.out.trans (a4.below B3.out.size fun k hk e => by omega))
      clear hx hval h4 a4
      go_wp2_with (rw [← hw4]; clear hw4 r0 f0 r1 f1 r2 f2 r3 f3 r4 f4)
      refine bodyPost_ret (del_results (fn := Try.f24) rfl _ _ w.heap.size 52 _ (0, 0) _ rfl H4.out Try.underlying52 rfl delta_size) rfl ?_
      exact ⟨.inl ⟨rfl, VV.out, by rw [E.out]; rfl⟩, B4.out⟩
    · have h0 : (x != 0) = true := by simpa using fun h => hval (hx.1 h)
      have VV := Lib.hid hval
      obtain ⟨w4, hw4, h4, a4, r0, f0, r1, f1, r2, f2, r3, f3, r4, f4⟩ := five_put K0.out (.int .i64 0) (.int .i64 0) (.int .i64 0) (.int .i64 0) (.complex .f64 0 0)
      have H4 := Lib.hid h4
      have B4 : Hid (Below w.heap.size w w4) := Lib.hid (B3.out.trans (a4.below B3.out.size fun k hk e => by omega))
      clear hx hval h4 a4
      go_wp2_with (rw [← hw4]; clear hw4 r0 f0 r1 f1 r2 f2 r3 f3 r4 f4)
      refine bodyPost_ret (del_results (fn := Try.f24) rfl _ _ w.heap.size 52 _ (0, 0) _ rfl H4.out Try.underlying52 rfl delta_size) rfl ?_
      exact ⟨.inr ⟨fun h => VV.out h.2, 2, by omega, rfl⟩, B4.out⟩
  · go_simp
    refine hK_.out _ _ (by rw [← hw1]; exact ((Below.refl _ w1).alloc (Nat.le_refl _) _).drew) (fun hH => ?_)
    clear hK_ K_
    refine wpAnyH_ready (rs := [26]) (by kernel_rfl) (by simp) ?_
    refine AllReadyH.cons rfl (fun K_ hK_ => ?_) AllReadyH.nil
    go_simp
    refine (HMK.out _).mono ?_
    rintro e u1 ⟨rfl, rfl⟩
    refine hK_.out _ _ (by rw [← hw1]; exact ((Below.refl _ w1).alloc (Nat.le_refl _) _).drew) (fun hH => ?_)
    clear hK_ K_
    refine wpAnyH_take (i := 27) (v := .agg #[.int .i64 (x0 : Int), .int .i64 ((x1 : Int) / 16), .int .i64 ((x1 : Int) % 16), .int .i64 (x2 : Int), .complex .f64 (floatOfInt .f64 (x3 : Int)) (floatOfInt .f64 (x4 : Int))]) rfl (by kernel_rfl) (by kernel_rfl) (by kernel_rfl) (fun _ _ _ h => h) (Or.inl ⟨by rfl, fun w' hS => by go_simp⟩) hH ?_
    simp only [Act.put, List.setIfInBounds_toArray]
    clear hH
    refine wpAnyH_ready (rs := [29]) (by kernel_rfl) (by simp) ?_
    refine AllReadyH.cons rfl (fun K_ hK_ => ?_) AllReadyH.nil
    go_simp
    refine hK_.out _ _ (by rw [← hw1]; exact ((Below.refl _ w1).alloc (Nat.le_refl _) (.cells #[.int .i64 (x0 : Int), .int .i64 ((x1 : Int) / 16), .int .i64 ((x1 : Int) % 16), .int .i64 (x2 : Int), .complex .f64 (floatOfInt .f64 (x3 : Int)) (floatOfInt .f64 (x4 : Int))] 52)).drew) (fun hH => ?_)
    clear hK_ K_ hH
    refine wpAnyH_done (by kernel_rfl) ?_ _
    have CK : Hid (∀ W, Calls Try.prog 38 #[.agg #[.int .i64 (x0 : Int), .int .i64 ((x1 : Int) / 16), .int .i64 ((x1 : Int) % 16), .int .i64 (x2 : Int), .complex .f64 (floatOfInt .f64 (x3 : Int)) (floatOfInt .f64 (x4 : Int))]] W (Checked_ (delOf f) W)) := Lib.hid fun W => by
      have h := refCheck_any (delOf f) W (by rw [E.out]; exact s3) (by rw [E.out]; exact s4)
      have ev : (delOf f).val = .agg #[.int .i64 (x0 : Int), .int .i64 ((x1 : Int) / 16), .int .i64 ((x1 : Int) % 16), .int .i64 (x2 : Int), .complex .f64 (floatOfInt .f64 (x3 : Int)) (floatOfInt .f64 (x4 : Int))] := by rw [E.out]; rfl
      rw [ev] at h
      exact h
    obtain ⟨w2, hw2⟩ : ∃ w2, w2 = (w1.alloc (.cells #[.int .i64 (x0 : Int), .int .i64 ((x1 : Int) / 16), .int .i64 ((x1 : Int) % 16), .int .i64 (x2 : Int), .complex .f64 (floatOfInt .f64 (x3 : Int)) (floatOfInt .f64 (x4 : Int))] 52)).drew := ⟨_, rfl⟩
    have B2 : Hid (Below w.heap.size w w2) := Lib.hid (by rw [hw2]; exact (B1.out.alloc B1.out.size _).drew)
    have G0 : Hid (w2.heap[w.heap.size]? = some (.cells #[.int .i64 0, .int .i64 0, .int .i64 0, .int .i64 0, .complex .f64 0 0] 52 (0, 0))) := Lib.hid (by
      have hb : Below w1.heap.size w1 w2 := by rw [hw2]; exact ((Below.refl _ w1).alloc (Nat.le_refl _) _).drew
      rw [hw1] at hb
      exact five_later hb)
    have G1 : Hid (w2.heap[w.heap.size + 1]? = some (.cells #[.int .i64 (x0 : Int), .int .i64 ((x1 : Int) / 16), .int .i64 ((x1 : Int) % 16), .int .i64 (x2 : Int), .complex .f64 (floatOfInt .f64 (x3 : Int)) (floatOfInt .f64 (x4 : Int))] 52 (0, 0))) := Lib.hid (by rw [hw2, hw1]; exact second_new w _ _)
    rw [← hw1, ← hw2]
    clear hw2 hw1 B1 C0 C1 C2 C3 C4
    obtain ⟨q0, q1, q2, q3, q4⟩ := five_cells G1.out
    go_wp2_with fail
    with_reducible refine (CK.out w2).mono ?_
    rintro e w3 ⟨⟨x, rfl, hx⟩, hb3⟩
    have B3 : Hid (Below w.heap.size w w3) := Lib.hid (B2.out.trans (hb3.mono B2.out.size))
    have K0 : Hid (w3.heap[w.heap.size]? = some (.cells #[.int .i64 0, .int .i64 0, .int .i64 0, .int .i64 0, .complex .f64 0 0] 52 (0, 0))) := Lib.hid ((hb3.block _ (Array.getElem?_eq_some_iff.1 G0.out).1).trans G0.out)
    have K1 : Hid (w3.heap[w.heap.size + 1]? = some (.cells #[.int .i64 (x0 : Int), .int .i64 ((x1 : Int) / 16), .int .i64 ((x1 : Int) % 16), .int .i64 (x2 : Int), .complex .f64 (floatOfInt .f64 (x3 : Int)) (floatOfInt .f64 (x4 : Int))] 52 (0, 0))) := Lib.hid ((hb3.block _ (Array.getElem?_eq_some_iff.1 G1.out).1).trans G1.out)
    clear hb3 q0 q1 q2 q3 q4 G0 G1 B2
    obtain ⟨q0, q1, q2, q3, q4⟩ := five_cells K1.out
    by_cases hval : Valid (delOf f)
    · obtain rfl : x = 0 := hx.2 hval
      have VV := Lib.hid hval
      obtain ⟨w4, hw4, h4, a4, r0, f0, r1, f1, r2, f2, r3, f3, r4, f4⟩ := five_put K0.out (.int .i64 (x0 : Int)) (.int .i64 ((x1 : Int) / 16)) (.int .i64 ((x1 : Int) % 16)) (.int .i64 (x2 : Int)) (.complex .f64 (floatOfInt .f64 (x3 : Int)) (floatOfInt .f64 (x4 : Int)))
      have H4 := Lib.hid h4
      have B4 : Hid (Below w.heap.size w w4) := Lib.hid (B3.out.trans (a4.below B3.out.size fun k hk e => by omega))
      clear hx hval h4 a4
      go_wp2_with (rw [← hw4]; clear hw4 r0 f0 r1 f1 r2 f2 r3 f3 r4 f4)
      refine bodyPost_ret (del_results (fn := Try.f24) rfl _ _ w.heap.size 52 _ (0, 0) _ rfl H4.out Try.underlying52 rfl delta_size) rfl ?_
      exact ⟨.inl ⟨rfl, VV.out, by rw [E.out]; rfl⟩, B4.out⟩
    · have h0 : (x != 0) = true := by simpa using fun h => hval (hx.1 h)
      have VV := Lib.hid hval
      obtain ⟨w4, hw4, h4, a4, r0, f0, r1, f1, r2, f2, r3, f3, r4, f4⟩ := five_put K0.out (.int .i64 0) (.int .i64 0) (.int .i64 0) (.int .i64 0) (.complex .f64 0 0)
      have H4 := Lib.hid h4
      have B4 : Hid (Below w.heap.size w w4) := Lib.hid (B3.out.trans (a4.below B3.out.size fun k hk e => by omega))
      clear hx hval h4 a4
      go_wp2_with (rw [← hw4]; clear hw4 r0 f0 r1 f1 r2 f2 r3 f3 r4 f4)
      refine bodyPost_ret (del_results (fn := Try.f24) rfl _ _ w.heap.size 52 _ (0, 0) _ rfl H4.out Try.underlying52 rfl delta_size) rfl ?_
      exact ⟨.inr ⟨fun h => VV.out h.2, 2, by omega, rfl⟩, B4.out⟩
end Go.Proofs.Ytmgeifolgdgapaa

namespace Go.Proofs.Ytmgeifolgdgapaa
open Go.RowKit

/-- The bytes of a delta. -/
def encD (d : Del) (i : Nat) : Nat := if i = 0 then d.kind else if i = 1 then 16 * d.vol + d.other else if i = 2 then d.block else if i = 3 then d.a else d.b
theorem valid_small {d : Del} (h : Valid d) : d.kind ≤ 5 ∧ d.vol < 8 ∧ d.other < 8 ∧ d.block ≤ 32 ∧ d.a < 24 ∧ d.b < 16 := by
  obtain ⟨k, v, o, n, a, b⟩ := d
  dsimp only [Valid] at h ⊢
  omega
theorem encD_delOf {f : Nat → Nat} {i : Nat} (hi : i < 5) : encD (delOf f) i = f i := by
  unfold encD delOf
  rcases (by omega : i = 0 ∨ i = 1 ∨ i = 2 ∨ i = 3 ∨ i = 4) with rfl | rfl | rfl | rfl | rfl
  · rfl
  · show 16 * (f 1 / 16) + f 1 % 16 = f 1
    omega
  · rfl
  · rfl
  · rfl

set_option maxRecDepth 100000 in
set_option maxHeartbeats 1000000 in
theorem refEncodeD_ok (d : Del) (hv : Valid d) (w : World) :
    Calls Try.prog 26 #[d.val] w fun e w' => ∃ g, e = .returned (.tuple #[.slice (some ⟨g, 0, none⟩) 5 5, .int .i64 0]) ∧ Lies w' g (encD d) 5 ∧ w.heap.size ≤ g ∧ Below w.heap.size w w' := by
  have hs := valid_small hv
  have CK := fun W => refCheck_any d W (by omega) (by omega)
  have PT := fun W => refParts_byte d.a d.b W (by omega) (by omega)
  have hp : partsV d.a d.b = .tuple #[.int .i64 (d.a : Int), .int .i64 (d.b : Int), .int .i64 0] := by unfold partsV; rw [if_pos ⟨by omega, by omega⟩]
  rw [hp] at PT
  have HC := Lib.hid CK
  have HP := Lib.hid PT
  have VV := Lib.hid hv
  clear CK PT hp hv
  obtain ⟨k, v, o, n, a, b⟩ := d
  dsimp only at hs HP
  obtain ⟨b1, b2, b3, b4, b5, b6⟩ := hs
  have HC2 : Hid (∀ W, Calls Try.prog 38 #[.agg #[.int .i64 (k : Int), .int .i64 (v : Int), .int .i64 (o : Int), .int .i64 (n : Int), .complex .f64 (fl a) (fl b)]] W (Checked_ ⟨k, v, o, n, a, b⟩ W)) := Lib.hid HC.out
  show Calls Try.prog 26 #[.agg #[.int .i64 (k : Int), .int .i64 (v : Int), .int .i64 (o : Int), .int .i64 (n : Int), .complex .f64 (fl a) (fl b)]] w _
  clear HC
  go_enter Try.func26, Try.ntmps26
  go_wp2_with fail
  with_reducible refine (HC2.out _).mono ?_
  rintro e w1 ⟨⟨x, rfl, hx⟩, hb1⟩
  obtain rfl : x = 0 := hx.2 VV.out
  have B1 : Hid (Below w.heap.size w w1) := Lib.hid (((Below.refl _ w).alloc (Nat.le_refl _) _).trans (hb1.mono (by simp)))
  have H1 := Lib.hid (five_later hb1)
  obtain ⟨c0, c1, c2, c3, c4⟩ := five_cells H1.out
  clear hb1 hx
  go_wp2_with fail
  with_reducible refine (HP.out _).mono ?_
  rintro e w2 ⟨rfl, rfl⟩
  go_wp2
  go_ret2
  refine ⟨w1.heap.size, rfl, ?_, B1.out.size, B1.out.alloc B1.out.size _⟩
  unfold Lies
  rw [heap_alloc_new]
  rw [show 16 * (v : Int) + (o : Int) = ((16 * v + o : Nat) : Int) by omega]
  rfl
end Go.Proofs.Ytmgeifolgdgapaa

