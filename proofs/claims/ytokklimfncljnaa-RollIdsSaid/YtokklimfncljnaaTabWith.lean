/- A page, and a table, that differ in one place. -/
import Derived.Test.YtokklimfncljnaaTabPage
namespace Go.Proofs.Ytokklimfncljnaa
open Go.RowKit

/-- A pointer to a page. -/
def PagePtr (Z : Nat → Pl) (w : World) (e : Ending) (w' : World) : Prop := ∃ A, e = .returned (.pointer A) ∧ PageAt w' (.pointer A) Z ∧ Below w.heap.size w w'

theorem upd_cell (Z : Nat → Pl) (i : Nat) (p : Pl) {j : Nat} (hj : j ≠ i) : zval (Z j) = zval (upd Z i p j) := by unfold upd; rw [if_neg hj]
theorem good_upd {Z : Nat → Pl} {p : Pl} (hg : ∀ j, Good (Z j)) (hp : Good p) (i : Nat) (j : Nat) : Good (upd Z i p j) := by
  unfold upd
  split
  · exact hp
  · exact hg j
/-- Behind the variable 'next'. -/
theorem next_made {w w1 w2 : World} {Z : Nat → Pl} (hb : Below w.heap.size w w1) (h : (w1.alloc (.cells ((List.range 8).map fun _ => (Value.complex .f64 0 0)).toArray 64)).setCells w1.heap.size 0 (zcells Z) = w2) :
    PageIs w2 w1.heap.size Z ∧ Below w.heap.size w w2 := by
  subst h
  exact ⟨stored_page (page_new w1) Z, (hb.alloc hb.size _).trans ((apart_setCells _ _ _ _).below (by have := hb.size; simp; omega) fun i hi e => by have := hb.size; omega)⟩

theorem pwith_any {w : World} {v : Value} {Z : Nat → Pl} (h : PageAt w v Z) (hg : ∀ j, Good (Z j)) {i : Nat} (hi : i < 8) {p : Pl} (hp : Good p) :
    Calls Try.prog 26 #[v, .int .i64 (i : Int), .complex .f64 (zre p) (zim p)] w (PagePtr (upd Z i p) w) := by
  have hz := zero_page
  have HG := Lib.hid (good_upd hg hp i)
  go_enter Try.func26, Try.ntmps26
  go_wp2_with fail
  refine (content_any h).mono ?_
  rintro e w1 ⟨rfl, hb⟩
  have B1 := Lib.hid hb
  have RT := page_there Z (RowIs.there (page_new w1) (o := 0) (m := 8) (by omega))
  have hst := store_complex
  clear hb h
  go_wp2_with (first
    | (refine wpList_store_mid rfl 64 (.tmp 7) (.tmp 9) ?_ w1.heap.size 0 (zcells Z).toArray ?_ ?_ ?_ (page_len' _) (zcells_all _) ?_
       · rfl
       · rfl
       · rfl
       · exact RT
       generalize hw : World.setCells _ _ _ _ = w2
       obtain ⟨hp2, hb2⟩ := next_made B1.out hw
       have P2 := Lib.hid hp2
       have B2 := Lib.hid hb2
       have c0 := P2.out.cell hi
       have c1 := P2.out.free i
       clear hp2 hb2 hw))
  generalize hw3 : World.setCell _ _ _ = w3
  have P3 : Hid (PageIs w3 w1.heap.size (upd Z i p)) := Lib.hid (by
    rw [← hw3]
    exact RowIs.set_ P2.out (fun _ => by show _ = zval (upd Z i p i); unfold upd; rw [if_pos rfl]; rfl) fun j _ hj => upd_cell Z i p hj)
  have B3 : Hid (Below w.heap.size w w3) := Lib.hid (by rw [← hw3]; exact B2.out.setCell B1.out.size _)
  have S1 := Lib.hid B1.out.size
  clear hw3 c0 c1 hst hz RT
  obtain ⟨Y, hY⟩ : ∃ Y, Y = upd Z i p := ⟨_, rfl⟩
  rw [← hY] at P3 HG
  have HY := Lib.hid hY
  have l0 : ∀ z : Later w3, z.val.cell? ⟨w1.heap.size, 0, none⟩ = some (.complex .f64 (zre (Y 0)) (zim (Y 0))) := fun z => RowIs.cell (RowIs.below P3.out z.ext) (i := 0) (by omega)
  have l1 : ∀ z : Later w3, z.val.cell? ⟨w1.heap.size, 1, none⟩ = some (.complex .f64 (zre (Y 1)) (zim (Y 1))) := fun z => RowIs.cell (RowIs.below P3.out z.ext) (i := 1) (by omega)
  have l2 : ∀ z : Later w3, z.val.cell? ⟨w1.heap.size, 2, none⟩ = some (.complex .f64 (zre (Y 2)) (zim (Y 2))) := fun z => RowIs.cell (RowIs.below P3.out z.ext) (i := 2) (by omega)
  have l3 : ∀ z : Later w3, z.val.cell? ⟨w1.heap.size, 3, none⟩ = some (.complex .f64 (zre (Y 3)) (zim (Y 3))) := fun z => RowIs.cell (RowIs.below P3.out z.ext) (i := 3) (by omega)
  have l4 : ∀ z : Later w3, z.val.cell? ⟨w1.heap.size, 4, none⟩ = some (.complex .f64 (zre (Y 4)) (zim (Y 4))) := fun z => RowIs.cell (RowIs.below P3.out z.ext) (i := 4) (by omega)
  have l5 : ∀ z : Later w3, z.val.cell? ⟨w1.heap.size, 5, none⟩ = some (.complex .f64 (zre (Y 5)) (zim (Y 5))) := fun z => RowIs.cell (RowIs.below P3.out z.ext) (i := 5) (by omega)
  have l6 : ∀ z : Later w3, z.val.cell? ⟨w1.heap.size, 6, none⟩ = some (.complex .f64 (zre (Y 6)) (zim (Y 6))) := fun z => RowIs.cell (RowIs.below P3.out z.ext) (i := 6) (by omega)
  have l7 : ∀ z : Later w3, z.val.cell? ⟨w1.heap.size, 7, none⟩ = some (.complex .f64 (zre (Y 7)) (zim (Y 7))) := fun z => RowIs.cell (RowIs.below P3.out z.ext) (i := 7) (by omega)
  obtain ⟨b, hbb⟩ : ∃ b, b = samePage Y (fun _ => none) := ⟨_, rfl⟩
  have he : ∀ z : Later w3, (Op.equalIn 10000 64 (.agg #[.complex .f64 (zre (Y 0)) (zim (Y 0)), .complex .f64 (zre (Y 1)) (zim (Y 1)), .complex .f64 (zre (Y 2)) (zim (Y 2)), .complex .f64 (zre (Y 3)) (zim (Y 3)), .complex .f64 (zre (Y 4)) (zim (Y 4)), .complex .f64 (zre (Y 5)) (zim (Y 5)), .complex .f64 (zre (Y 6)) (zim (Y 6)), .complex .f64 (zre (Y 7)) (zim (Y 7))]) (.agg (zcells fun _ => none).toArray)).run Try.prog z.val = .ok b z.val := fun z => by
    rw [hbb]; exact run_same_in (Z := Y) _ HG.out fun _ => good_none
  have hm : Try.prog.eqGuardType Try.prog.depth 64 = false := by kernel_rfl
  have HB := Lib.hid hbb
  clear hbb hY
  refine region_later (by kernel_rfl) (by kernel_rfl) ?_
  repeat (go_big_quiet_step (first
    | (go_at_call 29; exact later_fresh (fun W => blank_any W))))
  refine wpQuiet_nil ?_
  rintro w9 ⟨⟨w4, hb4⟩, hw9⟩
  obtain rfl : w9 = w4 := hw9
  have P4 := Lib.hid (RowIs.below P3.out hb4)
  have B4 := Lib.hid (B3.out.trans (hb4.mono B3.out.size))
  clear hm l0 l1 l2 l3 l4 l5 l6 l7 he hb4
  cases b
  · go_wp2
    go_ret
    exact ⟨_, rfl, .inr ⟨_, rfl, by rw [← HY.out]; exact P4.out⟩, B4.out⟩
  · go_wp2
    go_ret
    exact ⟨_, rfl, .inl ⟨rfl, by rw [← HY.out]; exact (samePage_iff _ _).1 HB.out.symm⟩, B4.out⟩
end Go.Proofs.Ytokklimfncljnaa
