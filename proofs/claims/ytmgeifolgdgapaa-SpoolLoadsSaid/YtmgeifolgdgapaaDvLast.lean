
/- What is read of a sector. -/
import Derived.Test.YtmgeifolgdgapaaDvWalks
import Derived.Deep.QuietTactic
import Derived.Deep.RegionHeld3
namespace Go.Proofs.Ytmgeifolgdgapaa
open Go.RowKit

set_option maxRecDepth 100000 in
theorem sector_info : (Try.prog.info? 57).map (fun i => (i.size, i.bytes)) = some (64, 64) := by kernel_rfl
set_option maxRecDepth 100000 in
theorem sector_size : (Try.prog.info? 57).map (·.size) = some 64 := by kernel_rfl
set_option maxRecDepth 100000 in
theorem sector_len (f : Nat → Nat) : (Try.prog.info? 57).map (·.size) = some (cellsOf f 64).length := by rw [cellsOf_length]; exact sector_size
set_option maxRecDepth 100000 in
theorem sector_len' (f : Nat → Nat) : (Try.prog.info? 57).map (·.size) = some (cellsOf f 64).toArray.size := by simp only [List.size_toArray, cellsOf_length]; exact sector_size
theorem sector_one (f : Nat → Nat) : (cellsOf f 64).toArray.all (·.oneCell') = true := all_oneCell_toArray (cellsOf_one f 64)
theorem sector_there {w : World} {b o : Nat} (f : Nat → Nat) (h : w.there b o 64) : w.there b o (cellsOf f 64).toArray.size := by simpa [cellsOf_length] using h

/-- A sector's contents. -/
def Sector (f : Nat → Nat) (w : World) (e : Ending) (w' : World) : Prop := e = .returned (.agg (cellsOf f 64).toArray) ∧ Below w.heap.size w w'

/-- Behind the two variables that 'last' makes. -/
theorem last_made {w : World} {t : Nat} {Z : Array Value} {w2 : World} (hz : Z = (cellsOf (fun _ => 0) 64).toArray) (h : ∃ q, ((w.alloc (.cells #[.int .i64 (t : Int)] 3)).alloc (.cells Z 57)).drewN q = w2) :
    Below w.heap.size w w2 ∧ RowIs w2 (w.heap.size + 1) 57 (fun _ => .int .u8 0) 64 ∧ w2.cell? ⟨w.heap.size, 0, none⟩ = some (.int .i64 (t : Int)) ∧ w2.heap.size = w.heap.size + 2 := by
  obtain ⟨q, rfl⟩ := h
  subst hz
  refine ⟨below_drewN (((Below.refl _ _).alloc (Nat.le_refl _) _).alloc (by simp) _) q, ?_, ?_, ?_⟩
  · exact heap_alloc2_new w _ _
  · show ((w.alloc _).alloc _).cell? _ = _
    rw [cell_of_row _ _ _ _ _ _ (heap_alloc2_old w _ _)]
    rfl
  · show ((w.heap.push _).push _).size = _
    simp

theorem stored_sector {w : World} {g : Nat} {C : Nat → Value} (h : RowIs w g 57 C 64) (f : Nat → Nat) :
    (w.setCells g 0 (cellsOf f 64)).heap[g]? = some (.cells (cellsOf f 64).toArray 57 (0, 0)) :=
  (h.sets (cellsOf f 64) 0).congr (C' := fun i => .int .u8 (f i : Int)) fun i hi => by
    unfold over
    rw [if_pos (by rw [cellsOf_length]; omega), List.getD_eq_getElem?_getD, Nat.sub_zero, cellsOf_at f hi]
    rfl
theorem sector_at {w : World} {base g h : Nat} {L : Value} {D : Dev} (d : IsDev w base g h L D) {t : Nat} (ht : t < D.size) : w.rangeAt h (t * 64) (cellsOf (D.sure t) 64) :=
  d.body.range (by rw [cellsOf_length]; omega) fun j hj => by
    rw [cellsOf_length] at hj
    rw [cellsOf_at _ hj]
    unfold dcell
    rw [show (t * 64 + j) / 64 = t by omega, show (t * 64 + j) % 64 = j by omega]

theorem held_after {w : World} {g h p b n m t : Nat} {v : Value} {cs vs : List Value} (c0 : w.cell? ⟨g, 0, none⟩ = some v) (hp : w.cell? ⟨p, 0, none⟩ = some (.int .i64 (t : Int))) (hr : w.rangeAt h n cs) (ht : w.there b 0 m) (h1 : g ≠ b) (h2 : p ≠ b) (h3 : h ≠ b) :
    (w.drew.setCells b 0 vs).cell? ⟨g, 0, none⟩ = some v ∧ (w.drew.setCells b 0 vs).cell? ⟨p, 0, none⟩ = some (.int .i64 (t : Int)) ∧ (w.drew.setCells b 0 vs).rangeAt h n cs ∧ (w.drew.setCells b 0 vs).there b 0 m :=
  ⟨by rw [World.cell?_setCells_out b vs 0 _ _ (fun e _ => absurd e h1)]; exact c0, by rw [World.cell?_setCells_out b vs 0 _ _ (fun e _ => absurd e h2)]; exact hp, World.rangeAt_setCells_apart (w := w.drew) hr b 0 vs (.inl h3), World.there_setCells (w := w.drew) ht b 0 vs⟩

set_option maxRecDepth 100000 in
theorem dev_last_any {w : World} {base g h : Nat} {L : Value} {D : Dev} (d : IsDev w base g h L D) {t : Nat} (ht : t < D.size) :
    Calls Try.prog 22 #[.pointer (some ⟨g, 0, none⟩), .int .i64 (t : Int)] w (Sector (D.view t) w) := by
  have HD := Lib.hid d
  clear d
  go_enter Try.func22, Try.ntmps22
  go_wp2_with fail
  refine (search_any (base := base) (g := g) (h := h) (L := L) (D := D) (t := t) ?_ ?_).mono ?_
  · exact HD.out.below (((Below.refl _ _).alloc (Nat.le_refl _) _).alloc (by simp) _)
  · rw [cell_of_row _ _ _ _ _ _ (heap_alloc2_old w _ _)]; rfl
  rintro e w2 ⟨hs, hq⟩
  obtain ⟨hb, hr, hp, hsz⟩ := last_made (by rfl) hq
  have HB := Lib.hid hb
  have HR := Lib.hid hr
  have HS := Lib.hid hsz
  clear hq hb hr hsz
  have d2 := HD.out.below HB.out
  have D2 := Lib.hid d2
  obtain ⟨c0, c1, -, -, -, -⟩ := d2.cells
  rcases hs with ⟨k, hk, hat, hafter, rfl⟩ | ⟨hno, rfl⟩
  · obtain ⟨A, cap, rfl, hlc, hcm, hA⟩ := d2.slice
    obtain ⟨b, rfl, hbw, -, -⟩ := hA (by omega)
    have HV : Hid (D.view t = D.loose[k].data) := Lib.hid (lays_last hk hat hafter)
    have R := D2.out.write hk
    have R1 : w2.rangeAt b (k * 65 + 1) (cellsOf D.loose[k].data 64) := fun j v hv => by
      have := R (j + 1) v (by simpa [wcells] using hv)
      rwa [show k * 65 + 1 + j = k * 65 + (j + 1) by omega]
    have R2 := Lib.hid R1
    have RT := Lib.hid (sector_there D.loose[k].data (HR.out.there (o := 0) (by omega)))
    have HA := Lib.hid hafter
    have HT := Lib.hid hat
    clear d2 hA hafter hat R R1 c0
    go_wp2_with (first
      | (refine wpList_load_mid rfl 57 (.tmp 20) rfl b (k * 65 + 1) rfl (cellsOf D.loose[k].data 64) _ R2.out Try.underlying57 rfl (sector_len _) ?_)
      | (refine wpList_store_mid rfl 57 (.tmp 4) (.tmp 21) rfl (w.heap.size + 1) 0 (cellsOf D.loose[k].data 64).toArray rfl rfl RT.out (sector_len' _) (sector_one _) ?_))
    exact bodyPost_ret (v := .agg (cellsOf D.loose[k].data 64).toArray) (results_cell_row (fn := Try.f22) rfl _ _ (w.heap.size + 1) 57 _ (0, 0) _ rfl (stored_sector HR.out _) Try.underlying57 rfl (sector_len' _)) rfl
      ⟨by rw [HV.out], HB.out.trans ((apart_setCells _ _ _ w2).below HB.out.size fun i hi e => by omega)⟩
  · have HV : Hid (D.view t = D.sure t) := Lib.hid (lays_none hno)
    have hu := Try.underlying57
    obtain ⟨cs, hcs⟩ : ∃ cs, cs = cellsOf (D.sure t) 64 := ⟨_, rfl⟩
    have R1 : w2.rangeAt h (t * 64) cs := by rw [hcs]; exact sector_at D2.out ht
    have RT : w2.there (w.heap.size + 1) 0 64 := HR.out.there (o := 0) (by omega)
    have hi : (Try.prog.info? 57).map (·.size) = some cs.length := by rw [hcs]; exact sector_len _
    have hl : cs.length = 64 := by rw [hcs, cellsOf_length]
    have ho : ∀ v ∈ cs, v.oneCell' = true := by rw [hcs]; exact cellsOf_one _ _
    have hlt : (t : Int) < (D.size : Int) := by omega
    have h0 : (0 : Int) ≤ (t : Int) := by omega
    have HC := Lib.hid hcs
    have hf := HD.out.lt
    have hg1 : g ≠ w.heap.size + 1 := fun e => by have := (hf g (.inl rfl)).2; omega
    have hg3 : h ≠ w.heap.size + 1 := fun e => by have := (hf h (.inr (.inl rfl))).2; omega
    have hg2 : w.heap.size ≠ w.heap.size + 1 := by omega
    clear hcs d2 c1 hno hf
    go_wp2
    go_region_held3 (fun w' => w'.cell? ⟨g, 0, none⟩ = some (.slice (some ⟨h, 0, none⟩) D.size D.size) ∧ w'.cell? ⟨w.heap.size, 0, none⟩ = some (.int .i64 (t : Int)) ∧ w'.rangeAt h (t * 64) cs ∧ w'.there (w.heap.size + 1) 0 64)
      (first
        | exact ⟨c0, hp, R1, RT⟩
        | exact held_after c0 hp R1 RT hg1 hg2 hg3)
      (fail)
    go_wp2
    exact bodyPost_ret (v := .agg cs.toArray) (results_cell_row (fn := Try.f22) rfl _ _ (w.heap.size + 1) 57 _ (0, 0) _ rfl (by rw [HC.out]; exact stored_sector (w := w2.drew) HR.out _) Try.underlying57 rfl (by rw [HC.out]; exact sector_len' _)) rfl
      ⟨by rw [HV.out, HC.out], HB.out.drew.trans ((apart_setCells _ _ _ w2.drew).below HB.out.size fun i hi e => by omega)⟩
end Go.Proofs.Ytmgeifolgdgapaa
