/- What a page of package table answers: blank, content, with. -/
import Derived.Test.YtokklimfncljnaaTabWords
import Derived.Test.YtokklimfncljnaaCalm
namespace Go.Proofs.Ytokklimfncljnaa
open Go.RowKit

theorem page_zero : (Try.prog.info? 64).map (fun i => (i.zero, i.size)) = some (some (.agg ((List.range 8).map fun _ => (Value.complex .f64 0 0)).toArray), 8) := by kernel_rfl
theorem zero_page (w : World) : (zeroValue 64).run Try.prog w = .ok (.agg ((List.range 8).map fun _ => (Value.complex .f64 0 0)).toArray) w := (zero_of_info page_zero).1 w
/-- A page's places. -/
def Paged (Z : Nat → Pl) (w : World) (e : Ending) (w' : World) : Prop := e = .returned (.agg (zcells Z).toArray) ∧ Below w.heap.size w w'

theorem page_new (w : World) : RowIs (w.alloc (.cells ((List.range 8).map fun _ => (Value.complex .f64 0 0)).toArray 64)) w.heap.size 64 (fun _ => .complex .f64 0 0) 8 := by
  unfold RowIs
  rw [heap_alloc_new]

theorem store_complex (a : Addr) (x y : Nat) (m : Mode) (w : World) : (store a (.complex .f64 x y) m).run Try.prog w = stored Try.prog w a (.complex .f64 x y) m := run_store Try.prog w a _ m rfl

/-- How far the places have been taken away. -/
def Blanking (w : World) (v : Value) (wr : World) : Prop :=
  ∃ i : Nat, i ≤ 8 ∧ v = .int .i64 (i : Int) ∧ RowIs wr (w.heap.size + 1) 64 (fun j => if j < i then zval none else .complex .f64 0 0) 8 ∧
    RowIs wr w.heap.size 64 (fun _ => .complex .f64 0 0) 8 ∧ Below w.heap.size w wr

theorem blank_any (w : World) : Calls Try.prog 29 #[] w (Paged (fun _ => none) w) := by
  have hz := zero_page
  go_enter Try.func29, Try.ntmps29
  go_wp2
  clear hz
  go_loopw [3] (fun v wr => Blanking w v wr) (fun v _ => 8 - (intOf v).toNat)
  case atStart =>
    refine ⟨0, by omega, rfl, ?_, (page_new w).below ((Below.refl _ _).alloc (Nat.le_refl _) _), ((Below.refl _ _).alloc (Nat.le_refl _) _).alloc (by simp) _⟩
    have h := page_new (w.alloc (.cells ((List.range 8).map fun _ => (Value.complex .f64 0 0)).toArray 64))
    rw [show (w.alloc (.cells ((List.range 8).map fun _ => (Value.complex .f64 0 0)).toArray 64)).heap.size = w.heap.size + 1 by simp] at h
    exact h
  case round =>
    obtain ⟨i, hi, rfl, hr, hs, hb⟩ := hrel
    have R1 := Lib.hid hr
    have S1 := Lib.hid hs
    have B1 := Lib.hid hb
    clear hr hs hb
    by_cases h0 : i < 8
    · have c0 := R1.out.cell h0
      have c1 := R1.out.free i
      have hst := store_complex
      go_wp2
      clear c0 c1 hst
      go_roundw
      case rel =>
        exact ⟨i + 1, by omega, by go_num, R1.out.set_ (fun _ => by rw [if_pos (by omega)]; rfl) (fun j _ hj => by
          by_cases h5 : j < i
          · rw [if_pos h5, if_pos (by omega)]
          · rw [if_neg h5, if_neg (by omega)]), S1.out.apart (apart_set _ _ _ _) (by omega), B1.out.setCell (by show w.heap.size ≤ w.heap.size + 1; omega) _⟩
      case measure => simp [intOf]; omega
    · obtain rfl : i = 8 := by omega
      have P1 : PageIs wr (w.heap.size + 1) (fun _ => none) := R1.out.congr fun j hj => by rw [if_pos hj]
      have RT := page_there (fun _ => none) (S1.out.there (o := 0) (m := 8) (by omega))
      go_wp2_with (first
        | (refine wpList_load_mid rfl 64 (.tmp 1) rfl (w.heap.size + 1) 0 rfl (zcells fun _ => none) _ P1.range Try.underlying64 rfl (page_len _) ?_)
        | (refine wpList_store_mid rfl 64 (.tmp 0) (.tmp 9) rfl w.heap.size 0 (zcells fun _ => none).toArray rfl rfl RT (page_len' _) (zcells_all _) ?_))
      exact bodyPost_ret (v := .agg (zcells fun _ => none).toArray) (results_cell_row (fn := Try.f29) rfl _ _ w.heap.size 64 _ (0, 0) _ rfl (stored_page S1.out _).cells Try.underlying64 rfl (page_len' _)) rfl
        ⟨rfl, B1.out.trans ((apart_setCells _ _ _ wr).below B1.out.size fun i hi e => by omega)⟩

theorem Paged.congr {Z Z' : Nat → Pl} {w w' : World} {e : Ending} (h : Paged Z w e w') (he : ∀ j, j < 8 → Z j = Z' j) : Paged Z' w e w' := ⟨by rw [h.1, zcells_congr he], h.2⟩

theorem content_nil (w : World) : Calls Try.prog 25 #[.pointer none] w (Paged (fun _ => none) w) := by
  have hz := zero_page
  go_enter Try.func25, Try.ntmps25
  go_wp2_with fail
  refine (blank_any _).mono ?_
  rintro e w1 ⟨rfl, hb⟩
  have S1 := Lib.hid (RowIs.below (page_new w) hb)
  have B1 := Lib.hid (((Below.refl _ w).alloc (Nat.le_refl _) _).trans (hb.mono (by simp)))
  have RT := page_there (fun _ => none) (S1.out.there (o := 0) (m := 8) (by omega))
  clear hb hz
  go_wp2_with (first
    | (refine wpList_store_mid rfl 64 (.tmp 2) (.tmp 5) rfl w.heap.size 0 (zcells fun _ => none).toArray rfl rfl RT (page_len' _) (zcells_all _) ?_))
  exact bodyPost_ret (v := .agg (zcells fun _ => none).toArray) (results_cell_row (fn := Try.f25) rfl _ _ w.heap.size 64 _ (0, 0) _ rfl (stored_page S1.out _).cells Try.underlying64 rfl (page_len' _)) rfl
    ⟨rfl, B1.out.trans ((apart_setCells _ _ _ w1).below B1.out.size fun i hi e => by omega)⟩

theorem content_page {w : World} {g : Nat} {Z : Nat → Pl} (h : PageIs w g Z) : Calls Try.prog 25 #[.pointer (some ⟨g, 0, none⟩)] w (Paged Z w) := by
  have hz := zero_page
  have S1 := Lib.hid (page_new w)
  have P1 := Lib.hid (RowIs.below h ((Below.refl _ w).alloc (Nat.le_refl _) (.cells ((List.range 8).map fun _ => (Value.complex .f64 0 0)).toArray 64)))
  have RT := page_there Z (S1.out.there (o := 0) (m := 8) (by omega))
  go_enter Try.func25, Try.ntmps25
  go_wp2_with (first
    | (refine wpList_load_mid rfl 64 (.tmp 7) rfl g 0 rfl (zcells Z) _ (PageIs.range P1.out) Try.underlying64 rfl (page_len _) ?_)
    | (refine wpList_store_mid rfl 64 (.tmp 2) (.tmp 8) rfl w.heap.size 0 (zcells Z).toArray rfl rfl RT (page_len' _) (zcells_all _) ?_))
  exact bodyPost_ret (v := .agg (zcells Z).toArray) (results_cell_row (fn := Try.f25) rfl _ _ w.heap.size 64 _ (0, 0) _ rfl (stored_page S1.out _).cells Try.underlying64 rfl (page_len' _)) rfl
    ⟨rfl, ((Below.refl _ w).alloc (Nat.le_refl _) _).trans ((apart_setCells _ _ _ _).below (by simp) fun i hi e => by omega)⟩

theorem content_any {w : World} {v : Value} {Z : Nat → Pl} (h : PageAt w v Z) : Calls Try.prog 25 #[v] w (Paged Z w) := by
  rcases h with ⟨rfl, hn⟩ | ⟨g, rfl, hp⟩
  · exact (content_nil w).mono fun _ _ h => h.congr fun j hj => (hn j hj).symm
  · exact content_page hp

/-! Two pages, compared whole. -/
theorem place_info : ∃ i, Try.prog.info? 40 = some i := Option.isSome_iff_exists.1 (by kernel_rfl)
theorem place_cells : Try.prog.cellsOf 40 = 1 := by kernel_rfl
theorem run_part_z (w : World) (Z : Nat → Pl) {j : Nat} (hj : j < 8) : (part 40 (zcells Z).toArray (j * 1)).run Try.prog w = .ok (zval (Z j)) w := by
  have h : (isAgg 40).run Try.prog w = .ok false w := by
    unfold isAgg
    rw [Sem.run_bind, run_underlying Try.underlying40 w]
    rfl
  simp only [part, Sem.run_bind, h, Result.andThen_ok, Bool.false_eq_true, if_false, Nat.mul_one]
  have h2 : (zcells Z).toArray[j]? = some (zval (Z j)) := by rw [List.getElem?_toArray]; exact zcells_at Z hj
  rw [h2]
  rfl
theorem run_equal_z (w : World) (d : Nat) {p q : Pl} (hp : Good p) (hq : Good q) : (Op.equalIn (d + 1) 40 (zval p) (zval q)).run Try.prog w = .ok (decide (p = q)) w := by
  have h1 : (Op.equalIn (d + 1) 40 (zval p) (zval q)).run Try.prog w = .ok (Op.floatEq .f64 (zre p) (zre q) && Op.floatEq .f64 (zim p) (zim q)) w := by
    simp only [Op.equalIn, zval, Sem.run_bind, run_underlying Try.underlying40 w, Result.andThen_ok]
    rfl
  rw [h1]
  unfold Op.floatEq
  by_cases h : p = q
  · obtain ⟨e1, e2⟩ := (z_order hp hq).1 h
    rw [e1, e2, decide_eq_true h]
    rfl
  · rw [decide_eq_false h]
    rcases (z_order hp hq).2 h with e | ⟨e1, e2⟩
    · rw [e]; rfl
    · rw [e1, e2]; rfl
theorem run_items (w : World) (d : Nat) {Z Z' : Nat → Pl} (hg : ∀ j, Good (Z j)) (hg' : ∀ j, Good (Z' j)) : ∀ l : List Nat, (∀ j ∈ l, j < 8) →
    (Op.eqItems (d + 1) 40 1 (zcells Z).toArray (zcells Z').toArray l).run Try.prog w = .ok (l.all fun j => decide (Z j = Z' j)) w
  | [], _ => rfl
  | i :: is, h => by
    simp only [Op.eqItems, Sem.run_bind, run_part_z w _ (h i (by simp)), run_equal_z w d (hg i) (hg' i), Result.andThen_ok, List.all_cons]
    by_cases e : Z i = Z' i
    · simp only [e, decide_true, Bool.not_true, Bool.false_eq_true, if_false, Bool.true_and]
      exact run_items w d hg hg' is fun j hj => h j (by simp [hj])
    · simp [e]
/-- Are two pages one? -/
def samePage (Z Z' : Nat → Pl) : Bool := (List.range 8).all fun j => decide (Z j = Z' j)
theorem samePage_iff (Z Z' : Nat → Pl) : samePage Z Z' = true ↔ ∀ j, j < 8 → Z j = Z' j := by simp [samePage]
theorem run_same_in (w : World) {Z Z' : Nat → Pl} (hg : ∀ j, Good (Z j)) (hg' : ∀ j, Good (Z' j)) :
    (Op.equalIn 10000 64 (.agg (zcells Z).toArray) (.agg (zcells Z').toArray)).run Try.prog w = .ok (samePage Z Z') w := by
  obtain ⟨i, hi⟩ := place_info
  rw [run_equalIn_array w 9999 _ _ Try.underlying64 hi, place_cells, run_items w 9998 hg hg' _ fun j hj => List.mem_range.1 hj]
  rfl
end Go.Proofs.Ytokklimfncljnaa
