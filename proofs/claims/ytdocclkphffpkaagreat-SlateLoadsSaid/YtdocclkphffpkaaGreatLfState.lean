/- The state of a text of 16 bytes 0. -/
import Derived.Test.YtdocclkphffpkaaGreatLfVolumes
import Derived.Test.YtdocclkphffpkaaGreatMerge11
import Derived.Test.YtdocclkphffpkaaGreatMerge9
import Derived.Test.YtdocclkphffpkaaGreatMerge1
namespace Go.Proofs.YtdocclkphffpkaaGreat
open Go.RowKit Go.Shelf

attribute [local go_sem] Oper.semAt_some

theorem vol_zero {k : Nat} (h : vpos 16 z0 k + 2 ≤ 16) : vol 16 z0 k = (2, z0) := by
  unfold vol vstep z0
  rw [show min (2 + 2 * 0) (16 - vpos 16 (fun _ => 0) k) = 2 by have : vpos 16 (fun _ => 0) k + 2 ≤ 16 := h; omega]

theorem box_own (B b : Nat) (t : TypeId) (v : Value) : OwnFrom B (fun (_ : List Vol) W => Boxed W b t v) := Own.from (boxed_own b t fun _ => v) B
theorem stIs_own (B b : Nat) (K S : Nat → Nat) (V : Nat → Value) : OwnFrom B (fun (_ : List Vol) W => StIs W b K S V) := fun _ _ _ _ hs hg hrow =>
  (cells_kept hg (fun r e => (hrow r e).2) hs).trans hs

def StateI (w : World) (_ : List Vol) (W : World) : Prop := StIs W (w.heap.size + 1) z0 z0 zV ∧ Below w.heap.size w W ∧ w.heap.size + 3 ≤ W.heap.size

theorem volOk_own (B n : Nat) (f : Nat → Nat) : OwnFrom B (VolOk n f) := by
  rintro x X Y row ⟨h1, h2⟩ hg hrow
  refine ⟨?_, h2⟩
  obtain ⟨A, c, e, q1, q2, q3, q4⟩ := h1
  refine ⟨A, c, e, q1, q2, q3, q4.small, fun i hi => ?_⟩
  obtain ⟨ad, e1, hc⟩ := q4.cell i hi
  exact ⟨ad, e1, cell_kept hc hg fun r e => (hrow r e).2⟩

theorem bytes_none' (w : World) (B : Option Addr) : BytesAt w B 0 z0 := ⟨fun i hi => absurd hi (by omega), fun i hi => absurd hi (by omega)⟩
/-- A cell that is written over by itself. -/
theorem setCell_still {w : World} {g k : Nat} {cs : Array Value} {T : TypeId} {fr : Nat × Nat} {v : Value} (h : w.heap[g]? = some (.cells cs T fr)) (hv : cs[k]? = some v) : w.setCell ⟨g, k, none⟩ v = w := by
  rw [setCell_eq_setRow w g k cs T fr v h]
  have e : cs.setIfInBounds k v = cs := by
    apply Array.ext_getElem?
    intro i
    rw [Array.getElem?_setIfInBounds]
    split
    · rename_i hik
      subst hik
      rw [if_pos (Array.getElem?_eq_some_iff.1 hv).1, hv]
    · rfl
  rw [e]
  have hh : (w.setRow g cs).heap = w.heap := by
    apply Array.ext_getElem?
    intro i
    by_cases hi : i = g
    · subst hi
      rw [setRow_heap w i cs cs T fr h, h]
    · unfold World.setRow
      show (w.heap.modify g _)[i]? = _
      rw [Array.getElem?_modify, if_neg (Ne.symm hi)]
  unfold World.setRow at hh ⊢
  cases w
  simp only at hh ⊢
  rw [hh]
theorem RowIs.still {w : World} {g n k : Nat} {T : TypeId} {C : Nat → Value} {v : Value} (h : RowIs w g T C n) (hk : k < n) (hv : C k = v) : w.setCell ⟨g, k, none⟩ v = w :=
  setCell_still h (by rw [List.getElem?_toArray, List.getElem?_map, List.getElem?_range hk]; show some (C k) = some v; rw [hv])

theorem unrow_none (B : Option Addr) (d : Nat) (W : World) (hd : d ≤ 9223372036854775807) : Calls Tryz.prog 100 #[.slice B 0 d, .int .i64 2] W fun e w' => ∃ C d', e = .returned (.tuple #[.slice C 0 d', .int .i64 0]) ∧ Below W.heap.size W w' := by
  have h := unrow_ok B 0 0 d 2 z0 W (by omega) (by omega) hd (by omega) (by omega) (by omega) (bytes_none' W B)
  exact Calls.mono h fun e w' hx => by
    obtain ⟨v, he, ⟨C, d', hv, _⟩, hb⟩ := hx
    subst hv
    exact ⟨C, d', he, hb⟩

set_option maxRecDepth 100000 in
set_option maxHeartbeats 2000000 in
theorem state_zero (v : Value) (b : Nat) (w : World) (hv : Reads w v 16 z0) :
    Calls Tryz.prog 82 #[v, .int .i64 (b : Int)] w (Fresh (.agg (scells z0 z0 zV).toArray) w) := by
  obtain ⟨A, c, rfl, q1, q2, q3, q4⟩ := id hv
  have HV := Lib.hid hv
  clear hv
  have hzs := zero_state
  refine (callsIn_wide (n := 3)).1 ?_
  refine callsIn_of_wp_marks Tryz.func82 rfl trivial ?_ rfl
  simp only [Tryz.ntmps82, List.size_toArray, List.length_cons, List.length_nil, Nat.reduceAdd, Nat.reduceSub, Array.replicate_succ, Array.replicate_zero, List.push_toArray, List.append_toArray, List.nil_append, List.cons_append]
  gi_wp2_with fail
  refine ⟨trivial, ?_⟩
  refine (volumes_in Fence.wide _ trivial rfl _ _ _ _).mono ?_
  rintro e w' ⟨rfl, rfl⟩
  gi_wp2_with fail
  have bT := Boxed.new ((w.alloc (.cells #[.int .i64 (b : Int)] 3)).alloc (.cells (scells z0 z0 zV).toArray 32)) 44 (.slice A 16 c)
  simp only [World.size_alloc] at bT
  have hB0 : Below w.heap.size w (((w.alloc (.cells #[.int .i64 (b : Int)] 3)).alloc (.cells (scells z0 z0 zV).toArray 32)).alloc (.cells #[.slice A 16 c] 44)) := (((Below.refl _ w).alloc (Nat.le_refl _) _).alloc (by simp) _).alloc (by simp; omega) _
  have hS0 : StIs (((w.alloc (.cells #[.int .i64 (b : Int)] 3)).alloc (.cells (scells z0 z0 zV).toArray 32)).alloc (.cells #[.slice A 16 c] 44)) (w.heap.size + 1) z0 z0 zV := by
    have h := (st_new (w.alloc (.cells #[.int .i64 (b : Int)] 3)) z0 z0 zV).below ((Below.refl _ _).alloc (Nat.le_refl _) (.cells #[.slice A 16 c] 44))
    rw [World.size_alloc] at h
    exact h
  refine wpIn_range_told rfl (by omega) (gf := 109) (lb := #[.pointer (some ⟨w.heap.size + 2, 0, none⟩)]) rfl trivial (enters_of Tryz.func109 (by kernel_rfl) rfl)
    (volumes_tells _ (by omega) (w.heap.size + 2) _ 16 z0 w _ (by simp) bT.cell hB0 HV.out) (fun h k => h.trans k) (fun X l o o' hl h1 h2 h3 => belowK_b (w := w) (Nat.le_refl _) X l o o' (by simp at hl; omega) h1 h2 h3) (fun _ => rfl) (volOk_own _ _ _)
    (StateI w) (fun s X Y row hs hg hrow => ⟨stIs_own _ _ _ _ _ s X Y row hs.1 hg hrow, ownFrom_below (Nat.le_refl _) (by simp; omega) s X Y row hs.2.1 hg hrow, Nat.le_trans hs.2.2 hg.size⟩) ⟨hS0, hB0, by simp⟩
    (fun x => { tmps := #[.slice A 16 c, .int .i64 (b : Int), undef, .pointer (some ⟨w.heap.size, 0, none⟩), .pointer (some ⟨w.heap.size + 1, 0, none⟩), .int .i64 (x.1 : Int), x.2.1, undef, undef, undef, undef, .slice A 16 c, .func (.func 109) #[] #[.pointer (some ⟨w.heap.size + 2, 0, none⟩)], .int .i64 (x.1 : Int), x.2.1, undef, undef, undef, undef, undef, undef, undef, undef, undef, undef, undef, undef, undef, undef, undef, undef, undef, undef, undef, undef, undef, undef, undef, undef, undef, undef, undef, undef, undef, undef, undef, undef, undef, undef, undef, undef, undef, undef], defers := [] }) ?assign ?body ?done
  case assign =>
    intro l x W K hK
    gi_wp2
    exact hK
  case body =>
    rintro l pre ⟨k, xv, xf⟩ W ⟨hs, hb, hz⟩ hlt ⟨hr, h8, hp, hx⟩
    dsimp only at hr h8 hp hx
    rw [vol_zero hp] at hx
    subst hx
    dsimp only at hr
    obtain ⟨A1, c1, rfl, r1, r2, r3, r4⟩ := id hr
    obtain ⟨bd, rfl⟩ := r4.addr (by omega)
    have x0 : W.cell? bd = some (.int .u8 0) := by have h := r4.at_ (i := 0) (by omega); simpa [Addr.add] using h
    have x1 : W.cell? ⟨bd.block, bd.off + 1, none⟩ = some (.int .u8 0) := r4.at_ (i := 1) (by omega)
    have s0 := hs.kind h8
    have s1 := hs.size h8
    have f0 := RowIs.free hs (k * 2)
    have f1 := RowIs.free hs (k * 2 + 1)
    have HS := Lib.hid hs
    have HB := Lib.hid hb
    have HZ := Lib.hid hz
    have HR := Lib.hid r4
    clear hs hb hz r4 hr hp hlt
    have same0 : ∀ m, (W.drewN m).setCell ⟨w.heap.size + 1, k * 2, none⟩ (.int .i64 0) = W.drewN m := fun m => RowIs.still (w := W.drewN m) HS.out (by omega) (scell_kind z0 z0 zV h8)
    have same1 : ∀ m, (W.drewN m).setCell ⟨w.heap.size + 1, k * 2 + 1, none⟩ (.int .i64 0) = W.drewN m := fun m => RowIs.still (w := W.drewN m) HS.out (by omega) (scell_size z0 z0 zV h8)
    gi_wp2
    refine region_round (C := fun w' => ∃ m, w' = W.drewN m) (by kernel_rfl) (by rintro ⟨a, w, h⟩; exact h) (by kernel_rfl) (by kernel_rfl) ⟨1, rfl⟩ ?_
    repeat (go_big_quiet_step (fail))
    refine wpQuiet_nil ?_
    rintro w9 ⟨m, rfl⟩
    clear same0 same1 x0 x1 s0 s1 f0 f1
    have B9 : Hid (Below W.heap.size W (W.drewN m)) := Lib.hid (below_drewN (Below.refl _ _) m)
    obtain ⟨w9, hw9⟩ : ∃ w9, w9 = W.drewN m := ⟨_, rfl⟩
    rw [← hw9] at B9 ⊢
    clear hw9
    have fin : ∀ w10, Below W.heap.size W w10 → KeepsFrom (w.heap.size + 1 + 1 + 1) W w10 ∧ Below w.heap.size W w10 ∧ StateI w (pre ++ [(k, .slice (some bd) 2 c1, 2, z0)]) w10 := fun w10 h10 =>
      ⟨keepsFrom_below h10, h10.mono (by have := HZ.out; omega), HS.out.below h10, HB.out.trans (h10.mono (by have := HZ.out; omega)), Nat.le_trans HZ.out h10.size⟩
    have FIN := Lib.hid fin
    clear fin
    gi_wp2_with fail
    all_goals (
      refine ⟨trivial, ?_⟩
      refine (CallsIn.inRound l (callsIn_wide.2 (unrow_none _ _ w9 (by omega)))).mono ?_
      rintro e w10 ⟨C, d', rfl, hb10⟩
      have B10 := Lib.hid (B9.out.trans (hb10.mono B9.out.size))
      clear hb10
      gi_wp2
      refine wpIn_loop_rounds 1 ?_
      rw [roundsIn_succ]
      gi_wp2
      exact ⟨by simpa using (FIN.out w10 B10.out).1, (FIN.out w10 B10.out).2⟩)
  case done =>
    rintro D xs W hD - ⟨hs, hb, hz⟩ hK
    have RT : W.there (w.heap.size + 1) 0 (scells z0 z0 zV).toArray.size := StIs.there_ hs
    have HS := Lib.hid hs
    have HB := Lib.hid hb
    have h2 : (W.setCells (w.heap.size + 1) 0 (scells z0 z0 zV)).heap[D]? = some (.deferred (some [])) := by
      rw [(apart_setCells (w.heap.size + 1) (scells z0 z0 zV) 0 W).block D (Array.getElem?_eq_some_iff.1 hK).1 (by simp at hD; omega)]
      exact hK
    have b2 : Below w.heap.size w (W.setCells (w.heap.size + 1) 0 (scells z0 z0 zV)) := hb.trans ((apart_setCells (w.heap.size + 1) (scells z0 z0 zV) 0 W).below hb.size fun i hi e => by omega)
    have s2 : StIs ((W.setCells (w.heap.size + 1) 0 (scells z0 z0 zV)).putObj D (.deferred none)) (w.heap.size + 1) z0 z0 zV := (World.putObj_heap_other (by simp at hD; omega)).trans (StIs.stored hs)
    have b3 : Below w.heap.size w ((W.setCells (w.heap.size + 1) 0 (scells z0 z0 zV)).putObj D (.deferred none)) := b2.trans (belowK_b (w := w) (Nat.le_refl _) _ D _ _ (by simp at hD; omega) h2 rfl rfl)
    have H2 := Lib.hid h2
    have S2 := Lib.hid s2
    have B3 := Lib.hid b3
    clear hs hb hz hK h2 b2 s2 b3
    gi_wp2_with (first
      | (refine wpListIn_load_mid rfl 32 (.tmp 4) rfl (w.heap.size + 1) 0 rfl (scells z0 z0 zV) _ (StIs.whole HS.out) Tryz.underlying32 rfl (state_len _ _ _) ?_)
      | (refine wpListIn_store_mid rfl 32 (.tmp 4) (.tmp 52) rfl (w.heap.size + 1) 0 (scells z0 z0 zV).toArray rfl rfl RT (state_len' _ _ _) (scells_one fun _ _ => rfl) ?_))
    refine ⟨by simp, .inl ⟨_, _, rfl, run_takeDeferred H2.out, ?_⟩⟩
    exact ⟨_, results_cell_row (fn := Tryz.f82) rfl _ _ (w.heap.size + 1) 32 _ (0, 0) _ rfl S2.out Tryz.underlying32 rfl (state_len' _ _ _), rfl, B3.out⟩
end Go.Proofs.YtdocclkphffpkaaGreat
