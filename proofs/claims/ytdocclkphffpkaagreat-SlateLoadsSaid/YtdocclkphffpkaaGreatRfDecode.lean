/- The document's Decode, of any pages. -/
import Derived.Test.YtdocclkphffpkaaGreatMerge20
import Derived.Test.YtdocclkphffpkaaGreatMerge18
import Derived.Deep.DeepCutAuto
namespace Go.Proofs.YtdocclkphffpkaaGreat
open Go.RowKit Go.Shelf

attribute [local go_sem] Oper.semAt_some

/-- What is written back where nothing is read: as it was. -/
structure Blank (w : World) (g : Nat) (W : World) : Prop where
  st : StIs W g z0 z0 zV
  pl : RowIs W (g + 1) 34 (fun _ => .int .i64 0) 2
  no : StIs W (g + 1 + 1) z0 z0 zV
  below : Below g w W
theorem Blank.later {w W W' : World} {g : Nat} (h : Blank w g W) (hb : Below W.heap.size W W') : Blank w g W' :=
  ⟨h.st.below hb, RowIs.below h.pl hb, h.no.below hb, h.below.trans (hb.mono (by have := RowIs.lt h.st; omega))⟩

/-- The text that is read of the first k pages. -/
def txt (F : Nat → Nat → Nat) (k : Nat) : Nat × (Nat → Nat) := joinL ((List.range (k - 1)).map fun i => rpart F (i + 1))
theorem txt_one (F : Nat → Nat → Nat) : txt F (0 + 1) = txt F 0 := rfl
theorem txt_next (F : Nat → Nat → Nat) {k : Nat} (hk : 0 < k) : txt F (k + 1) = ((txt F k).1 + (rpart F k).1, behind (txt F k).2 (txt F k).1 (rpart F k).2) := by
  obtain ⟨j, rfl⟩ : ∃ j, k = j + 1 := ⟨k - 1, by omega⟩
  unfold txt
  rw [show j + 1 + 1 - 1 = j + 1 by omega, List.range_succ, List.map_append, List.map_cons, List.map_nil, joinL_snoc, show j + 1 - 1 = j by omega]
theorem txt_some {F : Nat → Nat → Nat} {k : Nat} (hk : 0 < k) (h : F k 5 ≤ 52) : txt F (k + 1) = ((txt F k).1 + F k 5, behind (txt F k).2 (txt F k).1 fun j => F k (6 + j)) := by
  rw [txt_next F hk]
  unfold rpart
  rw [if_pos h]
theorem txt_none {F : Nat → Nat → Nat} {k : Nat} (hk : 0 < k) (h : ¬ F k 5 ≤ 52) : (txt F (k + 1)).1 = (txt F k).1 ∧ ∀ j, j < (txt F k).1 → (txt F k).2 j = (txt F (k + 1)).2 j := by
  rw [txt_next F hk]
  unfold rpart
  rw [if_neg h]
  exact ⟨rfl, fun j hj => (behind_low hj).symm⟩

theorem val_lt4 {f : Nat → Nat} (h : ∀ j, j < 4 → f j < 256) : val f 4 < 4294967296 := by
  have h0 := h 0 (by omega)
  have h1 := h 1 (by omega)
  have h2 := h 2 (by omega)
  have h3 := h 3 (by omega)
  simp only [val]
  omega

theorem alike_next {n b i : Nat} {f : Nat → Nat} : Alike (upd (rK n f i) i (f (rpos n f i))) (upd (rS n f i) i (f (rpos n f i + 1))) (upd (rM n f i) i (min (f (rpos n f i + 1)) ((n - rpos n f i - 2) / 2))) (rK n f (i + 1)) (rS n f (i + 1)) (rM n f (i + 1)) (rZ b n f) (rZ b n f) := by
  intro j _
  by_cases hji : j = i
  · subst hji
    rw [upd_here, upd_here, upd_here]
    unfold rK rS rM
    rw [if_pos (by omega), if_pos (by omega), if_pos (by omega)]
    exact ⟨rfl, rfl, rfl, fun _ _ => rfl⟩
  · rw [upd_other hji, upd_other hji, upd_other hji]
    unfold rK rS rM
    by_cases hlt : j < i
    · rw [if_pos hlt, if_pos hlt, if_pos hlt, if_pos (by omega), if_pos (by omega), if_pos (by omega)]
      exact ⟨rfl, rfl, rfl, fun _ _ => rfl⟩
    · rw [if_neg hlt, if_neg hlt, if_neg hlt, if_neg (by omega), if_neg (by omega), if_neg (by omega)]
      exact ⟨rfl, rfl, rfl, fun _ _ => rfl⟩

set_option maxRecDepth 100000 in
set_option maxHeartbeats 20000000 in
theorem refDecode_any (v : Value) (N : Nat) (L : Nat → Nat) (F : Nat → Nat → Nat) (w : World) (hv : ReadsP w v N L F) :
    Calls Tryz.prog 7 #[v] w (DecA N L F w) := by
  obtain ⟨A, c, rfl, v1, v2, v3, -⟩ := id hv
  have hzs := zero_state
  have hzp := plat_zero
  have HV := Lib.hid hv
  obtain ⟨w1, hw1⟩ : ∃ w1, w1 = ((w.alloc (.cells (scells z0 z0 zV).toArray 32)).alloc (.cells #[.int .i64 0, .int .i64 0] 34)).alloc (.cells (scells z0 z0 zV).toArray 32) := ⟨_, rfl⟩
  have BK : Hid (Blank w w.heap.size w1) := Lib.hid (by
    rw [hw1]
    refine ⟨(st_new w z0 z0 zV).below (((Below.refl _ _).alloc (Nat.le_refl _) _).alloc (by simp) _), ?_, ?_, (((Below.refl _ w).alloc (Nat.le_refl _) _).alloc (by simp) _).alloc (by simp; omega) _⟩
    · have h := row_new (w.alloc (.cells (scells z0 z0 zV).toArray 32)) 34 (fun _ => .int .i64 0) 2 [.int .i64 0, .int .i64 0] rfl (fun i hi => by rcases (by omega : i = 0 ∨ i = 1) with rfl | rfl <;> rfl)
      rw [World.size_alloc] at h
      exact RowIs.below h ((Below.refl _ _).alloc (Nat.le_refl _) _)
    · have h := st_new ((w.alloc (.cells (scells z0 z0 zV).toArray 32)).alloc (.cells #[.int .i64 0, .int .i64 0] 34)) z0 z0 zV
      rw [World.size_alloc, World.size_alloc] at h
      exact h)
  have RT : w1.there (w.heap.size + 1 + 1) 0 (scells z0 z0 zV).toArray.size := StIs.there_ BK.out.no
  have still : w1.setCells (w.heap.size + 1 + 1) 0 (scells z0 z0 zV) = w1 := StIs.still BK.out.no
  have V1 : (scells z0 z0 zV).toArray.all (·.oneCell') = true := scells_one fun _ _ => rfl
  clear hv
  have END : Hid (∀ w2, StIs w2 w.heap.size z0 z0 zV → RowIs w2 (w.heap.size + 1) 34 (fun _ => .int .i64 0) 2 → (loadVar 32 ⟨w.heap.size, 0, none⟩).run Tryz.prog w2 = .ok (.agg (scells z0 z0 zV).toArray) w2 ∧ (loadVar 34 ⟨w.heap.size + 1, 0, none⟩).run Tryz.prog w2 = .ok (.agg #[.int .i64 0, .int .i64 0]) w2) := Lib.hid fun w2 s2 p2 =>
    ⟨run_loadVar_mid _ _ _ _ (scells z0 z0 zV) _ (StIs.whole s2) Tryz.underlying32 rfl (state_len _ _ _), run_loadVar_mid _ _ _ _ [.int .i64 0, .int .i64 0] _ (RowIs.range p2 (by simp) (fun j hj => by
      have : j = 0 ∨ j = 1 := by simp at hj; omega
      rcases this with rfl | rfl <;> rfl)) Tryz.underlying34 rfl plat_size⟩
  by_cases hN : N < 2 ∨ 12 < N
  · have NOL : Hid (∀ s b seq K S M Z, ¬ Laid N L F s b seq K S M Z) := Lib.hid fun s b seq K S M Z hl => by
      obtain ⟨_, _, _, _, _, _, q2, q3, _⟩ := hl.holds
      omega
    rcases (by omega : N < 2 ∨ (¬ N < 2 ∧ 12 < N)) with h | ⟨h, h'⟩
    all_goals
      clear hN
      go_enter Tryz.func7, Tryz.ntmps7
      have RT2 : w1.there w.heap.size 0 (scells z0 z0 zV).toArray.size := StIs.there_ BK.out.st
      have still2 : w1.setCells w.heap.size 0 (scells z0 z0 zV) = w1 := StIs.still BK.out.st
      have V2 : (scells z0 z0 zV).toArray.all (·.oneCell') = true := scells_one fun _ _ => rfl
      have p0 : w1.cell? ⟨w.heap.size + 1, 0, none⟩ = some (.int .i64 0) := RowIs.cell BK.out.pl (i := 0) (by omega)
      have p1 : w1.cell? ⟨w.heap.size + 1, 1, none⟩ = some (.int .i64 0) := RowIs.cell BK.out.pl (i := 1) (by omega)
      have f0 := RowIs.free BK.out.pl 0
      have f1 := RowIs.free BK.out.pl 1
      have t0 : w1.setCell ⟨w.heap.size + 1, 0, none⟩ (.int .i64 0) = w1 := RowIs.still BK.out.pl (by omega) rfl
      have t1 : w1.setCell ⟨w.heap.size + 1, 1, none⟩ (.int .i64 0) = w1 := RowIs.still BK.out.pl (by omega) rfl
      go_wp2_with (first
        | (rw [← hw1]; clear hw1; refine wpList_store_mid rfl 32 (.tmp 6) (.tmp 22) rfl (w.heap.size + 1 + 1) 0 (scells z0 z0 zV).toArray rfl rfl RT (state_len' _ _ _) V1 ?_; rw [show (scells z0 z0 zV).toArray.toList = scells z0 z0 zV from rfl, still]; clear still RT V1)
        | (refine wpList_load_mid rfl 32 (.tmp 6) rfl (w.heap.size + 1 + 1) 0 rfl (scells z0 z0 zV) _ (StIs.whole BK.out.no) Tryz.underlying32 rfl (state_len _ _ _) ?_)
        | (refine wpList_store_mid rfl 32 (.tmp 2) (.tmp 31) rfl w.heap.size 0 (scells z0 z0 zV).toArray rfl rfl RT2 (state_len' _ _ _) V2 ?_; rw [show (scells z0 z0 zV).toArray.toList = scells z0 z0 zV from rfl, still2]; clear still2 RT2 V2))
      refine bodyPost_ret (results_cells22 (fn := Tryz.f7) rfl _ _ ⟨w.heap.size, 0, none⟩ ⟨w.heap.size + 1, 0, none⟩ _ _ rfl rfl (END.out _ BK.out.st BK.out.pl).1 (END.out _ BK.out.st BK.out.pl).2) rfl ?_
      exact ⟨.inr ⟨NOL.out, rfl⟩, BK.out.below⟩
  · have n1 : ¬ N < 2 := by omega
    have n2 : ¬ 12 < N := by omega
    have n1' : ¬ (N : Int) < 2 := by omega
    have n2' : ¬ (12 : Int) < (N : Int) := by omega
    have d1 : decide ((N : Int) < 2) = false := by simp; omega
    have d2 : decide ((12 : Int) < (N : Int)) = false := by simp; omega
    clear hN n1 n2
    have OT : Hid (Own (w1.alloc (.cells #[] 5)) w1.heap.size (.slice (some ⟨w1.heap.size, 0, none⟩) 0 0) (txt F 0).1 (txt F 0).2) := Lib.hid (own_new w1 _)
    have BT : Hid (Below w1.heap.size w1 (w1.alloc (.cells #[] 5))) := Lib.hid ((Below.refl _ _).alloc (Nat.le_refl _) _)
    obtain ⟨w2, hw2⟩ : ∃ w2, w2 = w1.alloc (.cells #[] 5) := ⟨_, rfl⟩
    rw [← hw2] at OT BT
    go_enter Tryz.func7, Tryz.ntmps7
    go_wp2_with (rw [← hw1]; clear hw1; refine wpList_store_mid rfl 32 (.tmp 6) (.tmp 22) rfl (w.heap.size + 1 + 1) 0 (scells z0 z0 zV).toArray rfl rfl RT (state_len' _ _ _) V1 ?_; rw [show (scells z0 z0 zV).toArray.toList = scells z0 z0 zV from rfl, still]; clear still RT V1)
    rw [← hw2]
    clear hw2 d1 d2
    go_loopw [7, 8] (fun u x wr => ∃ (k : Nat) (vt : Value), k ≤ N ∧ vt = u ∧ x = .int .i64 (k : Int) ∧ (∀ i, i < k → Sealed (L i) (F i)) ∧ Own wr w1.heap.size vt (txt F k).1 (txt F k).2 ∧ (txt F k).1 ≤ 52 * k ∧ (∀ j, j < (txt F k).1 → (txt F k).2 j < 256) ∧ Below w1.heap.size w1 wr) (fun _ x _ => N - (intOf x).toNat)
    case atStart => exact ⟨0, _, by omega, rfl, rfl, fun i hi => absurd hi (Nat.not_lt_zero _), OT.out, Nat.le_refl _, fun j hj => absurd hj (Nat.not_lt_zero _), BT.out⟩
    case round =>
      clear OT BT
      obtain ⟨k, vt, hk, rfl, rfl, hse, ho, hlen, hsm, hb⟩ := hrel
      have HSE := Lib.hid hse
      have HO := Lib.hid ho
      have HLEN := Lib.hid hlen
      have HSM := Lib.hid hsm
      have HB := Lib.hid hb
      clear hse ho hlen hsm hb
      have BW : Hid (Below w.heap.size w wr) := Lib.hid (BK.out.below.trans (HB.out.mono BK.out.below.size))
      by_cases hlt : k < N
      · obtain ⟨ad, u, rfl, hcu, hru⟩ := (HV.out.below BW.out).page_at hlt
        have RU := Lib.hid hru
        clear hru
        go_wp2_with fail
        refine (refOpen_any u (L k) (F k) wr RU.out).mono ?_
        rintro e w3 (⟨hs, hg⟩ | ⟨hs, x, hx, rfl, hb3⟩)
        · have hsmk : ∀ i, i < 60 → F k i < 256 := by
            obtain ⟨_, _, _, _, _, _, p⟩ := RU.out
            have := hs.1
            exact fun i hi => p.small i (by omega)
          obtain ⟨vb, rfl, hr3, hb3⟩ := hg.reads hsmk
          obtain ⟨A3, c3, rfl, q1, q2, q3, q4⟩ := hr3
          obtain ⟨bd, rfl⟩ := q4.addr (by omega)
          have SE2 : Hid (∀ i, i < k + 1 → Sealed (L i) (F i)) := Lib.hid fun i hi => by
            by_cases hik : i < k
            · exact HSE.out i hik
            · obtain rfl : i = k := by omega
              exact hs
          have HO3 : Hid (Own w3 w1.heap.size vt (txt F k).1 (txt F k).2) := Lib.hid (owns_later HO.out hb3)
          have B3 := Lib.hid (HB.out.trans (hb3.mono HB.out.size))
          have Q4 := Lib.hid q4
          clear hs hg hcu hb3 q4
          obtain ⟨y, ey⟩ : ∃ y, y = F k 5 := ⟨_, rfl⟩
          have hy : y < 256 := by rw [ey]; exact hsmk 5 (by omega)
          have c5 : w3.cell? ⟨bd.block, bd.off + 5, none⟩ = some (.int .u8 (y : Int)) := by rw [ey]; exact Q4.out.at_ (i := 5) (by omega)
          have EY := Lib.hid ey
          have HSK := Lib.hid hsmk
          clear ey hsmk
          by_cases hk0 : k = 0
          · subst hk0
            have FIN : Hid (Own w3 w1.heap.size vt (txt F (0 + 1)).1 (txt F (0 + 1)).2 ∧ (txt F (0 + 1)).1 ≤ 52 * (0 + 1) ∧ (∀ j, j < (txt F (0 + 1)).1 → (txt F (0 + 1)).2 j < 256) ∧ Below w1.heap.size w1 w3) := Lib.hid (by
              rw [txt_one]
              exact ⟨HO3.out, by have := HLEN.out; omega, HSM.out, B3.out⟩)
            go_wp2
            go_roundw
            case rel => exact ⟨0 + 1, _, by omega, rfl, by go_num, SE2.out, FIN.out⟩
            case measure => simp [intOf]; omega
          · have hk1 : 0 < k := by omega
            have hk2 : (0 : Int) < (k : Int) := by omega
            have KP := Lib.hid hk1
            clear hk0 hk1
            by_cases hy52 : y ≤ 52
            · have hy52' : (y : Int) ≤ 52 := by omega
              have part : BytesAt w3 (some ⟨bd.block, bd.off + 6, none⟩) y fun j => F k (6 + j) := BytesAt.from_ (t := 6) (k := y) Q4.out (by omega)
              obtain ⟨v', w', r, o', nn, gr⟩ := run_bytes (c := c3 - 6) 44 HO3.out part (by intro e; cases e) (by have := HLEN.out; omega) B3.out.size
              have bb := HO3.out.grown_below B3.out (Nat.le_refl _) B3.out.size gr
              have sh : ∃ g cap, v' = .slice g ((txt F k).1 + y) cap := by
                rcases o'.2 with ⟨rfl, h0⟩ | ⟨g, cap, cur, rfl, _⟩
                · exact ⟨none, 0, by rw [h0]⟩
                · exact ⟨_, _, rfl⟩
              have FIN : Hid (Own w' w1.heap.size v' (txt F (k + 1)).1 (txt F (k + 1)).2 ∧ (txt F (k + 1)).1 ≤ 52 * (k + 1) ∧ (∀ j, j < (txt F (k + 1)).1 → (txt F (k + 1)).2 j < 256) ∧ Below w1.heap.size w1 w') := Lib.hid (by
                rw [txt_some KP.out (by rw [← EY.out]; exact hy52), ← EY.out]
                exact ⟨o', by have := HLEN.out; show _ + y ≤ _; omega, behind_lt HSM.out fun i hi => part.small i hi, bb⟩)
              obtain ⟨gv, cv, ev'⟩ := sh
              have shv : ∃ g n cap, vt = .slice g n cap := by
                rcases HO3.out.2 with ⟨rfl, _⟩ | ⟨g, cap, cur, rfl, _⟩
                · exact ⟨_, _, _, rfl⟩
                · exact ⟨_, _, _, rfl⟩
              obtain ⟨gt, nt, ct, evt⟩ := shv
              subst evt
              subst ev'
              have R : Hid ((Builtin.append_ #[44, 44] 44 #[.slice gt nt ct, .slice (some ⟨bd.block, bd.off + 6, none⟩) (6 + y - 6) (c3 - 6)]).run Tryz.prog w3 = .ok (.slice gv ((txt F k).1 + y) cv) w') := Lib.hid (by rw [Nat.add_sub_cancel_left]; exact r)
              clear r o' nn gr bb part HO3
              go_wp2_with (at_builtin; refine Lib.wpList_append_run _ rfl (.tmp 60) (.tmp 67) _ _ rfl _ _ rfl rfl _ _ R.out ?_)
              go_roundw
              case rel => exact ⟨k + 1, _, by omega, rfl, by go_num, SE2.out, FIN.out⟩
              case measure => simp [intOf]; omega
            · have hy52' : decide ((y : Int) ≤ 52) = false := by simp; omega
              have FIN : Hid (Own w3 w1.heap.size vt (txt F (k + 1)).1 (txt F (k + 1)).2 ∧ (txt F (k + 1)).1 ≤ 52 * (k + 1) ∧ (∀ j, j < (txt F (k + 1)).1 → (txt F (k + 1)).2 j < 256) ∧ Below w1.heap.size w1 w3) := Lib.hid (by
                obtain ⟨e1, e2⟩ := txt_none (F := F) KP.out (by rw [← EY.out]; exact hy52)
                rw [e1]
                exact ⟨HO3.out.congr e2, by have := HLEN.out; omega, fun j hj => by rw [← e2 j hj]; exact HSM.out j hj, B3.out⟩)
              clear hy52
              go_wp2
              go_roundw
              case rel => exact ⟨k + 1, _, by omega, rfl, by go_num, SE2.out, FIN.out⟩
              case measure => simp [intOf]; omega
        · have NOL : Hid (∀ s b seq K S M Z, ¬ Laid N L F s b seq K S M Z) := Lib.hid fun s b seq K S M Z hl => by
            obtain ⟨_, _, _, _, _, _, _, _, q4, _⟩ := hl.holds
            exact hs (q4 k hlt)
          have B3 := Lib.hid (HB.out.trans (hb3.mono HB.out.size))
          have BK3 := Lib.hid (BK.out.later B3.out)
          have hne : (x != 0) = true := by simpa using hx
          clear hs hx hb3 hcu
          have RT2 : w3.there w.heap.size 0 (scells z0 z0 zV).toArray.size := StIs.there_ BK3.out.st
          have still2 : w3.setCells w.heap.size 0 (scells z0 z0 zV) = w3 := StIs.still BK3.out.st
          have V2 : (scells z0 z0 zV).toArray.all (·.oneCell') = true := scells_one fun _ _ => rfl
          have p0 : w3.cell? ⟨w.heap.size + 1, 0, none⟩ = some (.int .i64 0) := RowIs.cell BK3.out.pl (i := 0) (by omega)
          have p1 : w3.cell? ⟨w.heap.size + 1, 1, none⟩ = some (.int .i64 0) := RowIs.cell BK3.out.pl (i := 1) (by omega)
          have f0 := RowIs.free BK3.out.pl 0
          have f1 := RowIs.free BK3.out.pl 1
          have t0 : w3.setCell ⟨w.heap.size + 1, 0, none⟩ (.int .i64 0) = w3 := RowIs.still BK3.out.pl (by omega) rfl
          have t1 : w3.setCell ⟨w.heap.size + 1, 1, none⟩ (.int .i64 0) = w3 := RowIs.still BK3.out.pl (by omega) rfl
          go_wp2_with (first
            | (refine wpList_load_mid rfl 32 (.tmp 6) rfl (w.heap.size + 1 + 1) 0 rfl (scells z0 z0 zV) _ (StIs.whole BK3.out.no) Tryz.underlying32 rfl (state_len _ _ _) ?_)
            | (refine wpList_store_mid rfl 32 (.tmp 2) (.tmp 50) rfl w.heap.size 0 (scells z0 z0 zV).toArray rfl rfl RT2 (state_len' _ _ _) V2 ?_; rw [show (scells z0 z0 zV).toArray.toList = scells z0 z0 zV from rfl, still2]; clear still2 RT2 V2))
          refine bodyPost_ret (results_cells22 (fn := Tryz.f7) rfl _ _ ⟨w.heap.size, 0, none⟩ ⟨w.heap.size + 1, 0, none⟩ _ _ rfl rfl (END.out _ BK3.out.st BK3.out.pl).1 (END.out _ BK3.out.st BK3.out.pl).2) rfl ?_
          exact ⟨.inr ⟨NOL.out, rfl⟩, BK3.out.below⟩
      · obtain rfl : k = N := by omega
        obtain ⟨wt, hwt⟩ : ∃ wt, wt = wr := ⟨_, rfl⟩
        subst hwt
        obtain ⟨n, en⟩ : ∃ n, n = (txt F k).1 := ⟨_, rfl⟩
        obtain ⟨f, ef⟩ : ∃ f, f = (txt F k).2 := ⟨_, rfl⟩
        rw [← en, ← ef] at HO HSM
        rw [← en] at HLEN
        have hn660 : n ≤ 660 := by have := HLEN.out; omega
        have TXT : Hid (n = (txt F k).1 ∧ f = (txt F k).2) := Lib.hid ⟨en, ef⟩
        have hk2 : 2 ≤ k ∧ k ≤ 12 := by omega
        have TR := Lib.hid (HO.out.reads HSM.out)
        obtain ⟨At, ct, rfl, tq1, tq2, tq3, -⟩ := id TR.out
        obtain ⟨ad, u, rfl, hcu, hru⟩ := (HV.out.below BW.out).page_at (show 0 < k by omega)
        have l64 : L 0 = 64 := (HSE.out 0 (by omega)).1
        rw [l64] at hru
        have cu : wt.cell? ad = some u := by simpa [Addr.add] using hcu
        obtain ⟨Au, cu', rfl, uq1, uq2, uq3, uq4⟩ := id hru
        have UB := Lib.hid uq4
        have NUM : Hid (∀ W (t m : Nat), Below wt.heap.size wt W → 1 ≤ m → m ≤ 4 → t + m ≤ 64 → Calls Tryz.prog 17 #[.slice Au 64 cu', .int .i64 (t : Int), .int .i64 (m : Int)] W fun e w' => e = .returned (.int .i64 (val (fun j => F 0 (t + j)) m : Int)) ∧ W = w') := Lib.hid fun W t m hW h1 h4 ht => number_ok Au 64 cu' (F 0) t m W uq1 uq2 h1 h4 ht (UB.out.below hW)
        obtain ⟨s, es⟩ : ∃ s, s = F 0 8 := ⟨_, rfl⟩
        obtain ⟨b, eb⟩ : ∃ b, b = F 0 9 := ⟨_, rfl⟩
        have hs256 : s < 256 := by rw [es]; exact UB.out.small 8 (by omega)
        have hb256 : b < 256 := by rw [eb]; exact UB.out.small 9 (by omega)
        have NS : Hid (∀ W, Below wt.heap.size wt W → Calls Tryz.prog 17 #[.slice Au 64 cu', .int .i64 8, .int .i64 1] W fun e w' => e = .returned (.int .i64 (s : Int)) ∧ W = w') := Lib.hid fun W hW => by
          have := NUM.out W 8 1 hW (by omega) (by omega) (by omega)
          rw [show val (fun j => F 0 (8 + j)) 1 = s by rw [es]; simp [val]] at this
          exact this
        have NB : Hid (∀ W, Below wt.heap.size wt W → Calls Tryz.prog 17 #[.slice Au 64 cu', .int .i64 9, .int .i64 1] W fun e w' => e = .returned (.int .i64 (b : Int)) ∧ W = w') := Lib.hid fun W hW => by
          have := NUM.out W 9 1 hW (by omega) (by omega) (by omega)
          rw [show val (fun j => F 0 (9 + j)) 1 = b by rw [eb]; simp [val]] at this
          exact this
        have PGC : Hid (∀ o, (wt.drew.alloc o).cell? ad = some (.slice Au 64 cu')) := Lib.hid fun o => cell_later (w := wt.drew) ((Below.refl _ _).alloc (Nat.le_refl _) o) cu
        have BD : Below wt.heap.size wt wt.drew := (Below.refl _ _).drew
        have BDA : ∀ o, Below wt.heap.size wt (wt.drew.alloc o) := fun o => BD.alloc (Nat.le_refl _) o
        have HBD := Lib.hid BD
        have HBDA := Lib.hid BDA
        have pgc := PGC.out
        have ES := Lib.hid es
        have EB := Lib.hid eb
        clear en ef hcu hru uq3 uq4 es eb BD BDA v1 v2 v3
        obtain ⟨wA, hwA⟩ : ∃ wA, wA = (wt.alloc (.cells #[.int .i64 0, .int .i64 0] 34)).drew := ⟨_, rfl⟩
        have HBA : Hid (Below wt.heap.size wt wA) := Lib.hid (by rw [hwA]; exact ((Below.refl _ wt).alloc (Nat.le_refl _) _).drew)
        have PA : RowIs wA wt.heap.size 34 (fun _ => .int .i64 0) 2 := by
          rw [hwA]
          exact row_new wt 34 (fun _ => .int .i64 0) 2 [.int .i64 0, .int .i64 0] rfl (fun i hi => by rcases (by omega : i = 0 ∨ i = 1) with rfl | rfl <;> rfl)
        have pa0 : wA.cell? ⟨wt.heap.size, 0, none⟩ = some (.int .i64 0) := RowIs.cell PA (i := 0) (by omega)
        have pa1 : wA.cell? ⟨wt.heap.size, 1, none⟩ = some (.int .i64 0) := RowIs.cell PA (i := 1) (by omega)
        have fa0 := RowIs.free PA 0
        have fa1 := RowIs.free PA 1
        have P1 : RowIs (wA.setCell ⟨wt.heap.size, 0, none⟩ (.int .i64 (s : Int))) wt.heap.size 34 (fun i => if i = 0 then .int .i64 (s : Int) else .int .i64 0) 2 := PA.set_ (fun _ => by simp) (fun i _ hi => by simp [hi])
        have P2 : RowIs ((wA.setCell ⟨wt.heap.size, 0, none⟩ (.int .i64 (s : Int))).setCell ⟨wt.heap.size, 1, none⟩ (.int .i64 (b : Int))) wt.heap.size 34 (fun i => if i = 0 then .int .i64 (s : Int) else .int .i64 (b : Int)) 2 := P1.set_ (fun _ => by simp) (fun i hi hk => by rw [if_pos (show i = 0 by omega), if_pos (show i = 0 by omega)])
        have pb1 : (wA.setCell ⟨wt.heap.size, 0, none⟩ (.int .i64 (s : Int))).cell? ⟨wt.heap.size, 1, none⟩ = some (.int .i64 0) := RowIs.cell P1 (i := 1) (by omega)
        have fb1 := RowIs.free P1 1
        obtain ⟨wB, hwB⟩ : ∃ wB, wB = (wA.setCell ⟨wt.heap.size, 0, none⟩ (.int .i64 (s : Int))).setCell ⟨wt.heap.size, 1, none⟩ (.int .i64 (b : Int)) := ⟨_, rfl⟩
        have PB : Hid (wB.cell? ⟨wt.heap.size, 0, none⟩ = some (.int .i64 (s : Int)) ∧ wB.cell? ⟨wt.heap.size, 1, none⟩ = some (.int .i64 (b : Int)) ∧ Below wt.heap.size wt wB ∧ wt.heap.size + 1 ≤ wB.heap.size) := Lib.hid (by
          rw [hwB]
          refine ⟨RowIs.cell P2 (i := 0) (by omega), RowIs.cell P2 (i := 1) (by omega), (HBA.out.setCell (p := ⟨wt.heap.size, 0, none⟩) (Nat.le_refl _) _).setCell (p := ⟨wt.heap.size, 1, none⟩) (Nat.le_refl _) _, ?_⟩
          have := RowIs.lt P2
          omega)
        have k0 : ¬ k = 0 := by omega
        clear PA P1 P2 PGC pgc HBDA
        go_upto_region 13 with (fail)
        go_cut [11] (fun s11 wx => s11 = .pointer (some ⟨wt.heap.size, 0, none⟩) ∧ wx.cell? ⟨wt.heap.size, 0, none⟩ = some (.int .i64 (s : Int)) ∧ wx.cell? ⟨wt.heap.size, 1, none⟩ = some (.int .i64 (b : Int)) ∧ Below wt.heap.size wt wx ∧ wt.heap.size + 1 ≤ wx.heap.size)
        case first =>
          refine wp_region_noPanic ?_
          refine wp_region_held_drew (S := fun w' => Below wt.heap.size wt w') (by kernel_rfl) HBD.out (fun hH => ?_)
          refine wpAnyH_take (i := 0) (v := .slice (some ad) k c) rfl (by kernel_rfl) (by kernel_rfl) (by kernel_rfl) (fun _ _ _ h => h) (Or.inl ⟨by rfl, fun w' hS => by go_simp⟩) hH ?_
          simp only [Act.put, List.setIfInBounds_toArray]
          refine wpAnyH_take (i := 1) (v := .pointer (some ad)) rfl (by kernel_rfl) (by kernel_rfl) (by kernel_rfl) (fun _ _ _ h => h) (Or.inl ⟨by rfl, fun w' hS => by go_simp⟩) hH ?_
          simp only [Act.put]
          refine wpAnyH_take (i := 2) (v := .slice Au 64 cu') rfl (by kernel_rfl) (by kernel_rfl) (by kernel_rfl) (fun _ _ _ h => h) (Or.inl ⟨by rfl, fun w' hS => by have s1 := cell_later hS cu; go_simp⟩) hH ?_
          simp only [Act.put]
          refine wpAnyH_take (i := 4) (v := .slice (some ad) k c) rfl (by kernel_rfl) (by kernel_rfl) (by kernel_rfl) (fun _ _ _ h => h) (Or.inl ⟨by rfl, fun w' hS => by go_simp⟩) hH ?_
          simp only [Act.put]
          refine wpAnyH_take (i := 5) (v := .pointer (some ad)) rfl (by kernel_rfl) (by kernel_rfl) (by kernel_rfl) (fun _ _ _ h => h) (Or.inl ⟨by rfl, fun w' hS => by go_simp⟩) hH ?_
          simp only [Act.put]
          refine wpAnyH_take (i := 6) (v := .slice Au 64 cu') rfl (by kernel_rfl) (by kernel_rfl) (by kernel_rfl) (fun _ _ _ h => h) (Or.inl ⟨by rfl, fun w' hS => by have s1 := cell_later hS cu; go_simp⟩) hH ?_
          simp only [Act.put]
          refine wpAnyH_ready (rs := [3, 9]) (by kernel_rfl) (by simp) ?_
          refine AllReadyH.cons rfl (fun K_ hK_ => ?_) (AllReadyH.cons rfl (fun K_ hK_ => ?_) AllReadyH.nil)
          · rw [if_pos (by rfl)]
            go_simp
            with_reducible refine (NS.out _ hH).mono ?_
            rintro e w' ⟨rfl, rfl⟩
            refine hK_.out _ _ hH (fun hH => ?_)
            clear hK_ K_
            refine wpAnyH_ready (rs := [7, 9]) (by kernel_rfl) (by simp) ?_
            refine AllReadyH.cons rfl (fun K_ hK_ => ?_) (AllReadyH.cons rfl (fun K_ hK_ => ?_) AllReadyH.nil)
            · rw [if_pos (by rfl)]
              go_simp
              with_reducible refine (NB.out _ hH).mono ?_
              rintro e w' ⟨rfl, rfl⟩
              refine hK_.out _ _ hH (fun hH => ?_)
              clear hK_ K_
              refine wpAnyH_take (i := 8) (v := .agg #[.int .i64 (s : Int), .int .i64 (b : Int)]) rfl (by kernel_rfl) (by kernel_rfl) (by kernel_rfl) (fun _ _ _ h => h) (Or.inl ⟨by rfl, fun w' hS => by go_simp⟩) hH ?_
              simp only [Act.put]
              refine wpAnyH_ready (rs := [9]) (by kernel_rfl) (by simp) ?_
              refine AllReadyH.cons rfl (fun K_ hK_ => ?_) AllReadyH.nil
              rw [if_pos (by rfl)]
              go_simp
              rw [← hwA]
              clear hwA
              refine hK_.out _ _ HBA.out (fun hH => ?_)
              clear hK_ K_
              refine wpAnyH_ready (rs := [10]) (by kernel_rfl) (by simp) ?_
              refine AllReadyH.cons rfl (fun K_ hK_ => ?_) AllReadyH.nil
              rw [if_pos (by rfl)]
              go_simp
              rw [← hwB]
              refine hK_.out _ _ PB.out.2.2.1 (fun hH => ?_)
              clear hK_ K_
              refine wpAnyH_done (by kernel_rfl) ?_ _
              refine NoPanic.normal ?_
              go_wp2
              go_meet
              exact ⟨rfl, PB.out⟩
            · rw [if_pos (by rfl)]
              go_simp
              rw [← hwA]
              clear hwA
              refine hK_.out _ _ HBA.out (fun hH => ?_)
              clear hK_ K_
              refine wpAnyH_ready (rs := [7]) (by kernel_rfl) (by simp) ?_
              refine AllReadyH.cons rfl (fun K_ hK_ => ?_) AllReadyH.nil
              rw [if_pos (by rfl)]
              go_simp
              with_reducible refine (NB.out _ hH).mono ?_
              rintro e w' ⟨rfl, rfl⟩
              refine hK_.out _ _ hH (fun hH => ?_)
              clear hK_ K_
              refine wpAnyH_take (i := 8) (v := .agg #[.int .i64 (s : Int), .int .i64 (b : Int)]) rfl (by kernel_rfl) (by kernel_rfl) (by kernel_rfl) (fun _ _ _ h => h) (Or.inl ⟨by rfl, fun w' hS => by go_simp⟩) hH ?_
              simp only [Act.put]
              refine wpAnyH_ready (rs := [10]) (by kernel_rfl) (by simp) ?_
              refine AllReadyH.cons rfl (fun K_ hK_ => ?_) AllReadyH.nil
              rw [if_pos (by rfl)]
              go_simp
              rw [← hwB]
              refine hK_.out _ _ PB.out.2.2.1 (fun hH => ?_)
              clear hK_ K_
              refine wpAnyH_done (by kernel_rfl) ?_ _
              refine NoPanic.normal ?_
              go_wp2
              go_meet
              exact ⟨rfl, PB.out⟩
          · rw [if_pos (by rfl)]
            go_simp
            rw [← hwA]
            clear hwA
            refine hK_.out _ _ HBA.out (fun hH => ?_)
            clear hK_ K_
            refine wpAnyH_ready (rs := [3]) (by kernel_rfl) (by simp) ?_
            refine AllReadyH.cons rfl (fun K_ hK_ => ?_) AllReadyH.nil
            rw [if_pos (by rfl)]
            go_simp
            with_reducible refine (NS.out _ hH).mono ?_
            rintro e w' ⟨rfl, rfl⟩
            refine hK_.out _ _ hH (fun hH => ?_)
            clear hK_ K_
            refine wpAnyH_ready (rs := [7]) (by kernel_rfl) (by simp) ?_
            refine AllReadyH.cons rfl (fun K_ hK_ => ?_) AllReadyH.nil
            rw [if_pos (by rfl)]
            go_simp
            with_reducible refine (NB.out _ hH).mono ?_
            rintro e w' ⟨rfl, rfl⟩
            refine hK_.out _ _ hH (fun hH => ?_)
            clear hK_ K_
            refine wpAnyH_take (i := 8) (v := .agg #[.int .i64 (s : Int), .int .i64 (b : Int)]) rfl (by kernel_rfl) (by kernel_rfl) (by kernel_rfl) (fun _ _ _ h => h) (Or.inl ⟨by rfl, fun w' hS => by go_simp⟩) hH ?_
            simp only [Act.put]
            refine wpAnyH_ready (rs := [10]) (by kernel_rfl) (by simp) ?_
            refine AllReadyH.cons rfl (fun K_ hK_ => ?_) AllReadyH.nil
            rw [if_pos (by rfl)]
            go_simp
            rw [← hwB]
            refine hK_.out _ _ PB.out.2.2.1 (fun hH => ?_)
            clear hK_ K_
            refine wpAnyH_done (by kernel_rfl) ?_ _
            refine NoPanic.normal ?_
            go_wp2
            go_meet
            exact ⟨rfl, PB.out⟩
        case rest =>
          obtain ⟨rfl, pc0, pc1, pcb, pcs⟩ := hcut
          have PC0 := Lib.hid pc0
          have PC1 := Lib.hid pc1
          have PCB := Lib.hid pcb
          have PCS := Lib.hid pcs
          obtain ⟨g, eg⟩ : ∃ g, g = wc.heap.size := ⟨_, rfl⟩
          obtain ⟨w5, hw5⟩ : ∃ w5, w5 = wc.alloc (.cells (scells z0 z0 zV).toArray 32) := ⟨_, rfl⟩
          have J5 : Hid (RowsJ g z0 z0 zV z0 (rZ b n f) w5) := Lib.hid (by
            rw [hw5, eg]
            exact ⟨st_new wc z0 z0 zV, fun i _ => ownZ_none _ _ _, fun i j _ _ _ q hq => (by cases hq)⟩)
          have B5 : Hid (Below wt.heap.size wt w5) := Lib.hid (by rw [hw5]; exact pcb.alloc pcb.size _)
          have B5c : Hid (Below wc.heap.size wc w5) := Lib.hid (by rw [hw5]; exact (Below.refl _ _).alloc (Nat.le_refl _) _)
          have RT5 : w5.there g 0 (scells z0 z0 zV).toArray.size := StIs.there_ J5.out.st
          have still5 : w5.setCells g 0 (scells z0 z0 zV) = w5 := StIs.still J5.out.st
          have V5 : (scells z0 z0 zV).toArray.all (·.oneCell') = true := scells_one fun _ _ => rfl
          have GW : Hid (wt.heap.size + 1 ≤ g ∧ g = wc.heap.size) := Lib.hid ⟨by rw [eg]; exact pcs, eg⟩
          clear pcb pcs hwA hwB HBA PB pa0 pa1 fa0 fa1 pb1 fb1
          go_wp2_with (rw [← hw5, ← eg]; clear hw5 eg; refine wpList_store_mid rfl 32 (.tmp 12) (.tmp 78) rfl g 0 (scells z0 z0 zV).toArray rfl rfl RT5 (state_len' _ _ _) V5 ?_; rw [show (scells z0 z0 zV).toArray.toList = scells z0 z0 zV from rfl, still5]; clear still5 RT5 V5)
          go_loopw [13, 14] (fun x13 x14 wq => ∃ (i : Nat) (V : Nat → Value), i ≤ 8 ∧ x13 = .int .i64 (rpos n f i : Int) ∧ x14 = .int .i64 (i : Int) ∧ (∀ j, j < i → rpos n f j + 2 ≤ n) ∧ RowsJ g (rK n f i) (rS n f i) V (rM n f i) (rZ b n f) wq ∧ Below g w5 wq) (fun _ x _ => 8 - (intOf x).toNat)
          case atStart => exact ⟨0, _, by omega, rfl, rfl, fun j hj => absurd hj (Nat.not_lt_zero _), J5.out, Below.refl _ _⟩
          case round =>
            clear J5
            obtain ⟨i, V, hi, rfl, rfl, hpos, hrows, hbl⟩ := hrel
            have HPOS := Lib.hid hpos
            have HJ := Lib.hid hrows
            have HBL := Lib.hid hbl
            have BQ : Hid (Below wt.heap.size wt wr) := Lib.hid (B5.out.trans (hbl.mono (by have := GW.out; omega)))
            have hple : rpos n f i ≤ n := rpos_le n f i hpos
            clear hpos hrows hbl
            obtain ⟨p, ep⟩ : ∃ p, p = rpos n f i := ⟨_, rfl⟩
            rw [← ep] at hple ⊢
            have EP := Lib.hid ep
            clear ep
            by_cases hgo : i < 8 ∧ p + 2 ≤ n
            · obtain ⟨h8, hp2⟩ := hgo
              have h8' : (i : Int) < 8 := by omega
              have h8n : ¬ (8 : Int) ≤ (i : Int) := by omega
              have hp2' : (p : Int) + 2 ≤ (n : Int) := by omega
              obtain ⟨bt, eAt, tq⟩ : ∃ bt, At = some bt ∧ BytesAt wr (some bt) n f := by
                obtain ⟨_, _, e', _, _, _, q⟩ := TR.out.below BQ.out
                injection e' with x1 x2 x3
                subst x1 x3
                obtain ⟨bt, e⟩ := q.addr (by omega)
                exact ⟨bt, e, e ▸ q⟩
              subst eAt
              obtain ⟨y0, ey0⟩ : ∃ y, y = f p := ⟨_, rfl⟩
              obtain ⟨y1, ey1⟩ : ∃ y, y = f (p + 1) := ⟨_, rfl⟩
              have y0s : y0 < 256 := by rw [ey0]; exact tq.small p (by omega)
              have y1s : y1 < 256 := by rw [ey1]; exact tq.small (p + 1) (by omega)
              have c0 : wr.cell? (bt.add p) = some (.int .u8 (y0 : Int)) := by rw [ey0]; exact tq.at_ (by omega)
              have c1 : wr.cell? ⟨bt.block, bt.off + (p + 1), none⟩ = some (.int .u8 (y1 : Int)) := by rw [ey1]; exact tq.at_ (i := p + 1) (by omega)
              have s0 := HJ.out.st.kind h8
              have s1 := HJ.out.st.size h8
              have f0 := RowIs.free HJ.out.st (i * 2)
              have f1 := RowIs.free HJ.out.st (i * 2 + 1)
              obtain ⟨jr, ja⟩ := entry_put (y0 := y0) (y1 := y1) HJ.out h8
              obtain ⟨w6, hw6⟩ : ∃ w6, w6 = ((wr.setCell ⟨g, i * 2, none⟩ (.int .i64 (y0 : Int))).setCell ⟨g, i * 2 + 1, none⟩ (.int .i64 (y1 : Int))).drew := ⟨_, rfl⟩
              have J6 : Hid (RowsJ g (upd (rK n f i) i y0) (upd (rS n f i) i y1) V (upd (rM n f i) i 0) (rZ b n f) w6) := Lib.hid (by
                rw [hw6]
                refine RowsJ.congr (M := rM n f i) (Z := rZ b n f) (K := upd (rK n f i) i y0) (S := upd (rS n f i) i y1) (show RowsJ g _ _ V _ _ (World.drew _) from ⟨jr.st, jr.row, jr.apt⟩) fun j hj => ⟨rfl, rfl, ?_, fun _ _ => rfl⟩
                by_cases hji : j = i
                · subst hji
                  rw [upd_here]
                  unfold rM
                  rw [if_neg (Nat.lt_irrefl _)]
                · rw [upd_other hji])
              have B6 : Hid (Below g w5 w6) := Lib.hid (by
                rw [hw6]
                exact ((HBL.out.setCell (p := ⟨g, i * 2, none⟩) (Nat.le_refl _) _).setCell (p := ⟨g, i * 2 + 1, none⟩) (Nat.le_refl _) _).drew)
              have EY0 := Lib.hid ey0
              have EY1 := Lib.hid ey1
              have pu : IntKind.i64.wrap (y0 : Int) = (y0 : Int) := IntWalk.i64_in _ (by omega)
              have pu1 : IntKind.i64.wrap (y1 : Int) = (y1 : Int) := IntWalk.i64_in _ (by omega)
              clear ey0 ey1 jr ja tq
              go_wp2
              go_region
              rw [← hw6]
              obtain ⟨m, em⟩ : ∃ m, m = min y1 ((n - p - 2) / 2) := ⟨_, rfl⟩
              have hm : p + 2 + 2 * m ≤ n := by omega
              have hmy : m ≤ y1 := by omega
              have EM := Lib.hid em
              have sz6 := StIs.size J6.out.st h8
              rw [upd_here] at sz6
              clear c0 c1 s0 s1 f0 f1 hw6 pu pu1 em HJ HBL
              go_wp2
              clear sz6
              go_loopw [13, 15] (fun x13 x15 wq => ∃ (j : Nat) (V' : Nat → Value), j ≤ m ∧ x13 = .int .i64 ((p + 2 + 2 * j : Nat) : Int) ∧ x15 = .int .i64 (j : Int) ∧ RowsJ g (upd (rK n f i) i y0) (upd (rS n f i) i y1) V' (upd (rM n f i) i j) (rZ b n f) wq ∧ Below g w5 wq) (fun _ x _ => m - (intOf x).toNat)
              case atStart => exact ⟨0, V, by omega, by go_num, rfl, J6.out, B6.out⟩
              case round =>
                clear J6 B6
                obtain ⟨j, V', hj, rfl, rfl, hrows, hbl⟩ := hrel
                have HJ := Lib.hid hrows
                have HBL := Lib.hid hbl
                have BQ2 : Hid (Below wt.heap.size wt wr) := Lib.hid (B5.out.trans (hbl.mono (by have := GW.out; omega)))
                have sz7 := StIs.size hrows.st h8
                rw [upd_here] at sz7
                clear hrows hbl
                obtain ⟨t, et⟩ : ∃ t, t = p + 2 + 2 * j := ⟨_, rfl⟩
                rw [← et]
                by_cases hlt : j < m
                · have hjy : (j : Int) < (y1 : Int) := by omega
                  have htn : (t : Int) + 2 ≤ (n : Int) := by omega
                  obtain ⟨z, ez⟩ : ∃ z, z = rowN (fun q => f (p + (2 + q))) 2 j := ⟨_, rfl⟩
                  have NT : Hid (Calls Tryz.prog 17 #[.slice (some bt) n ct, .int .i64 (t : Int), .int .i64 2] wr fun e w' => e = .returned (.int .i64 (z : Int)) ∧ wr = w') := Lib.hid (by
                    obtain ⟨_, _, e', _, _, _, q⟩ := TR.out.below BQ2.out
                    injection e' with x1 x2 x3
                    subst x1 x3
                    have := number_ok (some bt) n ct f t 2 wr tq1 tq2 (by omega) (by omega) (by omega) q
                    rw [show val (fun q => f (t + q)) 2 = z by
                      rw [ez]
                      unfold rowN
                      exact val_congr fun q _ => by show f (t + q) = f (p + (2 + (j * 2 + q))); congr 1; omega] at this
                    exact this)
                  have zs : z < 65536 := by
                    obtain ⟨_, _, _, _, _, _, q⟩ := TR.out
                    rw [ez]
                    exact rowN_lt (f := fun q => f (p + (2 + q))) (k := 2) (i := j) fun q' hq' => q.small _ (by omega)
                  have EZ := Lib.hid ez
                  have ET := Lib.hid et
                  clear ez et
                  go_wp2_with fail
                  with_reducible refine NT.out.mono ?_
                  rintro e w' ⟨rfl, rfl⟩
                  by_cases hz0 : z = 0
                  · have HZV : Hid (Value.complex .f64 13830554455654793216 0 = zval (rCode b z)) := Lib.hid (by rw [hz0]; rfl)
                    have hzi : ¬ (0 : Int) < (z : Int) := by omega
                    have JW := Lib.hid HJ.out
                    have BW2 := Lib.hid HBL.out
                    clear hz0
                    obtain ⟨v', w', r, ⟨gv, cv, ev'⟩, cr', fr', jr, jb⟩ := row_push (p := rCode b z) JW.out h8 (by rw [upd_here]; unfold rZ; rw [← EP.out, ← EZ.out]) (by rw [upd_here]; omega)
                    rw [upd_here] at ev' jr
                    rw [upd_upd] at jr
                    obtain ⟨A7, c7, e7⟩ := (JW.out.row i h8).shape
                    rw [upd_here] at e7
                    have crw := StIs.row JW.out.st h8
                    rw [e7] at crw cr' r
                    rw [← HZV.out] at r
                    have FIN : Hid (RowsJ g (upd (rK n f i) i y0) (upd (rS n f i) i y1) (upd V' i v') (upd (rM n f i) i (j + 1)) (rZ b n f) (w'.setCell ⟨g, 16 + i, none⟩ v') ∧ Below g w5 (w'.setCell ⟨g, 16 + i, none⟩ v')) := Lib.hid ⟨jr, BW2.out.trans jb⟩
                    subst ev'
                    have R := Lib.hid r
                    clear r jr jb e7 JW BW2
                    go_wp2_with (at_builtin; refine Lib.wpList_append_run _ rfl (.tmp 140) (.tmp 142) _ _ rfl _ _ rfl rfl _ _ R.out ?_)
                    go_roundw
                    case rel => exact ⟨j + 1, _, by omega, by rw [show ((p + 2 + 2 * (j + 1) : Nat) : Int) = (t : Int) + 2 by have := ET.out; omega], by go_num, FIN.out⟩
                    case measure => simp [intOf]; omega
                  · obtain ⟨q, eq⟩ : ∃ q, z = q + 1 := ⟨z - 1, by omega⟩
                    have hzi : (0 : Int) < (z : Int) := by omega
                    have hzq : (z : Int) - 1 = (q : Int) := by omega
                    obtain ⟨X, eX⟩ : ∃ X, X = zre (refPl b q) := ⟨_, rfl⟩
                    obtain ⟨Y, eY⟩ : ∃ Y, Y = zim (refPl b q) := ⟨_, rfl⟩
                    have ezv : zval (refPl b q) = .complex .f64 X Y := by rw [eX, eY]; rfl
                    have HZV : Hid (Value.complex .f64 X Y = zval (rCode b z)) := Lib.hid (by rw [← ezv, eq]; unfold rCode; rw [if_neg (by omega), Nat.add_sub_cancel])
                    have PL : Hid (∀ W, Calls Tryz.prog 18 #[.int .i64 (q : Int), .int .i64 (b : Int)] W fun e w' => (∃ x, e = .returned (.tuple #[.complex .f64 X Y, .int .i64 x])) ∧ ∃ k, w' = W.drewN k) := Lib.hid fun W => by rw [← ezv]; exact refPlace_any q b W (by omega) hb256
                    have pcb1 := cell_later (B5c.out.trans (HBL.out.mono (Nat.le_of_eq GW.out.2.symm))) PC1.out
                    clear hz0 eq eX eY ezv
                    go_wp2_with fail
                    with_reducible refine (PL.out _).mono ?_
                    rintro e w' ⟨⟨x, rfl⟩, kk, hkk⟩
                    have JW : Hid (RowsJ g (upd (rK n f i) i y0) (upd (rS n f i) i y1) V' (upd (rM n f i) i j) (rZ b n f) w') := Lib.hid (by rw [hkk]; exact HJ.out.later (below_drewN (Below.refl _ _) kk))
                    have BW2 : Hid (Below g w5 w') := Lib.hid (by rw [hkk]; exact below_drewN HBL.out kk)
                    clear hkk PL pcb1
                    obtain ⟨v', w'', r, ⟨gv, cv, ev'⟩, cr', fr', jr, jb⟩ := row_push (p := rCode b z) JW.out h8 (by rw [upd_here]; unfold rZ; rw [← EP.out, ← EZ.out]) (by rw [upd_here]; omega)
                    rw [upd_here] at ev' jr
                    rw [upd_upd] at jr
                    obtain ⟨A7, c7, e7⟩ := (JW.out.row i h8).shape
                    rw [upd_here] at e7
                    have crw := StIs.row JW.out.st h8
                    rw [e7] at crw cr' r
                    rw [← HZV.out] at r
                    have FIN : Hid (RowsJ g (upd (rK n f i) i y0) (upd (rS n f i) i y1) (upd V' i v') (upd (rM n f i) i (j + 1)) (rZ b n f) (w''.setCell ⟨g, 16 + i, none⟩ v') ∧ Below g w5 (w''.setCell ⟨g, 16 + i, none⟩ v')) := Lib.hid ⟨jr, BW2.out.trans jb⟩
                    subst ev'
                    have R := Lib.hid r
                    clear r jr jb e7 JW BW2
                    go_wp2_with (at_builtin; refine Lib.wpList_append_run _ rfl (.tmp 140) (.tmp 142) _ _ rfl _ _ rfl rfl _ _ R.out ?_)
                    go_roundw
                    case rel => exact ⟨j + 1, _, by omega, by rw [show ((p + 2 + 2 * (j + 1) : Nat) : Int) = (t : Int) + 2 by have := ET.out; omega], by go_num, FIN.out⟩
                    case measure => simp [intOf]; omega
                · obtain rfl : j = m := by omega
                  have FIN : Hid (RowsJ g (rK n f (i + 1)) (rS n f (i + 1)) V' (rM n f (i + 1)) (rZ b n f) wr ∧ Below g w5 wr) := Lib.hid ⟨by
                    have h0 := HJ.out
                    rw [EY0.out, EY1.out, EM.out, EY1.out, EP.out] at h0
                    exact h0.congr alike_next, HBL.out⟩
                  have HP1 : Hid (∀ q, q < i + 1 → rpos n f q + 2 ≤ n) := Lib.hid fun q hq => by
                    by_cases hqi : q < i
                    · exact HPOS.out q hqi
                    · obtain rfl : q = i := by omega
                      rw [← EP.out]
                      exact hp2
                  have ER : Hid ((rpos n f (i + 1) : Int) = (t : Int)) := Lib.hid (by
                    have : rpos n f (i + 1) = p + (2 + 2 * min (f (p + 1)) ((n - p - 2) / 2)) := by
                      show rpos n f i + rstep n f (rpos n f i) = _
                      rw [← EP.out]
                      rfl
                    rw [this, et, ← EY1.out, ← EM.out]
                    omega)
                  rcases (by have := EM.out; omega : j = y1 ∨ (j < y1 ∧ ¬ t + 2 ≤ n)) with hjy | ⟨hjy, htn⟩
                  · have d1 : ¬ (j : Int) < (y1 : Int) := by omega
                    clear hjy et
                    go_wp2
                    go_roundw
                    case rel => exact ⟨i + 1, V', by omega, by rw [ER.out], by go_num, HP1.out, FIN.out⟩
                    case measure => simp [intOf]; omega
                  · have d1 : (j : Int) < (y1 : Int) := by omega
                    have d2 : decide ((t : Int) + 2 ≤ (n : Int)) = false := by simp; omega
                    have ht660 : t ≤ 660 := by omega
                    clear hjy et htn
                    go_wp2
                    go_roundw
                    case rel => exact ⟨i + 1, V', by omega, by rw [ER.out], by go_num, HP1.out, FIN.out⟩
                    case measure => simp [intOf]; omega
            · have RV : Hid (RVols n f i) := Lib.hid ⟨hi, HPOS.out, fun h8 h2 => hgo ⟨h8, by rw [EP.out]; exact h2⟩⟩
              obtain ⟨K, eK⟩ : ∃ K, K = rK n f i := ⟨_, rfl⟩
              obtain ⟨S, eS⟩ : ∃ S, S = rS n f i := ⟨_, rfl⟩
              obtain ⟨M, eM⟩ : ∃ M, M = rM n f i := ⟨_, rfl⟩
              obtain ⟨Z, eZ⟩ : ∃ Z, Z = rZ b n f := ⟨_, rfl⟩
              rw [← eK, ← eS, ← eM, ← eZ] at HJ
              have GZ : Hid (∀ i j, Good (Z i j)) := Lib.hid fun i j => by rw [eZ]; exact rCode_good _ _
              obtain ⟨q, eq⟩ : ∃ q, q = seqIn (F 0) := ⟨_, rfl⟩
              have ALK : Hid (∀ s' b' seq' K' S' M' Z', Laid k L F s' b' seq' K' S' M' Z' → s' = s ∧ b' = b ∧ seq' = q ∧ Alike K S M K' S' M' Z Z') := Lib.hid fun s' b' seq' K' S' M' Z' hl => by
                obtain ⟨_, _, h1, h2, h3, _⟩ := hl.holds
                obtain ⟨r1, r2⟩ := hl.refText
                obtain rfl : b' = b := by rw [← h2, EB.out]
                refine ⟨by rw [← h1, ES.out], rfl, by rw [← h3, eq], ?_⟩
                rw [eK, eS, eM, eZ]
                exact hl.refState (by rw [TXT.out.1]; exact r1) (fun j hj => by rw [TXT.out.2]; exact r2 j (by rw [TXT.out.1] at hj; exact hj)) RV.out
              have hq32 : q < 4294967296 := by
                rw [eq]
                unfold seqIn
                exact val_lt4 fun j hj => UB.out.small _ (by omega)
              have NQ : Hid (Calls Tryz.prog 17 #[.slice Au 64 cu', .int .i64 4, .int .i64 4] wr fun e w' => e = .returned (.int .i64 (q : Int)) ∧ wr = w') := Lib.hid (by
                have := NUM.out wr 4 4 BQ.out (by omega) (by omega) (by omega)
                rw [eq]
                exact this)
              have cuq := cell_later BQ.out cu
              have pq0 := cell_later (B5c.out.trans (HBL.out.mono (Nat.le_of_eq GW.out.2.symm))) PC0.out
              have pq1 := cell_later (B5c.out.trans (HBL.out.mono (Nat.le_of_eq GW.out.2.symm))) PC1.out
              have PQ0 := Lib.hid pq0
              have PQ1 := Lib.hid pq1
              have RR : Hid (∀ i, i < 8 → ReadsZ wr (V i) (M i) (Z i)) := Lib.hid fun i hi => (HJ.out.row i hi).reads
              have BKL : Hid (∀ w8, Below wr.heap.size wr w8 → Blank w w.heap.size w8) := Lib.hid fun w8 h8 => BK.out.later (HB.out.trans ((BQ.out.trans (h8.mono BQ.out.size)).mono HB.out.size))
              clear eK eS eM eZ eq
              -- the loop is over: two ways
              have hways : (¬ (i : Int) < 8) ∨ ((i : Int) < 8 ∧ decide ((p : Int) + 2 ≤ (n : Int)) = false) := by
                by_cases h8 : i < 8
                · exact .inr ⟨by omega, by simp; omega⟩
                · exact .inl (by omega)
              have hp660 : p ≤ 660 := by omega
              clear hgo
              rcases hways with hw | ⟨hw, hw'⟩
              all_goals
                go_wp2_with fail
                with_reducible refine NQ.out.mono ?_
                rintro e w' ⟨rfl, rfl⟩
                go_wp2_with (refine wpList_load_mid rfl 32 (.tmp 12) rfl g 0 rfl (scells K S V) _ (StIs.whole HJ.out.st) Tryz.underlying32 rfl (state_len _ _ _) ?_)
                by_cases hq : 1 ≤ q ∧ q ≤ 1073741824
                · by_cases hfit : FitA s b K S M Z
                  · have HF := Lib.hid hfit
                    have HQ := Lib.hid hq
                    clear hfit hq
                    with_reducible refine (refEncode_fit K S M V Z s b q wr RR.out GZ.out HQ.out.1 HQ.out.2 HF.out).mono ?_
                    rintro e w8 ⟨u, rfl, hp8, hb8⟩
                    obtain ⟨PN, ePN⟩ : ∃ PN, PN = pcount (tx b K S M Z 8).1 + 1 := ⟨_, rfl⟩
                    obtain ⟨G, eG⟩ : ∃ G, G = encF s b q (tx b K S M Z 8).1 (tx b K S M Z 8).2 := ⟨_, rfl⟩
                    have ST : Hid (Laid k L F s b q K S M Z ↔ SameP k PN L (fun _ => 64) F G) := Lib.hid (by
                      rw [ePN, eG]
                      exact ⟨fun h => h.2.2.2, fun h => ⟨HF.out, HQ.out.1, HQ.out.2, h⟩⟩)
                    have LS : Hid ((∃ s' b' seq' K' S' M' Z', Laid k L F s' b' seq' K' S' M' Z') → SameP k PN L (fun _ => 64) F G) := Lib.hid fun ⟨s', b', seq', K', S', M', Z', hl⟩ => by
                      obtain ⟨rfl, rfl, rfl, al⟩ := ALK.out _ _ _ _ _ _ _ hl
                      exact ST.out.1 (hl.alike al.symm)
                    have hGlt : ∀ i, i < PN → ∀ j, j < 64 → G i j < 256 := fun i _ j _ => by
                      rw [eG]
                      exact encF_lt (tx_small (fun i hi => by have := fit_small HF.out hi; omega) (Nat.le_refl 8)) i j
                    have hPN : PN ≤ 12 := by
                      have := tx_fits (c := b) HF.out (Nat.le_refl 8)
                      rw [ePN]
                      unfold pcount
                      omega
                    rw [← ePN, ← eG] at hp8
                    obtain ⟨A8, c8, e8⟩ := hp8.shape
                    subst e8
                    have RP := Lib.hid (hp8.reads hGlt)
                    have B8 := Lib.hid hb8
                    have BK8 := Lib.hid (BKL.out w8 hb8)
                    clear hp8 hb8 ePN eG hGlt
                    by_cases hlen : PN = k
                    · have HLN := Lib.hid hlen
                      have hne : ((PN : Int) != (k : Int)) = false := by simp; omega
                      have RV8 : Hid (ReadsP w8 (.slice (some ad) k c) k L F) := Lib.hid (HV.out.below (BW.out.trans ((BQ.out.trans (B8.out.mono BQ.out.size)).mono BW.out.size)))
                      have J8 := Lib.hid (HJ.out.later B8.out)
                      have P80 := Lib.hid (cell_later B8.out PQ0.out)
                      have P81 := Lib.hid (cell_later B8.out PQ1.out)
                      have D8 : Hid (Below w.heap.size w w8 ∧ w.heap.size + 3 ≤ wt.heap.size) := Lib.hid ⟨BW.out.trans ((BQ.out.trans (B8.out.mono BQ.out.size)).mono BW.out.size), by have h1 := RowIs.lt BK.out.no; have h2 := HB.out.size; omega⟩
                      clear hlen pq0 pq1 cuq
                      go_wp2
                      go_loopw [21] (fun x wq => ∃ t : Nat, t ≤ PN ∧ x = .int .i64 (t : Int) ∧ Below w8.heap.size w8 wq ∧ ∀ i, i < t → L i = 64 ∧ ∀ j, j < 64 → F i j = G i j) (fun x _ => PN - (intOf x).toNat)
                      case atStart => exact ⟨0, by omega, rfl, Below.refl _ _, fun i hi => absurd hi (Nat.not_lt_zero _)⟩
                      case round =>
                        obtain ⟨t, ht, rfl, hbt, hpre⟩ := hrel
                        have HBT := Lib.hid hbt
                        have HPRE := Lib.hid hpre
                        clear hbt hpre
                        by_cases hlt : t < PN
                        · obtain ⟨ad8, u8, rfl, cu8, ru8⟩ := (RP.out.below HBT.out).page_at hlt
                          obtain ⟨adp, ut, eap, cut, rut⟩ := (RV8.out.below HBT.out).page_at (i := t) (by have := HLN.out; omega)
                          obtain rfl : ad = adp := Option.some.inj eap
                          have lt64 : L t = 64 := (HSE.out t (by have := HLN.out; omega)).1
                          rw [lt64] at rut
                          have ru8 : Reads wr u8 64 (G t) := ru8
                          obtain ⟨Xa, xc, rfl, _, _, _, xb⟩ := id ru8
                          obtain ⟨Ya, yc, rfl, _, _, _, yb⟩ := id rut
                          have htk : (t : Int) < (k : Int) := by have := HLN.out; omega
                          have htk' : ¬ (k : Int) ≤ (t : Int) := by omega
                          have a1 : ∀ z : Later wr, z.val.cell? (ad8.add t) = some (.slice Xa 64 xc) := fun z => cell_later z.ext cu8
                          have a2 : ∀ z : Later wr, z.val.cell? (ad.add t) = some (.slice Ya 64 yc) := fun z => cell_later z.ext cut
                          obtain ⟨s1, es1⟩ : ∃ s1, s1 = str (G t) 64 := ⟨_, rfl⟩
                          obtain ⟨s2, es2⟩ : ∃ s2, s2 = str (F t) 64 := ⟨_, rfl⟩
                          have v1 : ∀ z : Later wr, (convert 44 9 (.slice Xa 64 xc)).run Tryz.prog z.val = .ok (.string s1) z.val := fun z => by rw [es1]; exact (ru8.below z.ext).conv
                          have v2 : ∀ z : Later wr, (convert 44 9 (.slice Ya 64 yc)).run Tryz.prog z.val = .ok (.string s2) z.val := fun z => by rw [es2]; exact (rut.below z.ext).conv
                          have XB := Lib.hid xb.small
                          have YB := Lib.hid yb.small
                          have LT := Lib.hid lt64
                          clear cu8 ru8 cut rut xb yb lt64 eap
                          by_cases hsame : ∀ j, j < 64 → G t j = F t j
                          · have cmp : (s1.toList == s2.toList) = true := by rw [es1, es2]; exact str_same hsame
                            have HSA := Lib.hid hsame
                            clear es1 es2 hsame
                            go_wp2
                            refine region_later (by kernel_rfl) (by kernel_rfl) ?_
                            repeat (go_big_quiet_step (fail))
                            refine wpQuiet_nil ?_
                            rintro w9 ⟨⟨w9', hb9⟩, hw9⟩
                            obtain rfl : w9 = w9' := hw9
                            have B9 := Lib.hid (HBT.out.trans (hb9.mono HBT.out.size))
                            clear a1 a2 v1 v2 hb9 cmp
                            go_wp2
                            go_roundw
                            case rel => exact ⟨t + 1, by omega, by go_num, B9.out, fun i hi => by
                              by_cases hit : i < t
                              · exact HPRE.out i hit
                              · obtain rfl : i = t := by omega
                                exact ⟨LT.out, fun j hj => (HSA.out j hj).symm⟩⟩
                            case measure => simp [intOf]; omega
                          · have cmp : (s1.toList == s2.toList) = false := by
                              obtain ⟨j, hj⟩ := Classical.not_forall.1 hsame
                              obtain ⟨hj1, hj2⟩ := Classical.not_imp.1 hj
                              rw [es1, es2]
                              exact str_other XB.out YB.out hj1 hj2
                            have NOL : Hid (∀ s b seq K S M Z, ¬ Laid k L F s b seq K S M Z) := Lib.hid fun s' b' seq' K' S' M' Z' hl => by
                              have sp := LS.out ⟨_, _, _, _, _, _, _, hl⟩
                              obtain ⟨h1, h2⟩ := sp.2 t (by have := HLN.out; omega)
                              exact hsame fun j hj => (h2 j (by rw [LT.out]; exact hj)).symm
                            clear es1 es2 hsame
                            go_wp2
                            refine region_later (by kernel_rfl) (by kernel_rfl) ?_
                            repeat (go_big_quiet_step (fail))
                            refine wpQuiet_nil ?_
                            rintro w9 ⟨⟨w9', hb9⟩, hw9⟩
                            obtain rfl : w9 = w9' := hw9
                            have BK9 := Lib.hid (BK8.out.later (HBT.out.trans (hb9.mono HBT.out.size)))
                            clear a1 a2 v1 v2 hb9 cmp
                            have RT2 : w9.there w.heap.size 0 (scells z0 z0 zV).toArray.size := StIs.there_ BK9.out.st
                            have still2 : w9.setCells w.heap.size 0 (scells z0 z0 zV) = w9 := StIs.still BK9.out.st
                            have V2 : (scells z0 z0 zV).toArray.all (·.oneCell') = true := scells_one fun _ _ => rfl
                            have p0 : w9.cell? ⟨w.heap.size + 1, 0, none⟩ = some (.int .i64 0) := RowIs.cell BK9.out.pl (i := 0) (by omega)
                            have p1 : w9.cell? ⟨w.heap.size + 1, 1, none⟩ = some (.int .i64 0) := RowIs.cell BK9.out.pl (i := 1) (by omega)
                            have f0 := RowIs.free BK9.out.pl 0
                            have f1 := RowIs.free BK9.out.pl 1
                            have t0 : w9.setCell ⟨w.heap.size + 1, 0, none⟩ (.int .i64 0) = w9 := RowIs.still BK9.out.pl (by omega) rfl
                            have t1 : w9.setCell ⟨w.heap.size + 1, 1, none⟩ (.int .i64 0) = w9 := RowIs.still BK9.out.pl (by omega) rfl
                            go_wp2_with (first
                              | (refine wpList_load_mid rfl 32 (.tmp 6) rfl (w.heap.size + 1 + 1) 0 rfl (scells z0 z0 zV) _ (StIs.whole BK9.out.no) Tryz.underlying32 rfl (state_len _ _ _) ?_)
                              | (refine wpList_store_mid rfl 32 (.tmp 2) (.tmp 187) rfl w.heap.size 0 (scells z0 z0 zV).toArray rfl rfl RT2 (state_len' _ _ _) V2 ?_; rw [show (scells z0 z0 zV).toArray.toList = scells z0 z0 zV from rfl, still2]; clear still2 RT2 V2))
                            refine bodyPost_ret (results_cells22 (fn := Tryz.f7) rfl _ _ ⟨w.heap.size, 0, none⟩ ⟨w.heap.size + 1, 0, none⟩ _ _ rfl rfl (END.out _ BK9.out.st BK9.out.pl).1 (END.out _ BK9.out.st BK9.out.pl).2) rfl ?_
                            exact ⟨.inr ⟨NOL.out, rfl⟩, BK9.out.below⟩
                        · obtain rfl : t = PN := by omega
                          have LD : Hid (Laid k L F s b q K S M Z) := Lib.hid (ST.out.2 ⟨HLN.out.symm, fun i hi => by
                            obtain ⟨h1, h2⟩ := HPRE.out i (by have := HLN.out; omega)
                            exact ⟨h1, fun j hj => h2 j (by rw [h1] at hj; exact hj)⟩⟩)
                          obtain ⟨w7, hw7⟩ : ∃ w7, w7 = wr.drew := ⟨_, rfl⟩
                          have J9 := J8.out.later HBT.out
                          have J7 : Hid (RowsJ g K S V M Z w7) := Lib.hid (by rw [hw7]; exact ⟨J9.st, J9.row, J9.apt⟩)
                          have k9 := BK8.out.later HBT.out
                          have BK7 : Hid (Blank w w.heap.size w7) := Lib.hid (by rw [hw7]; exact ⟨k9.st, k9.pl, k9.no, k9.below.drew⟩)
                          have d0 := cell_later HBT.out P80.out
                          have d1 := cell_later HBT.out P81.out
                          have c70 : w7.cell? ⟨wt.heap.size, 0, none⟩ = some (.int .i64 (s : Int)) := by rw [hw7]; exact d0
                          have c71 : w7.cell? ⟨wt.heap.size, 1, none⟩ = some (.int .i64 (b : Int)) := by rw [hw7]; exact d1
                          have VO : ∀ i, i < 8 → (V i).oneCell' = true := fun i hi => (J7.out.row i hi).one
                          have V1 := scells_one VO (K := K) (S := S)
                          have RT : w7.there w.heap.size 0 (scells K S V).toArray.size := StIs.there_ BK7.out.st
                          obtain ⟨wE, hwE, stE, aE⟩ := store_state (K' := K) (S' := S) (V' := V) BK7.out.st
                          have szs : w.heap.size + 3 ≤ wt.heap.size ∧ wt.heap.size + 1 ≤ g ∧ g + 1 ≤ w7.heap.size := ⟨D8.out.2, GW.out.1, J7.out.size⟩
                          have PE : RowIs wE (w.heap.size + 1) 34 (fun _ => .int .i64 0) 2 := RowIs.apart BK7.out.pl aE (by omega)
                          have p0 := RowIs.cell PE (i := 0) (by omega)
                          have p1 := RowIs.cell PE (i := 1) (by omega)
                          have f0 := RowIs.free PE 0
                          have f1 := RowIs.free PE 1
                          have PF : RowIs (wE.setCell ⟨w.heap.size + 1, 0, none⟩ (.int .i64 (s : Int))) (w.heap.size + 1) 34 (fun i => if i = 0 then .int .i64 (s : Int) else .int .i64 0) 2 := PE.set_ (fun _ => by simp) (fun i _ hi => by simp [hi])
                          have PG : RowIs ((wE.setCell ⟨w.heap.size + 1, 0, none⟩ (.int .i64 (s : Int))).setCell ⟨w.heap.size + 1, 1, none⟩ (.int .i64 (b : Int))) (w.heap.size + 1) 34 (fun i => if i = 0 then .int .i64 (s : Int) else .int .i64 (b : Int)) 2 := PF.set_ (fun _ => by simp) (fun i hi hk => by rw [if_pos (show i = 0 by omega), if_pos (show i = 0 by omega)])
                          have p2 : (wE.setCell ⟨w.heap.size + 1, 0, none⟩ (.int .i64 (s : Int))).cell? ⟨w.heap.size + 1, 1, none⟩ = some (.int .i64 0) := RowIs.cell PF (i := 1) (by omega)
                          have f2 := RowIs.free PF 1
                          obtain ⟨wG, hwG⟩ : ∃ wG, wG = (wE.setCell ⟨w.heap.size + 1, 0, none⟩ (.int .i64 (s : Int))).setCell ⟨w.heap.size + 1, 1, none⟩ (.int .i64 (b : Int)) := ⟨_, rfl⟩
                          have aG : Apart (fun k => k = w.heap.size + 1) wE wG := by
                            rw [hwG]
                            exact ((Apart.refl (fun k => k = w.heap.size + 1) wE).setCell (p := ⟨w.heap.size + 1, 0, none⟩) (fun _ => rfl) _).setCell (p := ⟨w.heap.size + 1, 1, none⟩) (fun _ => rfl) _
                          have SE : Hid (StIs wE g K S V ∧ wE.cell? ⟨wt.heap.size, 0, none⟩ = some (.int .i64 (s : Int)) ∧ wE.cell? ⟨wt.heap.size, 1, none⟩ = some (.int .i64 (b : Int))) := Lib.hid ⟨RowIs.apart J7.out.st aE (by omega), (cell_apart aE (by omega) (by omega)).trans c70, (cell_apart aE (by omega) (by omega)).trans c71⟩
                          have zE : wE.heap.size = w7.heap.size := by rw [hwE]; exact setCells_size _ _ _ _
                          have SG : Hid (StIs wG g K S V ∧ wG.cell? ⟨wt.heap.size, 0, none⟩ = some (.int .i64 (s : Int)) ∧ wG.cell? ⟨wt.heap.size, 1, none⟩ = some (.int .i64 (b : Int))) := Lib.hid ⟨RowIs.apart SE.out.1 aG (by omega), (cell_apart aG (by omega) (by omega)).trans SE.out.2.1, (cell_apart aG (by omega) (by omega)).trans SE.out.2.2⟩
                          have PGG : Hid (RowIs wG (w.heap.size + 1) 34 (fun i => if i = 0 then .int .i64 (s : Int) else .int .i64 (b : Int)) 2) := Lib.hid (by rw [hwG]; exact PG)
                          have STG : Hid (StIs wG w.heap.size K S V) := Lib.hid (RowIs.apart stE aG (by omega))
                          have OZ : Hid (∀ i, i < 8 → OwnZ wG w.heap.size (V i) (M i) (Z i)) := Lib.hid fun i hi => (ownZ_cells (J7.out.row i hi) fun j cs fr hv hc => by
                            have hj := (J7.out.row i hi).lt hv
                            rw [aG.block j (by rw [zE]; exact hj.2.1) (by omega), aE.block j hj.2.1 (by omega)]).base (by omega)
                          have BG : Hid (Below w.heap.size w wG) := Lib.hid (BK7.out.below.trans ((aE.below (by omega) fun j hj e => by omega).trans (aG.below (by rw [zE]; omega) fun j hj e => by omega)))
                          have l1 : (loadVar 32 ⟨w.heap.size, 0, none⟩).run Tryz.prog wG = .ok (.agg (scells K S V).toArray) wG := run_loadVar_mid _ _ _ _ (scells K S V) _ (StIs.whole STG.out) Tryz.underlying32 rfl (state_len _ _ _)
                          have l2 : (loadVar 34 ⟨w.heap.size + 1, 0, none⟩).run Tryz.prog wG = .ok (.agg #[.int .i64 (s : Int), .int .i64 (b : Int)]) wG := run_loadVar_mid _ _ _ _ [.int .i64 (s : Int), .int .i64 (b : Int)] _ (RowIs.range PGG.out (by simp) (fun j hj => by
                            have : j = 0 ∨ j = 1 := by simp at hj; omega
                            rcases this with rfl | rfl <;> rfl)) Tryz.underlying34 rfl plat_size
                          have L1 := Lib.hid l1
                          have L2 := Lib.hid l2
                          have C7 : Hid (StIs w7 g K S V ∧ w7.cell? ⟨wt.heap.size, 0, none⟩ = some (.int .i64 (s : Int)) ∧ w7.cell? ⟨wt.heap.size, 1, none⟩ = some (.int .i64 (b : Int))) := Lib.hid ⟨J7.out.st, c70, c71⟩
                          clear l1 l2 aG aE stE PE PF PG J9 k9 d0 d1 c70 c71 VO zE szs
                          go_wp2
                          refine wp_region_noPanic ?_
                          refine wp_region_held_drew (S := fun w' => StIs w' g K S V ∧ w'.cell? ⟨wt.heap.size, 0, none⟩ = some (.int .i64 (s : Int)) ∧ w'.cell? ⟨wt.heap.size, 1, none⟩ = some (.int .i64 (b : Int))) (by kernel_rfl) (by rw [← hw7]; exact C7.out) (fun hH => ?_)
                          rw [← hw7] at hH ⊢
                          clear hw7
                          refine wpAnyH_take (i := 0) (v := .agg (scells K S V).toArray) rfl (by kernel_rfl) (by kernel_rfl) (by kernel_rfl) (fun _ _ _ h => h) (yieldsIf_load_mid (by rfl) 32 (.tmp 12) rfl g 0 rfl (scells K S V) _ (fun w' hS => StIs.whole hS.1) Tryz.underlying32 rfl (state_len _ _ _)) hH ?_
                          simp only [Act.put, List.setIfInBounds_toArray]
                          refine wpAnyH_take (i := 1) (v := .agg #[.int .i64 (s : Int), .int .i64 (b : Int)]) rfl (by kernel_rfl) (by kernel_rfl) (by kernel_rfl) (fun _ _ _ h => h) (Or.inl ⟨by rfl, fun w' hS => by have s1 := hS.2.1; have s2 := hS.2.2; go_simp⟩) hH ?_
                          simp only [Act.put]
                          refine wpAnyH_take (i := 2) (v := .int .i64 (q : Int)) rfl (by kernel_rfl) (by kernel_rfl) (by kernel_rfl) (fun _ _ _ h => h) (Or.inl ⟨by rfl, fun w' hS => by go_simp⟩) hH ?_
                          simp only [Act.put]
                          refine wpAnyH_ready (rs := [3]) (by kernel_rfl) (by simp) ?_
                          refine AllReadyH.cons rfl (fun K_ hK_ => ?_) AllReadyH.nil
                          rw [if_pos (by rfl)]
                          refine wp_store_mid 32 (.tmp 2) (.tmp 189) rfl w.heap.size 0 (scells K S V).toArray rfl rfl RT (state_len' _ _ _) V1 ?_
                          rw [show (scells K S V).toArray.toList = scells K S V from rfl, ← hwE]
                          clear hwE RT V1
                          refine hK_.out _ _ SE.out (fun hH => ?_)
                          clear hK_ K_
                          refine wpAnyH_ready (rs := [4]) (by kernel_rfl) (by simp) ?_
                          refine AllReadyH.cons rfl (fun K_ hK_ => ?_) AllReadyH.nil
                          go_simp
                          rw [← hwG]
                          clear hwG p0 p1 p2 f0 f1 f2
                          refine hK_.out _ _ SG.out (fun hH => ?_)
                          clear hK_ K_
                          refine wpAnyH_ready (rs := [5]) (by kernel_rfl) (by simp) ?_
                          refine AllReadyH.cons rfl (fun K_ hK_ => ?_) AllReadyH.nil
                          go_simp
                          refine hK_.out _ _ hH (fun hH => ?_)
                          clear hK_ K_
                          refine wpAnyH_ready (rs := [6]) (by kernel_rfl) (by simp) ?_
                          refine AllReadyH.cons rfl (fun K_ hK_ => ?_) AllReadyH.nil
                          go_simp
                          refine hK_.out _ _ hH (fun hH => ?_)
                          clear hK_ K_ hH
                          refine wpAnyH_done (by kernel_rfl) ?_ _
                          refine NoPanic.normal ?_
                          go_wp2
                          refine bodyPost_ret (results_cells22 (fn := Tryz.f7) rfl _ _ ⟨w.heap.size, 0, none⟩ ⟨w.heap.size + 1, 0, none⟩ _ _ rfl rfl L1.out L2.out) rfl ?_
                          exact ⟨.inl ⟨s, b, q, K, S, M, Z, V, LD.out, rfl, OZ.out⟩, BG.out⟩
                    · have NOL : Hid (∀ s b seq K S M Z, ¬ Laid k L F s b seq K S M Z) := Lib.hid fun s' b' seq' K' S' M' Z' hl => hlen (LS.out ⟨_, _, _, _, _, _, _, hl⟩).1.symm
                      have hne : ((PN : Int) != (k : Int)) = true := by simp; omega
                      clear hlen pq0 pq1 cuq
                      have RT2 : w8.there w.heap.size 0 (scells z0 z0 zV).toArray.size := StIs.there_ BK8.out.st
                      have still2 : w8.setCells w.heap.size 0 (scells z0 z0 zV) = w8 := StIs.still BK8.out.st
                      have V2 : (scells z0 z0 zV).toArray.all (·.oneCell') = true := scells_one fun _ _ => rfl
                      have p0 : w8.cell? ⟨w.heap.size + 1, 0, none⟩ = some (.int .i64 0) := RowIs.cell BK8.out.pl (i := 0) (by omega)
                      have p1 : w8.cell? ⟨w.heap.size + 1, 1, none⟩ = some (.int .i64 0) := RowIs.cell BK8.out.pl (i := 1) (by omega)
                      have f0 := RowIs.free BK8.out.pl 0
                      have f1 := RowIs.free BK8.out.pl 1
                      have t0 : w8.setCell ⟨w.heap.size + 1, 0, none⟩ (.int .i64 0) = w8 := RowIs.still BK8.out.pl (by omega) rfl
                      have t1 : w8.setCell ⟨w.heap.size + 1, 1, none⟩ (.int .i64 0) = w8 := RowIs.still BK8.out.pl (by omega) rfl
                      go_wp2_with (first
                        | (refine wpList_load_mid rfl 32 (.tmp 6) rfl (w.heap.size + 1 + 1) 0 rfl (scells z0 z0 zV) _ (StIs.whole BK8.out.no) Tryz.underlying32 rfl (state_len _ _ _) ?_)
                        | (refine wpList_store_mid rfl 32 (.tmp 2) (.tmp 168) rfl w.heap.size 0 (scells z0 z0 zV).toArray rfl rfl RT2 (state_len' _ _ _) V2 ?_; rw [show (scells z0 z0 zV).toArray.toList = scells z0 z0 zV from rfl, still2]; clear still2 RT2 V2))
                      refine bodyPost_ret (results_cells22 (fn := Tryz.f7) rfl _ _ ⟨w.heap.size, 0, none⟩ ⟨w.heap.size + 1, 0, none⟩ _ _ rfl rfl (END.out _ BK8.out.st BK8.out.pl).1 (END.out _ BK8.out.st BK8.out.pl).2) rfl ?_
                      exact ⟨.inr ⟨NOL.out, rfl⟩, BK8.out.below⟩
                  · have NOL : Hid (∀ s b seq K S M Z, ¬ Laid k L F s b seq K S M Z) := Lib.hid fun s' b' seq' K' S' M' Z' hl => by
                      obtain ⟨rfl, rfl, rfl, al⟩ := ALK.out _ _ _ _ _ _ _ hl
                      exact hfit (fitA_congr hl.1 al.symm)
                    have HQ := Lib.hid hq
                    have HF := Lib.hid hfit
                    clear hfit hq
                    with_reducible refine (refEncode_unfit K S M V Z s b q wr RR.out GZ.out HQ.out.1 HQ.out.2 HF.out).mono ?_
                    rintro e w8 ⟨⟨x, rfl, hx⟩, hb8⟩
                    have hne : (x != 0) = true := by simpa using hx
                    have BK8 := Lib.hid (BKL.out w8 hb8)
                    clear hx hb8 pq0 pq1 cuq
                    have RT2 : w8.there w.heap.size 0 (scells z0 z0 zV).toArray.size := StIs.there_ BK8.out.st
                    have still2 : w8.setCells w.heap.size 0 (scells z0 z0 zV) = w8 := StIs.still BK8.out.st
                    have V2 : (scells z0 z0 zV).toArray.all (·.oneCell') = true := scells_one fun _ _ => rfl
                    have p0 : w8.cell? ⟨w.heap.size + 1, 0, none⟩ = some (.int .i64 0) := RowIs.cell BK8.out.pl (i := 0) (by omega)
                    have p1 : w8.cell? ⟨w.heap.size + 1, 1, none⟩ = some (.int .i64 0) := RowIs.cell BK8.out.pl (i := 1) (by omega)
                    have f0 := RowIs.free BK8.out.pl 0
                    have f1 := RowIs.free BK8.out.pl 1
                    have t0 : w8.setCell ⟨w.heap.size + 1, 0, none⟩ (.int .i64 0) = w8 := RowIs.still BK8.out.pl (by omega) rfl
                    have t1 : w8.setCell ⟨w.heap.size + 1, 1, none⟩ (.int .i64 0) = w8 := RowIs.still BK8.out.pl (by omega) rfl
                    go_wp2_with (first
                      | (refine wpList_load_mid rfl 32 (.tmp 6) rfl (w.heap.size + 1 + 1) 0 rfl (scells z0 z0 zV) _ (StIs.whole BK8.out.no) Tryz.underlying32 rfl (state_len _ _ _) ?_)
                      | (refine wpList_store_mid rfl 32 (.tmp 2) (.tmp 168) rfl w.heap.size 0 (scells z0 z0 zV).toArray rfl rfl RT2 (state_len' _ _ _) V2 ?_; rw [show (scells z0 z0 zV).toArray.toList = scells z0 z0 zV from rfl, still2]; clear still2 RT2 V2))
                    refine bodyPost_ret (results_cells22 (fn := Tryz.f7) rfl _ _ ⟨w.heap.size, 0, none⟩ ⟨w.heap.size + 1, 0, none⟩ _ _ rfl rfl (END.out _ BK8.out.st BK8.out.pl).1 (END.out _ BK8.out.st BK8.out.pl).2) rfl ?_
                    exact ⟨.inr ⟨NOL.out, rfl⟩, BK8.out.below⟩
                · have NOL : Hid (∀ s b seq K S M Z, ¬ Laid k L F s b seq K S M Z) := Lib.hid fun s' b' seq' K' S' M' Z' hl => by
                    obtain ⟨rfl, rfl, rfl, al⟩ := ALK.out _ _ _ _ _ _ _ hl
                    exact hq ⟨hl.2.1, hl.2.2.1⟩
                  have HQ : Hid (¬ (1 ≤ (q : Int) ∧ (q : Int) ≤ 1073741824)) := Lib.hid (by omega)
                  clear hq
                  with_reducible refine (refEncode_arg K S V s b q wr HQ.out).mono ?_
                  rintro e w8 ⟨rfl, hb8⟩
                  have BK8 := Lib.hid (BKL.out w8 hb8)
                  clear hb8 pq0 pq1 cuq
                  have RT2 : w8.there w.heap.size 0 (scells z0 z0 zV).toArray.size := StIs.there_ BK8.out.st
                  have still2 : w8.setCells w.heap.size 0 (scells z0 z0 zV) = w8 := StIs.still BK8.out.st
                  have V2 : (scells z0 z0 zV).toArray.all (·.oneCell') = true := scells_one fun _ _ => rfl
                  have p0 : w8.cell? ⟨w.heap.size + 1, 0, none⟩ = some (.int .i64 0) := RowIs.cell BK8.out.pl (i := 0) (by omega)
                  have p1 : w8.cell? ⟨w.heap.size + 1, 1, none⟩ = some (.int .i64 0) := RowIs.cell BK8.out.pl (i := 1) (by omega)
                  have f0 := RowIs.free BK8.out.pl 0
                  have f1 := RowIs.free BK8.out.pl 1
                  have t0 : w8.setCell ⟨w.heap.size + 1, 0, none⟩ (.int .i64 0) = w8 := RowIs.still BK8.out.pl (by omega) rfl
                  have t1 : w8.setCell ⟨w.heap.size + 1, 1, none⟩ (.int .i64 0) = w8 := RowIs.still BK8.out.pl (by omega) rfl
                  go_wp2_with (first
                    | (refine wpList_load_mid rfl 32 (.tmp 6) rfl (w.heap.size + 1 + 1) 0 rfl (scells z0 z0 zV) _ (StIs.whole BK8.out.no) Tryz.underlying32 rfl (state_len _ _ _) ?_)
                    | (refine wpList_store_mid rfl 32 (.tmp 2) (.tmp 168) rfl w.heap.size 0 (scells z0 z0 zV).toArray rfl rfl RT2 (state_len' _ _ _) V2 ?_; rw [show (scells z0 z0 zV).toArray.toList = scells z0 z0 zV from rfl, still2]; clear still2 RT2 V2))
                  refine bodyPost_ret (results_cells22 (fn := Tryz.f7) rfl _ _ ⟨w.heap.size, 0, none⟩ ⟨w.heap.size + 1, 0, none⟩ _ _ rfl rfl (END.out _ BK8.out.st BK8.out.pl).1 (END.out _ BK8.out.st BK8.out.pl).2) rfl ?_
                  exact ⟨.inr ⟨NOL.out, rfl⟩, BK8.out.below⟩
end Go.Proofs.YtdocclkphffpkaaGreat
