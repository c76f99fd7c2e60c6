
/- Deltas saved on a device whose power is on for good: the package's answer. -/
import Derived.Test.YtmgeifolgdgapaaSpSave
namespace Go.Proofs.Ytmgeifolgdgapaa
open Go.RowKit Go.Shelf

attribute [local go_sem] Oper.semAt_some

/-- What Save answers, and leaves behind. -/
def Saved (w : World) (base g h q used n : Nat) (L : Value) (D : Dev) (ds : Nat → Del) (e : Ending) (w' : World) : Prop :=
  e = .returned (.tuple #[.int .i64 ((used + dcount n : Nat) : Int), .int .i64 0]) ∧ Apart (foot g h L) w w' ∧
    ∃ L', IsDev w' base g h L' { D with loose := D.loose ++ (List.range (dcount n)).map (spW q used n ds) } ∧ ∀ k, L'.ownBlock = some k → L.ownBlock = some k ∨ w.heap.size ≤ k

set_option maxRecDepth 100000 in
set_option maxHeartbeats 2000000 in
theorem spSave_ok {w : World} {base g h : Nat} {L : Value} {D : Dev} (d : IsDev w base g h L D) (hf : D.Free) (q used n c : Nat) (ad : Addr) (ds : Nat → Del) (hq : 1 ≤ q ∧ q ≤ 1073741824) (hn : 1 ≤ n) (hu : used + dcount n ≤ 16) (hs : 24 + (used + dcount n) ≤ D.size)
    (hl : D.loose.length ≤ 1000000) (hv : ∀ W, Apart (foot g h L) w W → ReadsD W (.slice (some ad) n c) n ds) (hg : ∀ i, i < n → Valid (ds i)) :
    Calls Try.prog 14 #[.pointer (some ⟨g, 0, none⟩), .int .i64 (q : Int), .int .i64 (used : Int), .slice (some ad) n c] w (Saved w base g h q used n L D ds) := by
  have hn96 : n ≤ 96 := by unfold dcount at hu; omega
  have hu16 : used ≤ 16 := by omega
  have hq2 : q ≤ 1073741824 := hq.2
  have hcap : n ≤ c := by
    obtain ⟨_, _, e, h1, _⟩ := hv w (Apart.refl _ _)
    cases e
    exact h1
  have hmost : c ≤ 9223372036854775807 := by
    obtain ⟨_, _, e, _, h1, _⟩ := hv w (Apart.refl _ _)
    cases e
    exact h1
  have hst := put_complex
  have hw : ∀ k, foot g h L k → k < w.heap.size := fun k hk => (d.lt k hk).2
  have HW := Lib.hid hw
  have HD := Lib.hid d
  have HF := Lib.hid hf
  have HV := Lib.hid hv
  have HG := Lib.hid hg
  have HQ := Lib.hid hq
  have HS := Lib.hid hs
  have HU := Lib.hid hu
  have HLL := Lib.hid hl
  have d0 : decide ((used : Int) < 0) = false := by simp
  have d1 : decide ((16 : Int) < (used : Int)) = false := by simp; omega
  obtain ⟨w5, hw5⟩ : ∃ w5, w5 = ((((w.alloc (.cells #[.pointer (some ⟨g, 0, none⟩)] 23)).alloc (.cells #[.int .i64 (q : Int)] 3)).alloc (.cells #[.int .i64 (used : Int)] 3)).alloc (.cells #[.int .i64 0] 3)).alloc (.cells #[.int .i64 0] 24) := ⟨_, rfl⟩
  have B5 : Hid (Below w.heap.size w w5) := Lib.hid (by rw [hw5]; exact (((((Below.refl _ w).alloc (Nat.le_refl _) _).alloc (by simp) _).alloc (by simp; omega) _).alloc (by simp; omega) _).alloc (by simp; omega) _)
  have X0 : Hid (Boxed w5 w.heap.size 23 (.pointer (some ⟨g, 0, none⟩))) := Lib.hid (by rw [hw5]; exact ((((Boxed.new w _ _).alloc _).alloc _).alloc _).alloc _)
  have X1 : Hid (Boxed w5 (w.heap.size + 1) 3 (.int .i64 (q : Int))) := Lib.hid (by rw [hw5]; have hh := Boxed.new (w.alloc (.cells #[.pointer (some ⟨g, 0, none⟩)] 23)) 3 (.int .i64 (q : Int)); simp only [World.size_alloc] at hh; exact ((hh.alloc _).alloc _).alloc _)
  have X2 : Hid (Boxed w5 (w.heap.size + 2) 3 (.int .i64 (used : Int))) := Lib.hid (by rw [hw5]; have hh := Boxed.new ((w.alloc (.cells #[.pointer (some ⟨g, 0, none⟩)] 23)).alloc (.cells #[.int .i64 (q : Int)] 3)) 3 (.int .i64 (used : Int)); simp only [World.size_alloc] at hh; exact (hh.alloc _).alloc _)
  have X3 : Hid (Boxed w5 (w.heap.size + 3) 3 (.int .i64 0)) := Lib.hid (by rw [hw5]; have hh := Boxed.new (((w.alloc (.cells #[.pointer (some ⟨g, 0, none⟩)] 23)).alloc (.cells #[.int .i64 (q : Int)] 3)).alloc (.cells #[.int .i64 (used : Int)] 3)) 3 (.int .i64 0); simp only [World.size_alloc] at hh; exact hh.alloc _)
  have X4 : Hid (Boxed w5 (w.heap.size + 4) 24 (.int .i64 0)) := Lib.hid (by rw [hw5]; have hh := Boxed.new ((((w.alloc (.cells #[.pointer (some ⟨g, 0, none⟩)] 23)).alloc (.cells #[.int .i64 (q : Int)] 3)).alloc (.cells #[.int .i64 (used : Int)] 3)).alloc (.cells #[.int .i64 0] 3)) 24 (.int .i64 0); simp only [World.size_alloc] at hh; exact hh)
  clear hw d hf hv hg hq hs hu hl
  refine (callsIn_wide (n := 3)).1 ?_
  refine callsIn_of_wp_marks Try.func14 rfl trivial ?_ rfl
  simp only [Try.ntmps14, List.size_toArray, List.length_cons, List.length_nil, Nat.reduceAdd, Nat.reduceSub, Array.replicate_succ, Array.replicate_zero, List.push_toArray, List.append_toArray, List.nil_append, List.cons_append]
  gi_wp2_with fail
  rw [← hw5]
  clear hw5
  refine ⟨trivial, ?_⟩
  refine (callsIn_wide.2 (spSeq_yes q w5 HQ.out)).mono ?_
  rintro e w' ⟨rfl, rfl⟩
  have c2 := X2.out.cell
  gi_wp2
  gi_loopw [36] (fun x wr => ∃ i : Nat, i ≤ n ∧ x = .int .i64 (i : Int) ∧ Below w5.heap.size w5 wr) (fun x _ => n - (intOf x).toNat)
  case atStart => exact ⟨0, by omega, rfl, Below.refl _ _⟩
  case round =>
    obtain ⟨i, hi, rfl, hb⟩ := hrel
    have HB := Lib.hid hb
    clear hb c2
    by_cases hk : i < n
    · have hA : Apart (foot g h L) w wr := (Apart.of_below B5.out).trans (Apart.of_below HB.out) fun _ _ e => e
      have h5 := ReadsD.five (HV.out wr hA) hk
      obtain ⟨Dl, hD⟩ : ∃ Dl, Dl = ds i := ⟨_, rfl⟩
      rw [← hD] at h5
      obtain ⟨c0, c1, c2, c3, c4⟩ := h5
      have VD : Valid Dl := by rw [hD]; exact HG.out i hk
      have hsm := valid_small VD
      have CK := fun W => dcheck_any Dl W (by omega) (by omega)
      have VV := Lib.hid VD
      clear hD hA VD
      obtain ⟨k, v, o, b, x, y⟩ := Dl
      dsimp only at c0 c1 c2 c3 c4
      have HC : Hid (∀ W, Calls Try.prog 28 #[.agg #[.int .i64 (k : Int), .int .i64 (v : Int), .int .i64 (o : Int), .int .i64 (b : Int), .complex .f64 (fl x) (fl y)]] W (Checked_ ⟨k, v, o, b, x, y⟩ W)) := Lib.hid CK
      clear CK hsm
      gi_wp2_with fail
      refine ⟨trivial, ?_⟩
      refine (callsIn_wide.2 (HC.out _)).mono ?_
      rintro e w3 ⟨⟨z, rfl, hz⟩, hb3⟩
      obtain rfl : z = 0 := hz.2 VV.out
      have B3 : Hid (Below w5.heap.size w5 w3) := Lib.hid (HB.out.trans ((five_box.trans (hb3.mono (by simp))).mono HB.out.size))
      clear c0 c1 c2 c3 c4 hb3 hz
      gi_wp2
      go_roundw
      case rel => exact ⟨i + 1, by omega, by go_num, B3.out⟩
      case measure => simp [intOf]; omega
    · obtain rfl : i = n := by omega
      gi_wp2_with fail
      refine ⟨trivial, ?_⟩
      refine (callsIn_wide.2 (sectors_ok i wr hn96)).mono ?_
      rintro e w' ⟨rfl, rfl⟩
      obtain ⟨m, hm⟩ : ∃ m, m = dcount i := ⟨_, rfl⟩
      rw [← hm]
      have c2 : wr.cell? ⟨w.heap.size + 2, 0, none⟩ = some (.int .i64 (used : Int)) := (show Boxed wr (w.heap.size + 2) _ _ from (HB.out.block _ X2.out.lt).trans X2.out).cell
      have d2 : decide ((16 : Int) < (used : Int) + (m : Int)) = false := by simp; have := HU.out; omega
      have hm16 : m ≤ 16 := by have := HU.out; omega
      have HM := Lib.hid hm
      clear hm
      gi_wp2_with fail
      refine ⟨trivial, ?_⟩
      refine (dparts_in Fence.wide _ trivial rfl _ _ _ _ _).mono ?_
      rintro e w' ⟨rfl, rfl⟩
      gi_wp2_with fail
      clear c2 d2
      have HX7 : Hid (Below w5.heap.size w5 ((wr.alloc (.cells #[.slice (some ad) i c] 32)).alloc (.cells #[.int .i64 6] 3))) := Lib.hid ((HB.out.alloc HB.out.size _).alloc (by have := HB.out.size; simp; omega) _)
      have y2 := (Boxed.new wr 32 (.slice (some ad) i c)).alloc (.cells #[.int .i64 6] 3)
      have y1 := Boxed.new (wr.alloc (.cells #[.slice (some ad) i c] 32)) 3 (.int .i64 6)
      simp only [World.size_alloc] at y1
      have hbs : w.heap.size + 5 ≤ wr.heap.size := by have := HB.out.size; have := X4.out.lt; omega
      have box : ∀ {b t v}, Boxed w5 b t v → Boxed ((wr.alloc (.cells #[.slice (some ad) i c] 32)).alloc (.cells #[.int .i64 6] 3)) b t v := fun {b t v} hb => (HX7.out.block b hb.lt).trans hb
      have hI0 : SvI w base g h q used i L D ds wr.heap.size (.slice (some ad) i c) [] ((wr.alloc (.cells #[.slice (some ad) i c] 32)).alloc (.cells #[.int .i64 6] 3)) :=
        ⟨⟨L, by
          have hh := HD.out.below (B5.out.trans (HX7.out.mono B5.out.size))
          rw [List.map_nil, List.append_nil]
          exact hh, fun k e => .inl e⟩, Apart.of_below (B5.out.trans (HX7.out.mono B5.out.size)), box X0.out, box X1.out, box X2.out, box X3.out, box X4.out, y1, y2⟩
      refine wpIn_rangeFunc_ownG rfl (by omega) (gf := 45) (lb := #[.pointer (some ⟨wr.heap.size + 1, 0, none⟩), .pointer (some ⟨wr.heap.size, 0, none⟩)]) rfl trivial (enters_of Try.func45 (by kernel_rfl) rfl)
        (dparts_stops Fence.wide _ trivial rfl (by omega) (wr.heap.size + 1) wr.heap.size 0 ad i c (by omega) hcap _ (by simp) (by simp <;> omega) y1.cell y2.cell) keeps2_t (keeps2_b (Nat.zero_le _) (by simp) (by simp <;> omega)) (Below.refl _ _) (fun _ => rfl)
        (SvI w base g h q used i L D ds wr.heap.size (.slice (some ad) i c)) (fun _ _ _ => False)
        (svI_own w base g h q used i L D ds wr.heap.size (.slice (some ad) i c) (by simp; omega))
        (fun _ _ _ _ _ hs _ _ => hs)
        hI0
        (fun x => { tmps := #[.pointer (some ⟨g, 0, none⟩), .int .i64 (q : Int), .int .i64 (used : Int), .slice (some ad) i c, .pointer (some ⟨w.heap.size, 0, none⟩), .pointer (some ⟨w.heap.size + 1, 0, none⟩), .pointer (some ⟨w.heap.size + 2, 0, none⟩), undef, .pointer (some ⟨w.heap.size + 3, 0, none⟩), .pointer (some ⟨w.heap.size + 4, 0, none⟩), undef, u11, u12, .int .i64 (m : Int), .int .i64 0, .int .i64 (x.val : Int), dpartV ad i c x.val, undef, undef, .pointer (some ⟨g, 0, none⟩), .bool false, .bool false, .int .i64 (q : Int), .bool true, .bool false, .bool false, .bool false, .int .i64 (used : Int), .bool false, .bool false, .bool false, .int .i64 (used : Int), .bool false, .bool false, .slice (some ad) i c, .int .i64 (i : Int), .int .i64 (i : Int), .bool false, u38, u39, u40, u41, u42, u43, u44, u45, .tuple #[.int .i64 (m : Int), .int .i64 0], .slice (some ad) i c, .int .i64 (i : Int), .tuple #[.int .i64 (m : Int), .int .i64 0], .int .i64 (m : Int), .int .i64 0, .int .i64 0, .bool false, .bool false, .int .i64 (used : Int), .int .i64 (m : Int), .int .i64 ((used : Int) + (m : Int)), .bool false, .bool false, .slice (some ad) i c, .func (.func 45) #[] #[.pointer (some ⟨wr.heap.size + 1, 0, none⟩), .pointer (some ⟨wr.heap.size, 0, none⟩)], .int .i64 (x.val : Int), dpartV ad i c x.val, undef, undef, undef, undef, undef, undef, undef, undef, undef, undef, undef, undef, undef, undef, undef, undef, undef, undef, undef], defers := [] }) ?assign ?body ?done ?stop
      case assign =>
        intro l x W K hK
        gi_wp2
        exact hK
      case body =>
        rintro l pre x W hI hlt
        clear hI0 y1 y2 box
        obtain ⟨L', hd, ho⟩ := hI.dev
        have hx := dcount_lt.1 x.isLt
        have hx16 : x.val ≤ 16 := by have := x.isLt; have := HU.out; omega
        have PR := Lib.hid (dpart_reads (HV.out W hI.apart) hx)
        have GV : Hid (∀ j, j < dlen i x.val → Valid (ds (x.val * 6 + j))) := Lib.hid fun j hj => HG.out _ (by unfold dlen at hj; omega)
        have SO : Hid (∀ W', Below W.heap.size W W' → Calls Try.prog 30 #[dpartV ad i c x.val, .int .i64 (q : Int), .int .i64 ((used : Int) + (x.val : Int))] W' fun e w' => ∃ u, e = .returned u ∧ Row W'.heap.size w' u 64 (spP q used i ds x.val) ∧ Below W'.heap.size W' w') := Lib.hid fun W' hb => by
          have hh := sectorOf_ok (dpartV ad i c x.val) (dlen i x.val) q (used + x.val) (fun j => ds (x.val * 6 + j)) W' (by have := dlen_le i x.val; omega) (by omega) (by omega) (PR.out.below hb) GV.out
          rw [Int.natCast_add] at hh
          exact hh
        have hsm : ∀ j, j < 64 → spP q used i ds x.val j < 256 := fun j _ => spS_lt (by omega) (by have := dlen_le i x.val; omega) GV.out j
        have HSM := Lib.hid hsm
        have DD := Lib.hid hd
        have OO := Lib.hid ho
        have II := Lib.hid hI
        have c2 := hI.x2.cell
        have S0 : W.cell? ⟨w.heap.size, 0, none⟩ = some (.pointer (some ⟨g, 0, none⟩)) ∧ W.cell? ⟨w.heap.size + 1, 0, none⟩ = some (.int .i64 (q : Int)) := ⟨hI.x0.cell, hI.x1.cell⟩
        have hpl : pre.length ≤ 16 := by have := HU.out; omega
        clear hsm hd ho hI hx hlt
        gi_wp2
        refine region_round_held (S := fun w' => w'.cell? ⟨w.heap.size, 0, none⟩ = some (.pointer (some ⟨g, 0, none⟩)) ∧ w'.cell? ⟨w.heap.size + 1, 0, none⟩ = some (.int .i64 (q : Int))) (by kernel_rfl) (by rintro ⟨a, w, h⟩; exact h) (by kernel_rfl) S0 (fun hH => ?_)
        refine wpAnyH_take (i := 0) (v := .pointer (some ⟨g, 0, none⟩)) rfl (by kernel_rfl) (by kernel_rfl) (by kernel_rfl) (fun _ _ _ h => h) (Or.inl ⟨by rfl, fun w' hS => by have s1 := hS.1; go_simp⟩) hH ?_
        simp only [Act.put, List.setIfInBounds_toArray]
        refine wpAnyH_take (i := 1) (v := .int .i64 ((used : Int) + (x.val : Int))) rfl (by kernel_rfl) (by kernel_rfl) (by kernel_rfl) (fun _ _ _ h => h) (Or.inl ⟨by rfl, fun w' hS => by go_simp⟩) hH ?_
        simp only [Act.put]
        refine wpAnyH_take (i := 2) (v := .int .i64 (24 + ((used : Int) + (x.val : Int)))) rfl (by kernel_rfl) (by kernel_rfl) (by kernel_rfl) (fun _ _ _ h => h) (Or.inl ⟨by rfl, fun w' hS => by go_simp; exact wrap_i64 (by omega) (by omega)⟩) hH ?_
        simp only [Act.put]
        refine wpAnyH_take (i := 3) (v := dpartV ad i c x.val) rfl (by kernel_rfl) (by kernel_rfl) (by kernel_rfl) (fun _ _ _ h => h) (Or.inl ⟨by rfl, fun w' hS => by go_simp⟩) hH ?_
        simp only [Act.put]
        refine wpAnyH_take (i := 4) (v := .int .i64 (q : Int)) rfl (by kernel_rfl) (by kernel_rfl) (by kernel_rfl) (fun _ _ _ h => h) (Or.inl ⟨by rfl, fun w' hS => by have s1 := hS.2; go_simp⟩) hH ?_
        simp only [Act.put]
        refine wpAnyH_take (i := 5) (v := .int .i64 ((used : Int) + (x.val : Int))) rfl (by kernel_rfl) (by kernel_rfl) (by kernel_rfl) (fun _ _ _ h => h) (Or.inl ⟨by rfl, fun w' hS => by go_simp⟩) hH ?_
        simp only [Act.put]
        refine wpAnyH_ready (rs := [6]) (by kernel_rfl) (by simp) ?_
        refine AllReadyH.cons rfl (fun K_ hK_ => ?_) AllReadyH.nil
        go_simp
        refine (SO.out W.drew ((Below.refl _ _).drew)).mono ?_
        rintro e W1 ⟨u, rfl, hu, hb1⟩
        have B1 : Hid (Below W.heap.size W W1) := Lib.hid (((Below.refl _ W).drew).trans hb1)
        have S1 : W1.cell? ⟨w.heap.size, 0, none⟩ = some (.pointer (some ⟨g, 0, none⟩)) ∧ W1.cell? ⟨w.heap.size + 1, 0, none⟩ = some (.int .i64 (q : Int)) := ⟨cell_later B1.out II.out.x0.cell, cell_later B1.out II.out.x1.cell⟩
        have HU1 : Hid (Row W.heap.size W1 u 64 (spP q used i ds x.val)) := Lib.hid hu
        clear hu hb1
        refine hK_.out _ _ S1 (fun hH => ?_)
        clear hK_ K_
        obtain ⟨gu, cu, rfl, g1, g2, u1, u2, u3⟩ := HU1.out.bytes (Nat.le_refl _) HSM.out
        have PN : Hid (Calls Try.prog 7 #[.pointer (some ⟨g, 0, none⟩), .slice (some ⟨W1.heap.size, 0, none⟩) 1 1] (W1.alloc (.cells #[.int .i64 (24 + ((used : Int) + (x.val : Int))), .slice (some ⟨gu, 0, none⟩) 64 cu] 31)) (Written W1 base g h L' { D with loose := (D.loose ++ pre.map fun x => spW q used i ds x.val) ++ [spW q used i ds x.val] } 0)) := Lib.hid (by
          have hh := put_new (t := 24 + (used + x.val)) (u := .slice (some ⟨gu, 0, none⟩) 64 cu) (f := spP q used i ds x.val) (DD.out.below B1.out) (fun W' a => by
            obtain ⟨g', c', e', _, _, k1, k2, k3⟩ := (row_apart HU1.out a fun k hk => (DD.out.lt k hk).2).bytes (Nat.le_refl _) HSM.out
            cases e'
            exact ⟨_, _, rfl, k1, k2, (by intro e; cases e), k3⟩) (by have := HS.out; have := x.isLt; show _ < D.size; omega) (by show (D.loose ++ pre.map fun x => spW q used i ds x.val).length ≤ _; rw [List.length_append, List.length_map]; have := HLL.out; omega) ⟨HF.out.on, HF.out.un⟩
          rw [show ((24 + (used + x.val) : Nat) : Int) = 24 + ((used : Int) + (x.val : Int)) by omega] at hh
          exact hh)
        have SA : Hid (∀ o, (W1.alloc o).cell? ⟨w.heap.size, 0, none⟩ = some (.pointer (some ⟨g, 0, none⟩)) ∧ (W1.alloc o).cell? ⟨w.heap.size + 1, 0, none⟩ = some (.int .i64 (q : Int))) := Lib.hid fun o => ⟨later1 S1.1 o, later1 S1.2 o⟩
        clear g1 g2 u1 u2 u3 S1
        refine wpAnyH_take (i := 7) (v := .agg #[.int .i64 (24 + ((used : Int) + (x.val : Int))), .slice (some ⟨gu, 0, none⟩) 64 cu]) rfl (by kernel_rfl) (by kernel_rfl) (by kernel_rfl) (fun _ _ _ h => h) (Or.inl ⟨by rfl, fun w' hS => by go_simp⟩) hH ?_
        simp only [Act.put]
        refine wpAnyH_ready (rs := [8]) (by kernel_rfl) (by simp) ?_
        refine AllReadyH.cons rfl (fun K_ hK_ => ?_) AllReadyH.nil
        go_simp
        refine hK_.out _ _ (SA.out _) (fun hH => ?_)
        clear hK_ K_
        refine wpAnyH_ready (rs := [9]) (by kernel_rfl) (by simp) ?_
        refine AllReadyH.cons rfl (fun K_ hK_ => ?_) AllReadyH.nil
        go_simp
        refine PN.out.mono ?_
        rintro e W2 ⟨L2, rfl, hd2, ha2, ho2⟩
        have ST := Lib.hid (sv_step HW.out (by omega) DD.out OO.out II.out B1.out hd2 ha2 ho2)
        clear hd2 ha2 ho2
        refine hK_.out _ _ ST.out.1 (fun hH => ?_)
        clear hK_ K_
        refine wpAnyH_take (i := 10) (v := .int .i64 0) rfl (by kernel_rfl) (by kernel_rfl) (by kernel_rfl) (fun _ _ _ h => h) (Or.inl ⟨by rfl, fun w' hS => by go_simp⟩) hH ?_
        simp only [Act.put]
        refine wpAnyH_done (by kernel_rfl) ?_ _
        refine NoPanic.normal ?_
        clear hH c2 S0
        gi_wp2
        exact ⟨by simpa using ST.out.2.1, ST.out.2.2.1, ST.out.2.2.2⟩
      case done =>
        rintro D' xs W hD hxs hI hK
        clear hI0 y1 y2 box
        have hD' : wr.heap.size + 2 ≤ D' := by simpa using hD
        have hmap : (xs.map fun x => spW q used i ds x.val) = (List.range m).map (spW q used i ds) := by
          rw [HM.out, ← hxs, List.map_map]
          rfl
        obtain ⟨⟨L', hd, ho⟩, ha, x0, x1, x2, x3, x4, -, -⟩ := hI
        rw [hmap] at hd
        have hoff : ∀ b t v, Boxed W b t v → t ≠ 59 → w.heap.size ≤ b → ¬ foot g h L' b := fun b t v hb ht hle => box_off hd hb ht (by have := HW.out g (.inl rfl); omega) (by have := HW.out h (.inr (.inl rfl)); omega)
        have n3 := hoff _ _ _ x3 (by decide) (by omega)
        have n4 := hoff _ _ _ x4 (by decide) (by omega)
        have c2 := x2.cell
        have c3 := x3.cell
        have f3 := x3.frozen
        have x4' := x4.other (B' := w.heap.size + 3) (by omega) (.int .i64 ((used : Int) + (m : Int)))
        have c4 := x4'.cell
        have f4 := x4'.frozen
        have E3 := Lib.hid ((x3.set (.int .i64 ((used : Int) + (m : Int)))).other (B' := w.heap.size + 4) (by omega) (.int .i64 0))
        have E4 := Lib.hid (x4'.set (.int .i64 0))
        have hk3 : ((W.setCell ⟨w.heap.size + 3, 0, none⟩ (.int .i64 ((used : Int) + (m : Int)))).setCell ⟨w.heap.size + 4, 0, none⟩ (.int .i64 0)).heap[D']? = some (.deferred (some [])) := by
          rw [Below.heap_setCell _ _ _ _ (by show D' ≠ w.heap.size + 4; omega), Below.heap_setCell _ _ _ _ (by show D' ≠ w.heap.size + 3; omega)]
          exact hK
        have K3 := Lib.hid hk3
        have A3 : Hid (Apart (fun k => k = w.heap.size + 3 ∨ k = w.heap.size + 4) W ((W.setCell ⟨w.heap.size + 3, 0, none⟩ (.int .i64 ((used : Int) + (m : Int)))).setCell ⟨w.heap.size + 4, 0, none⟩ (.int .i64 0))) :=
          Lib.hid (((Apart.refl _ W).setCell (p := ⟨w.heap.size + 3, 0, none⟩) (fun _ => .inl rfl) _).setCell (p := ⟨w.heap.size + 4, 0, none⟩) (fun _ => .inr rfl) _)
        have D3 := Lib.hid (hd.apart A3.out fun k hk e => by
          rcases e with rfl | rfl
          · exact n3 hk
          · exact n4 hk)
        have W3 : Hid (Apart (foot g h L) w ((W.setCell ⟨w.heap.size + 3, 0, none⟩ (.int .i64 ((used : Int) + (m : Int)))).setCell ⟨w.heap.size + 4, 0, none⟩ (.int .i64 0))) := Lib.hid (ha.trans A3.out fun k hk e => by
          rcases e with rfl | rfl <;> omega)
        have OO := Lib.hid ho
        clear hd ho ha x0 x1 x2 x3 x4 x4' hk3 hK n3 n4 hoff
        gi_wp2
        refine ⟨by simp, .inl ⟨_, _, rfl, run_takeDeferred K3.out, ?_⟩⟩
        have hpk : ∀ b, b < w.heap.size + 5 → ∀ o, (((W.setCell ⟨w.heap.size + 3, 0, none⟩ (.int .i64 ((used : Int) + (m : Int)))).setCell ⟨w.heap.size + 4, 0, none⟩ (.int .i64 0)).putObj D' o).heap[b]? = ((W.setCell ⟨w.heap.size + 3, 0, none⟩ (.int .i64 ((used : Int) + (m : Int)))).setCell ⟨w.heap.size + 4, 0, none⟩ (.int .i64 0)).heap[b]? := fun b hb o => World.putObj_heap_other (by omega)
        refine ⟨_, results_two (fn := Try.f14) rfl _ _ ⟨w.heap.size + 3, 0, none⟩ ⟨w.heap.size + 4, 0, none⟩ _ _ rfl rfl (run_loadVar_cell Try.underlying3 rfl (show Boxed _ (w.heap.size + 3) 3 _ from (hpk _ (by omega) _).trans E3.out).cell) (run_loadVar_cell Try.underlying24 rfl (show Boxed _ (w.heap.size + 4) 24 _ from (hpk _ (by omega) _).trans E4.out).cell), ?_⟩
        have hgp := grownBy_putObj' ((W.setCell ⟨w.heap.size + 3, 0, none⟩ (.int .i64 ((used : Int) + (m : Int)))).setCell ⟨w.heap.size + 4, 0, none⟩ (.int .i64 0)) D' (.deferred none)
        refine ⟨by rw [← HM.out, Int.natCast_add], ⟨hgp.os.trans W3.out.os, hgp.tape.trans W3.out.tape, hgp.output.trans W3.out.output, Nat.le_trans W3.out.size hgp.size, fun k hlt hn => (hgp.block k (Nat.lt_of_lt_of_le hlt W3.out.size) fun e => by cases e; omega).trans (W3.out.block k hlt hn)⟩, L', ?_, OO.out⟩
        rw [← HM.out]
        exact D3.out.cells_kept fun g cs t fr hg => cells_kept (grownBy_putObj' _ D' (.deferred none)) (fun r e => by cases e; exact ⟨_, K3.out, rfl⟩) hg
      case stop =>
        rintro D' cd pre W hD - hh
        exact hh.elim
end Go.Proofs.Ytmgeifolgdgapaa
