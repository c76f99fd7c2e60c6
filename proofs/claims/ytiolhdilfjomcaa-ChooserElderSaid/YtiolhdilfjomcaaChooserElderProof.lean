/- The segment that is picked is picked too if it is elder than it was; if another one is elder, that one may be picked in its place, no third. For every input, no condition. -/
import Derived.Test.YtiolhdilfjomcaaChBoth
import Derived.Lib.SmallJoins
namespace Go.Proofs.Ytiolhdilfjomcaa.chooserElder
open Go.ChangeShapes Go.WideShapes Go.ChangeAt Go.RowKit

theorem u8_in {a : Int} (h : (Lit.int .u8 a).wf = true) : 0 ≤ a ∧ a ≤ 255 := by
  simpa [Lit.wf, IntKind.min, IntKind.max, IntKind.signed, IntKind.bits] using h

/-- A copy of a slice: 'append([]int{}, age...)'. -/
theorem copied {w : World} {m : Nat} {ad : Addr} {G : Nat → Int} (c : Nat) (ty : TypeId) (J : IntsAt w (some ad) m G) (hm : 0 < m) (hm2 : m ≤ 24) :
    ∃ g cap w', (Builtin.append_ #[24, 24] ty #[.slice (some ⟨w.heap.size, 0, none⟩) 0 0, .slice (some ad) m c]).run Try.prog (w.alloc (.cells #[] 3)) = .ok (.slice (some ⟨g, 0, none⟩) m cap) w' ∧
      OwnI w' w.heap.size (.slice (some ⟨g, 0, none⟩) m cap) m G ∧ Below w.heap.size w w' := by
  obtain ⟨i0, hi, hz0, hz1, hz2⟩ := info_parts int_info
  have hJ := J.below (boxed w (.cells #[] 3))
  have h0 : OwnI (w.alloc (.cells #[] 3)) w.heap.size (.slice (some ⟨w.heap.size, 0, none⟩) 0 0) 0 G := owni_new w G
  obtain ⟨v', w', h1, h2, h3, _⟩ := run_append_own (P := Try.prog) (w.alloc (.cells #[] 3)) w.heap.size 24 ty 3 i0 _ 1 8 Try.underlying24 hi hz0 hz1 hz2 rfl (by decide) _ 0 _ h0 ad m c (intsOf G m) (by rw [intsOf_length, Nat.mul_one])
    (fun j u hj => by obtain ⟨hl, rfl⟩ := intsOf_inv hj; exact hJ.at_ hl) (intsOf_one G m) (by unfold maxLen; omega) (by omega) (by simp)
  have h4 : OwnI w' w.heap.size v' m G := by
    unfold OwnI
    have e : intsOf G 0 ++ intsOf G m = intsOf G m := rfl
    rw [Nat.zero_add, e] at h2
    exact h2
  have hb : Below w.heap.size w w' := (boxed w (.cells #[] 3)).grown h3 (by simp) (fun k hk => by simp [Value.ownBlock] at hk; omega)
  rcases h4.2 with ⟨_, h5⟩ | ⟨g, cap, cur, rfl, _⟩
  · omega
  · exact ⟨g, cap, w', h1, h4, hb⟩

theorem set_list (f g : Nat → Int) {n k : Nat} {z : Int} (hk : k < n) (hz : z = g k) (h : ∀ i, i ≠ k → f i = g i) : (intsOf f n).set k (.int .i64 z) = intsOf g n := by
  have := congrArg Array.toList (intsOf_set f g hk hz h)
  simpa using this

/-- One age that is below 60000 is raised by d. -/
theorem raised {w w1 : World} {g m cap k : Nat} {G : Nat → Int} {d : Int} (O : OwnI w1 w.heap.size (.slice (some ⟨g, 0, none⟩) m cap) m G) (B : Below w.heap.size w w1) (hk : k < m) (hG : ∀ i, i < m → 0 ≤ G i ∧ G i ≤ 65535) (hd : 0 ≤ d ∧ d ≤ 255) :
    ∃ G1 W1, ((decide (G k < 60000) = true ∧ W1 = w1.setCell ⟨g, k, none⟩ (.int .i64 (G k + d))) ∨ (decide (G k < 60000) = false ∧ W1 = w1)) ∧ IntsAt W1 (some ⟨g, 0, none⟩) m G1 ∧ Below w.heap.size w W1 ∧
      (∀ i, i < m → 0 ≤ G1 i ∧ G1 i ≤ 65535) ∧ G k ≤ G1 k ∧ ∀ i, i ≠ k → G1 i = G i := by
  have reads : ∀ (W : World) (F : Nat → Int), OwnI W w.heap.size (.slice (some ⟨g, 0, none⟩) m cap) m F → (∀ i, i < m → 0 ≤ F i ∧ F i ≤ 65535) → IntsAt W (some ⟨g, 0, none⟩) m F := fun W F h hF =>
    ⟨fun i hi => by have := hF i hi; omega, fun i hi => ⟨_, rfl, World.ownsRow.cells h (g := g) rfl i _ (intsOf_at F hi)⟩⟩
  by_cases h : G k < 60000
  · have e0 : ∀ i, i ≠ k → G i = (fun i => if i = k then G k + d else G i) i := fun i hi => by simp only [if_neg hi]
    obtain ⟨h1, h2⟩ := World.ownsRow.stored O k (.int .i64 (G k + d))
    rw [set_list G (fun i => if i = k then G k + d else G i) hk (by simp) e0] at h1
    have hF : ∀ i, i < m → 0 ≤ (fun i => if i = k then G k + d else G i) i ∧ (fun i => if i = k then G k + d else G i) i ≤ 65535 := fun i hi => by
      have h3 := hG i hi
      have h4 := hG k hk
      show 0 ≤ (if i = k then G k + d else G i) ∧ (if i = k then G k + d else G i) ≤ 65535
      split <;> omega
    refine ⟨_, _, .inl ⟨decide_eq_true h, rfl⟩, reads _ _ h1 hF, ?_, hF, by simp; omega, fun i hi => (e0 i hi).symm⟩
    exact B.grown h2 B.size (fun j hj => (World.ownsRow.lt O j hj).1)
  · exact ⟨G, w1, .inr ⟨decide_eq_false h, rfl⟩, reads _ _ O hG, B, hG, Int.le_refl _, fun _ _ => rfl⟩

theorem over_same {L G G1 : Nat → Int} {b : Int} {i : Nat} (h : G1 i = G i) : overS L G1 b i = overS L G b i := by unfold overS; rw [h]
theorem over_up {L G G1 : Nat → Int} {b : Int} {i : Nat} (hl : L i ≤ b) (h : G i ≤ G1 i) : overS L G b i ≤ overS L G1 b i := by
  unfold overS
  exact Int.mul_le_mul_of_nonneg_left (by omega) (by omega)

theorem text_err {s b x v : Int} {A B : Option Addr} {n m : Nat} (c d : Nat) (y z : Value) (w : World) (hx : (x != 0) = true)
    (h1 : ∀ W, Below w.heap.size w W → Calls Try.prog 8 #[.agg #[.int .i64 s, .int .i64 b], .slice A n c, .slice B m d, .slice none 0 0] W (Fresh (.tuple #[.int .i64 v, .int .i64 x]) W)) :
    Calls Try.prog 7 #[.agg #[.int .i64 s, .int .i64 b], .slice A n c, .slice B m d, y, z] w (Fresh (.bool true) w) := by
  have H1 := Lib.hid h1
  clear h1
  go_enter Try.func7, Try.ntmps7
  go_wp2_with fail
  refine (H1.out _ (boxed _ _)).mono ?_
  rintro e w1 ⟨rfl, hb⟩
  have HB := Lib.hid (geo_below hb)
  clear hb
  go_wp2_with fail
  refine (awake_any _).mono ?_
  rintro e w2 ⟨rfl, hb⟩
  have B2 : Hid (Below w.heap.size w w2) := Lib.hid (HB.out.trans (hb.mono HB.out.size))
  clear hb
  go_wp2_with fail
  refine (awake_any _).mono ?_
  rintro e w3 ⟨rfl, hb⟩
  have B3 : Hid (Below w.heap.size w w3) := Lib.hid (B2.out.trans (hb.mono B2.out.size))
  clear hb
  go_wp2
  go_ret
  exact ⟨rfl, B3.out⟩

set_option maxRecDepth 20000 in
theorem text_ok {b : Int} {A : Option Addr} {bd : Addr} {n r more which : Nat} {L G : Nat → Int} (c d : Nat) (w : World) (h : Live (n : Int) b n L) (g : Ages n n G) (H : IntsAt w A n L) (J : IntsAt w (some bd) n G)
    (hp : IsPick (cand L (fun _ => 0) b 0) (overS L G b) (underS L b) n r) (hmore : more ≤ 255) (hwhich : which ≤ 255) :
    Calls Try.prog 7 #[.agg #[.int .i64 (n : Int), .int .i64 b], .slice A n c, .slice (some bd) n d, .int .u8 (more : Int), .int .u8 (which : Int)] w (Fresh (.bool true) w) := by
  have hn : n ≤ 24 := by have := h.geo.1.2; omega
  have hn0 : 6 ≤ n := by have := h.geo.1.1; omega
  have hrn := hp.lt
  obtain ⟨k, ek⟩ : ∃ k, k = which % n := ⟨_, rfl⟩
  have hk : k < n := by rw [ek]; exact Nat.mod_lt _ (by omega)
  have hY : ∀ i, i < n → 0 < underS L b i := fun i hi => by
    have h1 := h.num i hi
    have h2 := h.geo.2
    unfold underS
    omega
  have pickAt : ∀ (W : World) (B : Option Addr) (cap t : Nat) (F : Nat → Int), Below w.heap.size w W → IntsAt W B n F → (∀ i, i < n → 0 ≤ F i ∧ F i ≤ 65535) → IsPick (cand L (fun _ => 0) b 0) (overS L F b) (underS L b) n t →
      Calls Try.prog 8 #[.agg #[.int .i64 (n : Int), .int .i64 b], .slice A n c, .slice B n cap, .slice none 0 0] W (Fresh (.tuple #[.int .i64 (t : Int), .int .i64 0]) W) := fun W B cap t F h1 h2 h3 h4 =>
    pick_ok c cap 0 W h ⟨rfl, h3⟩ (H.below h1) h2 (IntsAt.none_ _ _) (by omega) h4
  have PA := Lib.hid pickAt
  have HH := Lib.hid h
  have HG := Lib.hid g
  have J0 := Lib.hid J
  have HP := Lib.hid hp
  have HY := Lib.hid hY
  have EK := Lib.hid ek
  clear h g H J hp hY ek pickAt
  go_enter Try.func7, Try.ntmps7
  go_wp2_with fail
  refine (PA.out _ _ d r G (boxed _ _) (J0.out.below (boxed _ _)) HG.out.num HP.out).mono ?_
  rintro e w1 ⟨rfl, hb⟩
  have c0 := geo_s hb
  have c1 := geo_b hb
  have HB := Lib.hid (geo_below hb)
  clear hb
  go_wp2_with fail
  refine (awake_any _).mono ?_
  rintro e w2 ⟨rfl, hb⟩
  have B2 : Hid (Below w.heap.size w w2) := Lib.hid (HB.out.trans (hb.mono HB.out.size))
  have C0 := Lib.hid (cell_later hb c0)
  have C1 := Lib.hid (cell_later hb c1)
  have J2 : Hid (IntsAt w2 (some bd) n G) := Lib.hid (J0.out.below B2.out)
  clear hb c0 c1 HB J0
  obtain ⟨g3, cap3, w3, r3, o3, b3⟩ := copied d 24 J2.out (by omega) hn
  obtain ⟨G1, W1, hW1, j1, b1, a1, u1, s1⟩ := raised (d := (more : Int)) o3 b3 hrn HG.out.num ⟨by omega, by omega⟩
  have R3 := Lib.hid r3
  have hz : w3.cell? ⟨g3, r, none⟩ = some (.int .i64 (G r)) := by rw [World.ownsRow.cellAt o3 r (by omega)]; exact intsOf_at G hrn
  have hf : w3.frozen? ⟨g3, r, none⟩ = false := World.ownsRow.frozenAt o3 r
  obtain ⟨z, ez⟩ : ∃ z, z = G r := ⟨_, rfl⟩
  have hz0 := HG.out.num r hrn
  rw [← ez] at hW1 hz hz0 u1
  obtain ⟨z0, z1⟩ := hz0
  have P1 : Hid (IsPick (cand L (fun _ => 0) b 0) (overS L G1 b) (underS L b) n r) := Lib.hid (pick_elder HY.out HP.out (over_up (HH.out.num r hrn).2 (by rw [← ez]; exact u1)) fun i hi => over_same (s1 i hi))
  have A1 := Lib.hid a1
  have K1 := Lib.hid j1
  have BB1 := Lib.hid b1
  have c0 := cell_later b1 C0.out
  have c1 := cell_later b1 C1.out
  have D0 := Lib.hid c0
  have D1 := Lib.hid c1
  clear r3 o3 b3 j1 b1 a1 u1 s1 ez c0 c1 C0 C1
  rcases hW1 with ⟨d1, hW⟩ | ⟨d1, hW⟩
  all_goals
    have c0 := D0.out
    have c1 := D1.out
    rw [hW] at c0 c1
    go_wp2_with (at_builtin; refine Lib.wpList_append_run _ rfl (.tmp 34) (.tmp 35) _ _ rfl _ _ rfl rfl _ _ R3.out ?_)
    rw [← hW]
    have B1 : Hid (Below w.heap.size w W1) := Lib.hid (B2.out.trans (BB1.out.mono B2.out.size))
    have J1 : Hid (IntsAt W1 (some bd) n G) := Lib.hid (J2.out.below BB1.out)
    clear hW R3 hz hf c0 c1 d1
    refine (PA.out _ _ cap3 r G1 B1.out K1.out A1.out P1.out).mono ?_
    rintro e w4 ⟨rfl, hb⟩
    have B4 : Hid (Below w.heap.size w w4) := Lib.hid (B1.out.trans (hb.mono B1.out.size))
    have J4 : Hid (IntsAt w4 (some bd) n G) := Lib.hid (J1.out.below hb)
    have c0 := cell_later hb D0.out
    have c1 := cell_later hb D1.out
    clear hb B1 J1 D0 D1 K1
    obtain ⟨g5, cap5, w5, r5, o5, b5⟩ := copied d 24 J4.out (by omega) hn
    obtain ⟨G2, W2, hW2, j2, b2, a2, u2, s2⟩ := raised (d := (more : Int)) o5 b5 hk HG.out.num ⟨by omega, by omega⟩
    have R5 := Lib.hid r5
    have hz : w5.cell? ⟨g5, k, none⟩ = some (.int .i64 (G k)) := by rw [World.ownsRow.cellAt o5 k (by omega)]; exact intsOf_at G hk
    have hf : w5.frozen? ⟨g5, k, none⟩ = false := World.ownsRow.frozenAt o5 k
    obtain ⟨y, ey⟩ : ∃ y, y = G k := ⟨_, rfl⟩
    have hy0 := HG.out.num k hk
    rw [← ey] at hW2 hz hy0 u2
    obtain ⟨y0, y1⟩ := hy0
    obtain ⟨t, ht⟩ : ∃ t, IsPick (cand L (fun _ => 0) b 0) (overS L G2 b) (underS L b) n t := by
      rcases pick_or (p := cand L (fun _ => 0) b 0) (X := overS L G2 b) (Y := underS L b) (n := n) (fun i hi => fit_of HH.out hi (a2 i hi)) with h9 | h9
      · exact h9
      · exact absurd HP.out.can (h9 r hrn)
    have hto : t = r ∨ t = k := pick_other HY.out HP.out ht (over_up (HH.out.num k hk).2 (by rw [← ey]; exact u2)) fun i hi => over_same (s2 i hi)
    have HT := Lib.hid ht
    have HO := Lib.hid hto
    have A2 := Lib.hid a2
    have K2 := Lib.hid j2
    have D0 := Lib.hid (cell_later b2 c0)
    have D1 := Lib.hid (cell_later b2 c1)
    have BB2 := Lib.hid b2
    have hmod : (which : Int) % (n : Int) = (k : Int) := by rw [EK.out]; rfl
    have hnz : ¬ (n : Int) = 0 := by omega
    clear r5 o5 b5 j2 b2 a2 u2 s2 ey c0 c1 ht hto
    rcases hW2 with ⟨d2, hV⟩ | ⟨d2, hV⟩
    all_goals
      have c0 := D0.out
      have c1 := D1.out
      rw [hV] at c0 c1
      go_wp2_with (at_builtin; refine Lib.wpList_append_run _ rfl (.tmp 57) (.tmp 58) _ _ rfl _ _ rfl rfl _ _ R5.out ?_)
      rw [← hV]
      have B2' : Hid (Below w.heap.size w W2) := Lib.hid (B4.out.trans (BB2.out.mono B4.out.size))
      clear hV R5 hz hf c0 c1 d2 hmod hnz
      refine (PA.out _ _ cap5 t G2 B2'.out K2.out A2.out HT.out).mono ?_
      rintro e w6 ⟨rfl, hb⟩
      have B6 : Hid (Below w.heap.size w w6) := Lib.hid (B2'.out.trans (hb.mono B2'.out.size))
      clear hb D0 D1 K2
      rcases HO.out with rfl | hh
      · go_wp2
        go_ret
        exact ⟨rfl, B6.out⟩
      · by_cases htr : t = r
        · subst htr
          go_wp2
          go_ret
          exact ⟨rfl, B6.out⟩
        · have hq : ((t : Int) == (r : Int)) = false := by simp; omega
          have hq2 : ((t : Int) == (which : Int) % (n : Int)) = true := by rw [hh, EK.out]; simp
          clear hh
          go_wp2
          go_ret
          exact ⟨rfl, B6.out⟩

set_option linter.unusedVariables false in
theorem walk (w : World) (a0x0 a0x1 : Int) (w0x0 : (Lit.int .i64 a0x0).wf = true) (w0x1 : (Lit.int .i64 a0x1).wf = true) (A1 : Option Addr) (n1 c1 : Nat) (Z1 : List Int) (s1 : IntsIn w .i64 A1 n1 c1 Z1) (r1 : n1 * 8 ≤ 140737488351232) (A2 : Option Addr) (n2 c2 : Nat) (Z2 : List Int) (s2 : IntsIn w .i64 A2 n2 c2 Z2) (r2 : n2 * 8 ≤ 140737488351232) (a3 : Int) (w3 : (Lit.int .u8 a3).wf = true) (a4 : Int) (w4 : (Lit.int .u8 a4).wf = true) :
    Calls Try.prog 7 #[.agg #[.int .i64 a0x0, .int .i64 a0x1], .slice A1 n1 c1, .slice A2 n2 c2, .int .u8 a3, .int .u8 a4] w (Fresh (.bool true) w) := by
  have z3 := u8_in w3
  have z4 := u8_in w4
  obtain ⟨v, x, h1, _, hm⟩ := picks (s := a0x0) (b := a0x1) c1 c2 0 (ints_in s1) (ints_in s2) (IntsAt.none_ w (fun _ => 0)) (by omega)
  rcases hm with ⟨rfl, _⟩ | ⟨rfl, _⟩ | ⟨rfl, hl, hg, r, hv, hr⟩
  · exact text_err c1 c2 _ _ w rfl h1
  · exact text_err c1 c2 _ _ w rfl h1
  · obtain rfl := hl.len
    obtain rfl := hg.len
    obtain ⟨more, rfl⟩ := Int.eq_ofNat_of_zero_le z3.1
    obtain ⟨which, rfl⟩ := Int.eq_ofNat_of_zero_le z4.1
    obtain ⟨bd, rfl⟩ := (ints_in s2).addr (by have := hr.lt; omega)
    exact text_ok c1 c2 w hl hg (ints_in s1) (ints_in s2) hr (by omega) (by omega)

/-! ### the law's end -/
set_option linter.unusedVariables false
theorem own : ownKnob Try.prog.godebug = none := by kernel_rfl
theorem laidOut : laidOutB Try.prog = true := by kernel_rfl
set_option maxRecDepth 100000 in

theorem lifted (os : Os) (started : os.Started) (H : Type) (enc : TypeId × Value → H) :
    ReturnsInHanded {} Try.checked os 7 .any (Rows.chooserElderSpec.pre6 enc Try.prog Try.f7 Rows.chooserElderRow.domain false) (Rows.chooserElderSpec.post enc Try.prog Try.f7 false true false false) := by
  refine returnsInHanded_of_change_sized (C := Try.checked) own started (by kernel_rfl) Try.func7
    (ChangeSpec.witness6 (enc := enc) (C := Try.checked) false ⟨#[], #[.agg #[.int .i64 0, .int .i64 0], .slice none 0 0, .slice none 0 0, .int .u8 0, .int .u8 0], []⟩ 8 (by kernel_rfl) (by kernel_rfl) (by kernel_rfl) (by kernel_rfl)) ?_
  intro W base args ds gs before hval0 hW _ hsz0 _
  have hsz : (DataW.weightsEach Try.prog (Try.f7.params.toList ++ Rows.chooserElderSpec.plain.varTypes Try.prog) (ds ++ gs)).all (· ≤ reachBytes) = true := hsz0
  clear hsz0
  have hval : ∀ (j : Nat) t v, Try.f7.params[j]? = some t → args[j]? = some v → Value.okWide Try.prog W .any base t v := hval0
  have hW' := hW
  obtain ⟨p, q, hA0, hV, rfl, _, _⟩ := hW
  have hA : DataW.TrodAll enc Try.prog W 0 (fun _ => true) true Try.f7.params.toList args.toList ds p := hA0
  rw [Try.params7] at hA hval hsz
  obtain ⟨v0, vs0, d0, ds0, p0, q0, hargs, rfl, rfl, h0, u0⟩ := trodAll_cons hA
  obtain ⟨v1, vs1, d1, ds1, p1, q1, rfl, rfl, rfl, h1, u1⟩ := trodAll_cons u0
  obtain ⟨v2, vs2, d2, ds2, p2, q2, rfl, rfl, rfl, h2, u2⟩ := trodAll_cons u1
  obtain ⟨v3, vs3, d3, ds3, p3, q3, rfl, rfl, rfl, h3, u3⟩ := trodAll_cons u2
  obtain ⟨v4, vs4, d4, ds4, p4, q4, rfl, rfl, rfl, h4, u4⟩ := trodAll_cons u3
  obtain ⟨rfl, rfl, rfl⟩ := trodAll_nil u4
  obtain rfl : args = #[v0, v1, v2, v3, v4] := by cases args; simp_all
  obtain ⟨rfl, rfl⟩ := trodVars_none hV
  clear hA0 hval0
  have k0 := h0
  obtain ⟨c0x0, c0x1, y0x0, y0x1, m0, rfl, rfl, rfl, t0x0, t0x1⟩ := Go.Joins.open_agg2 Try.underlying23 (by kernel_rfl) (by kernel_rfl) (hval 0 23 v0 rfl rfl) h0
  obtain ⟨a0x0, e0x0, rfl, w0x0⟩ := DataW.trod_int Try.underlying3 t0x0
  simp at e0x0
  subst e0x0
  obtain ⟨a0x1, e0x1, rfl, w0x1⟩ := DataW.trod_int Try.underlying3 t0x1
  simp at e0x1
  subst e0x1
  obtain ⟨A1, n1, c1, rfl⟩ := okWide_slice Try.underlying24 (hval 1 24 v1 rfl rfl)
  have k1 := h1
  obtain ⟨Z1, s1, z1⟩ := view_ints Try.underlying24 Try.underlying3 (by kernel_rfl) h1
  have r1 := reach_of (b := 8) hsz (j := 1) (t := 24) (e := 3) rfl rfl Try.underlying24 (by kernel_rfl) z1
  obtain ⟨A2, n2, c2, rfl⟩ := okWide_slice Try.underlying24 (hval 2 24 v2 rfl rfl)
  have k2 := h2
  obtain ⟨Z2, s2, z2⟩ := view_ints Try.underlying24 Try.underlying3 (by kernel_rfl) h2
  have r2 := reach_of (b := 8) hsz (j := 2) (t := 24) (e := 3) rfl rfl Try.underlying24 (by kernel_rfl) z2
  have k3 := h3
  obtain ⟨a3, rfl, rfl, rfl, w3⟩ := open_int Try.underlying5 (hval 3 5 v3 rfl rfl) h3
  have k4 := h4
  obtain ⟨a4, rfl, rfl, rfl, w4⟩ := open_int Try.underlying5 (hval 4 5 v4 rfl rfl) h4
  simp only [List.append_nil] at hW'
  have hlt : ∀ x ∈ p1 ++ p2, x.block < W.heap.size := fun x hx => by simpa using hW'.lt x (by simpa using hx)
  refine (walk W a0x0 a0x1 w0x0 w0x1 A1 n1 c1 Z1 s1 r1 A2 n2 c2 Z2 s2 r2 a3 w3 a4 w4).mono fun e W' ⟨he, hb⟩ => ?_
  subst he
  exact ⟨_, rfl, _, _, _, [], _, [], hW', (trodAll_cons_mk (shut_bool Try.underlying4 _) trodAll_mk0), (trodAll_cons_mk (Below.trod laidOut (by kernel_rfl) (of_decide_eq_true (by kernel_rfl)) k0 hb (fun x hx => (by simp at hx))) (trodAll_cons_mk (Below.trod laidOut (by kernel_rfl) (of_decide_eq_true (by kernel_rfl)) k1 hb (fun x hx => hlt x (by simp [hx]))) (trodAll_cons_mk (Below.trod laidOut (by kernel_rfl) (of_decide_eq_true (by kernel_rfl)) k2 hb (fun x hx => hlt x (by simp [hx]))) (trodAll_cons_mk (Below.trod laidOut (by kernel_rfl) (of_decide_eq_true (by kernel_rfl)) k3 hb (fun x hx => (by cases hx))) (trodAll_cons_mk (Below.trod laidOut (by kernel_rfl) (of_decide_eq_true (by kernel_rfl)) k4 hb (fun x hx => (by cases hx))) trodAll_mk0))))), rfl, hb.frame _, fun h => by cases h⟩

theorem over : Rows.chooserElderRow.holds Try.pinned (OpenSpec.ofChange Rows.chooserElderSpec) :=
  OpenClaim.holds_of_wide 7 Try.f7 rfl rfl rfl rfl rfl rfl rfl ⟨rfl, rfl, rfl, rfl, rfl⟩ rfl rfl rfl rfl rfl (by kernel_rfl) Try.func7 (by kernel_rfl)
    (of_decide_eq_true (by kernel_rfl)) (by unfold Func.isWrapper; first | (rw [if_pos (by decide +kernel)]; kernel_rfl) | (rw [if_neg (by decide +kernel)]; exact ⟨rfl, rfl⟩))
    (fun os started H enc _ => lifted os started H enc)

theorem proved : Rows.ChooserElderSaid := over
#print axioms proved
end Go.Proofs.Ytiolhdilfjomcaa.chooserElder
