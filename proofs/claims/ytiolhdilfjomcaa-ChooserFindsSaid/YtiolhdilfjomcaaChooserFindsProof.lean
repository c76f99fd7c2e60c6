/- A segment is found just as long as one has something dead and something live, and cleaning it makes something free, and not all. For every input, no condition. -/
import Derived.Test.YtiolhdilfjomcaaChBoth
import Derived.Lib.SmallJoins
namespace Go.Proofs.Ytiolhdilfjomcaa.chooserFinds
open Go.ChangeShapes Go.WideShapes Go.ChangeAt Go.RowKit

/-- Is one of the first i a candidate? -/
def anyC (p : Nat → Bool) : Nat → Bool
  | 0 => false
  | i + 1 => anyC p i || p i
theorem anyC_yes {p : Nat → Bool} {n i : Nat} (hi : i < n) (h : p i = true) : anyC p n = true := by
  induction n with
  | zero => omega
  | succ n ih =>
    rw [anyC]
    by_cases he : i = n
    · rw [← he, h]; simp
    · rw [ih (by omega)]; rfl
theorem anyC_no {p : Nat → Bool} {n : Nat} (h : ∀ i, i < n → ¬ p i = true) : anyC p n = false := by
  induction n with
  | zero => rfl
  | succ n ih => rw [anyC, ih fun i hi => h i (by omega), Bool.eq_false_iff.2 (h n (by omega))]; rfl

theorem text_arg {s b : Int} {A B D : Option Addr} {n m q : Nat} {v : Int} (c d f : Nat) (w : World)
    (h1 : ∀ W, Below w.heap.size w W → Calls Try.prog 8 #[.agg #[.int .i64 s, .int .i64 b], .slice A n c, .slice B m d, .slice D q f] W (Fresh (.tuple #[.int .i64 v, .int .i64 1]) W)) :
    Calls Try.prog 5 #[.agg #[.int .i64 s, .int .i64 b], .slice A n c, .slice B m d, .slice D q f] w (Fresh (.bool true) w) := by
  have H1 := Lib.hid h1
  clear h1
  go_enter Try.func5, Try.ntmps5
  go_wp2_with fail
  refine (H1.out _ (boxed _ _)).mono ?_
  rintro e w1 ⟨rfl, hb⟩
  have HB := Lib.hid (geo_below hb)
  clear hb
  go_wp2_with fail
  refine (awake_any _).mono ?_
  rintro e w2 ⟨rfl, hb⟩
  have B2 : Hid (Below w.heap.size w w2) := Lib.hid (HB.out.trans (hb.mono HB.out.size))
  clear hb
  go_wp2_with fail
  refine (awake_any _).mono ?_
  rintro e w3 ⟨rfl, hb⟩
  have B3 : Hid (Below w.heap.size w w3) := Lib.hid (B2.out.trans (hb.mono B2.out.size))
  clear hb
  go_wp2
  go_ret
  exact ⟨rfl, B3.out⟩

set_option maxRecDepth 20000 in
theorem text_found {b : Int} {A B D : Option Addr} {n m q : Nat} {L K : Nat → Int} {v x : Int} (c d f : Nat) (w : World) (H : IntsAt w A n L) (M : IntsAt w D q K) (hq : q ≤ 9223372036854775807)
    (h : Live (n : Int) b n L)
    (h1 : ∀ W, Below w.heap.size w W → Calls Try.prog 8 #[.agg #[.int .i64 (n : Int), .int .i64 b], .slice A n c, .slice B m d, .slice D q f] W (Fresh (.tuple #[.int .i64 v, .int .i64 x]) W))
    (hm : (x = 4 ∧ ∀ i, i < n → ¬ cand L K b q i = true) ∨ (x = 0 ∧ ∃ r : Nat, v = (r : Int) ∧ r < n ∧ cand L K b q r = true)) :
    Calls Try.prog 5 #[.agg #[.int .i64 (n : Int), .int .i64 b], .slice A n c, .slice B m d, .slice D q f] w (Fresh (.bool true) w) := by
  have hn : n ≤ 24 := by have := h.geo.1.2; omega
  have x1 : (x == 1) = false := by rcases hm with ⟨rfl, _⟩ | ⟨rfl, _⟩ <;> rfl
  have H1 := Lib.hid h1
  have HM := Lib.hid hm
  have HH := Lib.hid h
  have H0 := Lib.hid H
  have M0 := Lib.hid M
  clear h1 hm h H M
  go_enter Try.func5, Try.ntmps5
  go_wp2_with fail
  refine (H1.out _ (boxed _ _)).mono ?_
  rintro e w1 ⟨rfl, hb⟩
  have c0 := geo_s hb
  have c1 := geo_b hb
  have HB := Lib.hid (geo_below hb)
  clear hb H1
  go_wp2_with fail
  refine (awake_any _).mono ?_
  rintro e w2 ⟨rfl, hb⟩
  have B2 : Hid (Below w.heap.size w w2) := Lib.hid (HB.out.trans (hb.mono HB.out.size))
  have C0 := Lib.hid (cell_later hb c0)
  have C1 := Lib.hid (cell_later hb c1)
  have H2 : Hid (IntsAt w2 A n L) := Lib.hid (H0.out.below B2.out)
  have M2 : Hid (IntsAt w2 D q K) := Lib.hid (M0.out.below B2.out)
  clear hb c0 c1 H0 M0 HB
  go_wp2
  clear x1
  go_loopw [11, 12] (fun u x wr => ∃ i k : Nat, i ≤ n ∧ x = .int .i64 (i : Int) ∧ u = .bool (anyC (cand L K b q) i) ∧ w2.drewN k = wr) (fun _ x _ => n - (intOf x).toNat)
  case atStart => exact ⟨0, 0, by omega, rfl, rfl, rfl⟩
  case round =>
    obtain ⟨i, k, hi, rfl, rfl, hw⟩ := hrel
    have HW := Lib.hid hw
    clear hw
    by_cases hin : i < n
    · go_wp2
      go_loop [13, 14] (fun u x => ∃ k : Nat, k ≤ q ∧ x = .int .i64 (k : Int) ∧ u = .bool (isIn K i k)) (fun _ x => q - (intOf x).toNat)
      case atStart => exact ⟨0, by omega, rfl, rfl⟩
      case round =>
        obtain ⟨k2, hk, rfl, rfl⟩ := hrel
        obtain ⟨t, et⟩ : ∃ t, t = isIn K i k2 := ⟨_, rfl⟩
        rw [← et]
        have ET := Lib.hid et
        clear et
        by_cases hkq : k2 < q
        · obtain ⟨bd, rfl⟩ := M2.out.addr (by omega)
          have hd : wr.cell? (bd.add k2) = some (.int .i64 (K k2)) := by rw [← HW.out]; exact M2.out.at_ hkq
          obtain ⟨y, ey⟩ : ∃ y, y = K k2 := ⟨_, rfl⟩
          rw [← ey] at hd
          have hnext : Hid (isIn K i (k2 + 1) = (t || (y == (i : Int)))) := Lib.hid (by rw [isIn, ← ET.out, ey]; rfl)
          clear ey
          cases t with
          | true =>
            go_wp2
            clear hd
            go_round
            case rel => exact ⟨k2 + 1, by omega, by go_num, by rw [hnext.out]; rfl⟩
            case measure => simp [intOf]; omega
          | false =>
            go_wp2
            clear hd
            go_round
            case rel => exact ⟨k2 + 1, by omega, by go_num, by rw [hnext.out]; rfl⟩
            case measure => simp [intOf]; omega
        · obtain rfl : k2 = q := by omega
          obtain ⟨F, eF⟩ : ∃ F, F = anyC (cand L K b k2) i := ⟨_, rfl⟩
          rw [← eF]
          have EF := Lib.hid eF
          clear eF
          obtain ⟨ad, rfl⟩ := H2.out.addr (by omega)
          have hc : wr.cell? (ad.add i) = some (.int .i64 (L i)) := by rw [← HW.out]; exact H2.out.at_ hin
          have c1 : wr.cell? ⟨w.heap.size, 1, none⟩ = some (.int .i64 b) := by rw [← HW.out]; exact C1.out
          obtain ⟨z, ez⟩ : ∃ z, z = L i := ⟨_, rfl⟩
          rw [← ez] at hc
          have hF : anyC (cand L K b k2) (i + 1) = (F || (!t && (decide (0 < z) && decide (z < b)))) := by rw [anyC, ← EF.out, cand, ← ET.out, ez]
          have HF := Lib.hid hF
          clear hF ez
          have hcase : F = true ∨ (F = false ∧ t = true) ∨ (F = false ∧ t = false ∧ decide (0 < z) = false) ∨ (F = false ∧ t = false ∧ decide (0 < z) = true ∧ decide (z < b) = false) ∨ (F = false ∧ t = false ∧ decide (0 < z) = true ∧ decide (z < b) = true) := by
            cases F <;> cases t <;> cases decide (0 < z) <;> cases decide (z < b) <;> simp
          rcases hcase with rfl | ⟨rfl, rfl⟩ | ⟨rfl, rfl, d0⟩ | ⟨rfl, rfl, d0, d1⟩ | ⟨rfl, rfl, d0, d1⟩
          · cases t with
            | true =>
              go_wp2
              go_quiet (fail)
              go_wp2
              clear hc c1
              go_roundw
              case rel => exact ⟨i + 1, k + _, by omega, by go_num, by rw [HF.out]; rfl, by rw [← HW.out, World.drewN_drewN]⟩
              case measure => simp [intOf]; omega
            | false =>
              go_wp2
              go_quiet (fail)
              go_wp2
              clear hc c1
              go_roundw
              case rel => exact ⟨i + 1, k + _, by omega, by go_num, by rw [HF.out]; rfl, by rw [← HW.out, World.drewN_drewN]⟩
              case measure => simp [intOf]; omega
          · go_wp2
            go_quiet (fail)
            go_wp2
            clear hc c1
            go_roundw
            case rel => exact ⟨i + 1, k + _, by omega, by go_num, by rw [HF.out]; rfl, by rw [← HW.out, World.drewN_drewN]⟩
            case measure => simp [intOf]; omega
          · rw [d0] at HF
            go_wp2
            go_quiet (fail)
            go_wp2
            clear hc c1 d0
            go_roundw
            case rel => exact ⟨i + 1, k + _, by omega, by go_num, by rw [HF.out]; rfl, by rw [← HW.out, World.drewN_drewN]⟩
            case measure => simp [intOf]; omega
          · rw [d0, d1] at HF
            go_wp2
            go_quiet (fail)
            go_wp2
            clear hc c1 d0 d1
            go_roundw
            case rel => exact ⟨i + 1, k + _, by omega, by go_num, by rw [HF.out]; rfl, by rw [← HW.out, World.drewN_drewN]⟩
            case measure => simp [intOf]; omega
          · rw [d0, d1] at HF
            go_wp2
            go_quiet (fail)
            go_wp2
            clear hc c1 d0 d1
            go_roundw
            case rel => exact ⟨i + 1, k + _, by omega, by go_num, by rw [HF.out]; rfl, by rw [← HW.out, World.drewN_drewN]⟩
            case measure => simp [intOf]; omega
    · obtain rfl : i = n := by omega
      have BW : Hid (Below w.heap.size w wr) := Lib.hid (by rw [← HW.out]; exact below_drewN B2.out _)
      rcases HM.out with ⟨rfl, hno⟩ | ⟨rfl, r, rfl, hr, hp⟩
      · rw [anyC_no hno]
        clear hno
        go_wp2
        go_ret
        exact ⟨rfl, BW.out⟩
      · rw [anyC_yes hr hp]
        have c0 : wr.cell? ⟨w.heap.size, 0, none⟩ = some (.int .i64 (i : Int)) := by rw [← HW.out]; exact C0.out
        have c1 : wr.cell? ⟨w.heap.size, 1, none⟩ = some (.int .i64 b) := by rw [← HW.out]; exact C1.out
        have HI : Hid (IntsAt wr A i L) := Lib.hid (H2.out.below (by rw [← HW.out]; exact below_drewN (Below.refl _ _) _))
        obtain ⟨_, p1, p2⟩ := cand_out hp
        obtain ⟨g, eg⟩ : ∃ g, g = b - L r := ⟨_, rfl⟩
        have g0 : 0 < g := by omega
        have g1 : g < b := by omega
        have EG := Lib.hid eg
        have HR := Lib.hid hr
        clear hp hr p1 p2 eg
        go_wp2_with fail
        refine (gain_ok c r _ HH.out HI.out HR.out).mono ?_
        rw [← EG.out]
        rintro e w3 ⟨rfl, hb⟩
        replace c1 := cell_later hb c1
        have B3 : Hid (Below w.heap.size w w3) := Lib.hid (BW.out.trans (hb.mono BW.out.size))
        clear hb c0
        go_wp2
        go_ret
        exact ⟨rfl, B3.out⟩

set_option linter.unusedVariables false in
theorem walk (w : World) (a0x0 a0x1 : Int) (w0x0 : (Lit.int .i64 a0x0).wf = true) (w0x1 : (Lit.int .i64 a0x1).wf = true) (A1 : Option Addr) (n1 c1 : Nat) (Z1 : List Int) (s1 : IntsIn w .i64 A1 n1 c1 Z1) (r1 : n1 * 8 ≤ 140737488351232) (A2 : Option Addr) (n2 c2 : Nat) (Z2 : List Int) (s2 : IntsIn w .i64 A2 n2 c2 Z2) (r2 : n2 * 8 ≤ 140737488351232) (A3 : Option Addr) (n3 c3 : Nat) (Z3 : List Int) (s3 : IntsIn w .i64 A3 n3 c3 Z3) (r3 : n3 * 8 ≤ 140737488351232) :
    Calls Try.prog 5 #[.agg #[.int .i64 a0x0, .int .i64 a0x1], .slice A1 n1 c1, .slice A2 n2 c2, .slice A3 n3 c3] w (Fresh (.bool true) w) := by
  obtain ⟨v, x, h1, _, hm⟩ := picks (s := a0x0) (b := a0x1) c1 c2 c3 (ints_in s1) (ints_in s2) (ints_in s3) (by have := s3.cap; have := s3.most; omega)
  rcases hm with ⟨rfl, _⟩ | ⟨hx, _, hl, _, hno⟩ | ⟨hx, hl, _, r, hv, hr⟩
  · exact text_arg c1 c2 c3 w h1
  · obtain rfl := hl.len
    exact text_found c1 c2 c3 w (ints_in s1) (ints_in s3) (by have := s3.cap; have := s3.most; omega) hl h1 (.inl ⟨hx, hno⟩)
  · obtain rfl := hl.len
    exact text_found c1 c2 c3 w (ints_in s1) (ints_in s3) (by have := s3.cap; have := s3.most; omega) hl h1 (.inr ⟨hx, r, hv, hr.lt, hr.can⟩)

/-! ### the law's end -/
set_option linter.unusedVariables false
theorem own : ownKnob Try.prog.godebug = none := by kernel_rfl
theorem laidOut : laidOutB Try.prog = true := by kernel_rfl
set_option maxRecDepth 100000 in

theorem lifted (os : Os) (started : os.Started) (H : Type) (enc : TypeId × Value → H) :
    ReturnsInHanded {} Try.checked os 5 .any (Rows.chooserFindsSpec.pre6 enc Try.prog Try.f5 Rows.chooserFindsRow.domain false) (Rows.chooserFindsSpec.post enc Try.prog Try.f5 false true false false) := by
  refine returnsInHanded_of_change_sized (C := Try.checked) own started (by kernel_rfl) Try.func5
    (ChangeSpec.witness6 (enc := enc) (C := Try.checked) false ⟨#[], #[.agg #[.int .i64 0, .int .i64 0], .slice none 0 0, .slice none 0 0, .slice none 0 0], []⟩ 8 (by kernel_rfl) (by kernel_rfl) (by kernel_rfl) (by kernel_rfl)) ?_
  intro W base args ds gs before hval0 hW _ hsz0 _
  have hsz : (DataW.weightsEach Try.prog (Try.f5.params.toList ++ Rows.chooserFindsSpec.plain.varTypes Try.prog) (ds ++ gs)).all (· ≤ reachBytes) = true := hsz0
  clear hsz0
  have hval : ∀ (j : Nat) t v, Try.f5.params[j]? = some t → args[j]? = some v → Value.okWide Try.prog W .any base t v := hval0
  have hW' := hW
  obtain ⟨p, q, hA0, hV, rfl, _, _⟩ := hW
  have hA : DataW.TrodAll enc Try.prog W 0 (fun _ => true) true Try.f5.params.toList args.toList ds p := hA0
  rw [Try.params5] at hA hval hsz
  obtain ⟨v0, vs0, d0, ds0, p0, q0, hargs, rfl, rfl, h0, u0⟩ := trodAll_cons hA
  obtain ⟨v1, vs1, d1, ds1, p1, q1, rfl, rfl, rfl, h1, u1⟩ := trodAll_cons u0
  obtain ⟨v2, vs2, d2, ds2, p2, q2, rfl, rfl, rfl, h2, u2⟩ := trodAll_cons u1
  obtain ⟨v3, vs3, d3, ds3, p3, q3, rfl, rfl, rfl, h3, u3⟩ := trodAll_cons u2
  obtain ⟨rfl, rfl, rfl⟩ := trodAll_nil u3
  obtain rfl : args = #[v0, v1, v2, v3] := by cases args; simp_all
  obtain ⟨rfl, rfl⟩ := trodVars_none hV
  clear hA0 hval0
  have k0 := h0
  obtain ⟨c0x0, c0x1, y0x0, y0x1, m0, rfl, rfl, rfl, t0x0, t0x1⟩ := Go.Joins.open_agg2 Try.underlying23 (by kernel_rfl) (by kernel_rfl) (hval 0 23 v0 rfl rfl) h0
  obtain ⟨a0x0, e0x0, rfl, w0x0⟩ := DataW.trod_int Try.underlying3 t0x0
  simp at e0x0
  subst e0x0
  obtain ⟨a0x1, e0x1, rfl, w0x1⟩ := DataW.trod_int Try.underlying3 t0x1
  simp at e0x1
  subst e0x1
  obtain ⟨A1, n1, c1, rfl⟩ := okWide_slice Try.underlying24 (hval 1 24 v1 rfl rfl)
  have k1 := h1
  obtain ⟨Z1, s1, z1⟩ := view_ints Try.underlying24 Try.underlying3 (by kernel_rfl) h1
  have r1 := reach_of (b := 8) hsz (j := 1) (t := 24) (e := 3) rfl rfl Try.underlying24 (by kernel_rfl) z1
  obtain ⟨A2, n2, c2, rfl⟩ := okWide_slice Try.underlying24 (hval 2 24 v2 rfl rfl)
  have k2 := h2
  obtain ⟨Z2, s2, z2⟩ := view_ints Try.underlying24 Try.underlying3 (by kernel_rfl) h2
  have r2 := reach_of (b := 8) hsz (j := 2) (t := 24) (e := 3) rfl rfl Try.underlying24 (by kernel_rfl) z2
  obtain ⟨A3, n3, c3, rfl⟩ := okWide_slice Try.underlying24 (hval 3 24 v3 rfl rfl)
  have k3 := h3
  obtain ⟨Z3, s3, z3⟩ := view_ints Try.underlying24 Try.underlying3 (by kernel_rfl) h3
  have r3 := reach_of (b := 8) hsz (j := 3) (t := 24) (e := 3) rfl rfl Try.underlying24 (by kernel_rfl) z3
  simp only [List.append_nil] at hW'
  have hlt : ∀ x ∈ p1 ++ p2 ++ p3, x.block < W.heap.size := fun x hx => by simpa using hW'.lt x (by simpa using hx)
  refine (walk W a0x0 a0x1 w0x0 w0x1 A1 n1 c1 Z1 s1 r1 A2 n2 c2 Z2 s2 r2 A3 n3 c3 Z3 s3 r3).mono fun e W' ⟨he, hb⟩ => ?_
  subst he
  exact ⟨_, rfl, _, _, _, [], _, [], hW', (trodAll_cons_mk (shut_bool Try.underlying4 _) trodAll_mk0), (trodAll_cons_mk (Below.trod laidOut (by kernel_rfl) (of_decide_eq_true (by kernel_rfl)) k0 hb (fun x hx => (by simp at hx))) (trodAll_cons_mk (Below.trod laidOut (by kernel_rfl) (of_decide_eq_true (by kernel_rfl)) k1 hb (fun x hx => hlt x (by simp [hx]))) (trodAll_cons_mk (Below.trod laidOut (by kernel_rfl) (of_decide_eq_true (by kernel_rfl)) k2 hb (fun x hx => hlt x (by simp [hx]))) (trodAll_cons_mk (Below.trod laidOut (by kernel_rfl) (of_decide_eq_true (by kernel_rfl)) k3 hb (fun x hx => hlt x (by simp [hx]))) trodAll_mk0)))), rfl, hb.frame _, fun h => by cases h⟩

theorem over : Rows.chooserFindsRow.holds Try.pinned (OpenSpec.ofChange Rows.chooserFindsSpec) :=
  OpenClaim.holds_of_wide 5 Try.f5 rfl rfl rfl rfl rfl rfl rfl ⟨rfl, rfl, rfl, rfl, rfl⟩ rfl rfl rfl rfl rfl (by kernel_rfl) Try.func5 (by kernel_rfl)
    (of_decide_eq_true (by kernel_rfl)) (by unfold Func.isWrapper; first | (rw [if_pos (by decide +kernel)]; kernel_rfl) | (rw [if_neg (by decide +kernel)]; exact ⟨rfl, rfl⟩))
    (fun os started H enc _ => lifted os started H enc)

theorem proved : Rows.ChooserFindsSaid := over
#print axioms proved
end Go.Proofs.Ytiolhdilfjomcaa.chooserFinds
