/- How much becomes free of any segment, of any counts, is as the document says it. For every input, no condition. -/
import Derived.Test.YtiolhdilfjomcaaChAwake
import Derived.Test.YtiolhdilfjomcaaCalm
import Derived.Lib.SmallJoins
namespace Go.Proofs.Ytiolhdilfjomcaa.chooserGains
open Go.ChangeShapes Go.WideShapes Go.ChangeAt Go.RowKit

theorem text_ok {s b : Int} {A : Option Addr} {n : Nat} {L : Nat → Int} (c k : Nat) (w : World) (h : Live s b n L) (H : IntsAt w A n L) (hk : k < n) :
    Calls Try.prog 4 #[.agg #[.int .i64 s, .int .i64 b], .slice A n c, .int .i64 (k : Int)] w (Fresh (.bool true) w) := by
  obtain rfl := h.len
  have hn : n ≤ 24 := by have := h.geo.1.2; omega
  have HH := Lib.hid h
  have H0 := Lib.hid H
  obtain ⟨z, ez⟩ : ∃ z, z = L k := ⟨_, rfl⟩
  obtain ⟨z0, z1⟩ := h.num k hk
  obtain ⟨g1, g2⟩ := h.geo.2
  rw [← ez] at z0 z1
  have EZ := Lib.hid ez
  clear h H ez
  go_enter Try.func4, Try.ntmps4
  go_wp2_with fail
  refine (gain_ok c k _ HH.out (H0.out.below (boxed _ _)) hk).mono ?_
  rintro e w1 ⟨rfl, hb⟩
  rw [← EZ.out]
  have c0 := geo_s hb
  have c1 := geo_b hb
  have HB := Lib.hid (geo_below hb)
  have H1 := Lib.hid (H0.out.below HB.out)
  clear hb
  go_wp2_with fail
  refine (refCounts_ok c _ HH.out H1.out).mono ?_
  rintro e w2 ⟨rfl, hb⟩
  obtain ⟨ad, rfl⟩ := H1.out.addr (by omega)
  have hc : ∀ z9 : Later w2, z9.val.cell? (ad.add k) = some (.int .i64 z) := fun z9 => by
    rw [EZ.out]
    exact cell_later z9.ext (cell_later hb (H1.out.at_ hk))
  have hd : ∀ z9 : Later w2, z9.val.cell? ⟨w.heap.size, 1, none⟩ = some (.int .i64 b) := fun z9 => cell_later z9.ext (cell_later hb c1)
  have B2 : Hid (Below w.heap.size w w2) := Lib.hid (HB.out.trans (hb.mono HB.out.size))
  clear hb c0 c1
  go_wp2
  refine region_later (by kernel_rfl) (by kernel_rfl) ?_
  repeat (go_big_quiet_step (first
    | (go_at_call 10; exact later_fresh (fun W => awake_any W))))
  refine wpQuiet_nil ?_
  rintro w9 ⟨⟨w5, hb5⟩, hw9⟩
  obtain rfl : w9 = w5 := hw9
  have B5 : Hid (Below w.heap.size w w9) := Lib.hid (B2.out.trans (hb5.mono B2.out.size))
  clear hb5 hc hd
  go_wp2
  go_ret
  exact ⟨rfl, B5.out⟩

theorem text_bad {s b : Int} {A : Option Addr} {n : Nat} {L : Nat → Int} (c : Nat) (k : Int) (w : World) (h : ¬ Live s b n L) (H : IntsAt w A n L) :
    Calls Try.prog 4 #[.agg #[.int .i64 s, .int .i64 b], .slice A n c, .int .i64 k] w (Fresh (.bool true) w) := by
  have HH := Lib.hid h
  have H0 := Lib.hid H
  clear h H
  go_enter Try.func4, Try.ntmps4
  go_wp2_with fail
  refine (gain_bad c _ _ HH.out (H0.out.below (boxed _ _))).mono ?_
  rintro e w1 ⟨rfl, hb⟩
  have c0 := geo_s hb
  have c1 := geo_b hb
  have HB := Lib.hid (geo_below hb)
  clear hb
  go_wp2_with fail
  refine (refCounts_bad c _ HH.out (H0.out.below HB.out)).mono ?_
  rintro e w2 ⟨rfl, hb⟩
  have B2 : Hid (Below w.heap.size w w2) := Lib.hid (HB.out.trans (hb.mono HB.out.size))
  clear hb c0 c1
  go_wp2_with fail
  refine (awake_any _).mono ?_
  rintro e w3 ⟨rfl, hb⟩
  have B3 : Hid (Below w.heap.size w w3) := Lib.hid (B2.out.trans (hb.mono B2.out.size))
  clear hb
  go_wp2
  go_ret
  exact ⟨rfl, B3.out⟩

theorem text_out {s b : Int} {A : Option Addr} {n : Nat} {L : Nat → Int} (c : Nat) (k : Int) (w : World) (h : Live s b n L) (H : IntsAt w A n L) (hk : k < 0 ∨ ((n : Int) ≤ k ∧ ¬ k < 0)) :
    Calls Try.prog 4 #[.agg #[.int .i64 s, .int .i64 b], .slice A n c, .int .i64 k] w (Fresh (.bool true) w) := by
  have HK : Hid (k < 0 ∨ (n : Int) ≤ k) := Lib.hid (by omega)
  have HH := Lib.hid h
  have H0 := Lib.hid H
  clear h H
  rcases hk with h1 | ⟨h1, h2⟩
  all_goals
    go_enter Try.func4, Try.ntmps4
    go_wp2_with fail
    refine (gain_out c k _ HH.out (H0.out.below (boxed _ _)) HK.out).mono ?_
    rintro e w1 ⟨rfl, hb⟩
    have c0 := geo_s hb
    have c1 := geo_b hb
    have HB := Lib.hid (geo_below hb)
    clear hb
    go_wp2_with fail
    refine (refCounts_ok c _ HH.out (H0.out.below HB.out)).mono ?_
    rintro e w2 ⟨rfl, hb⟩
    have B2 : Hid (Below w.heap.size w w2) := Lib.hid (HB.out.trans (hb.mono HB.out.size))
    clear hb c0 c1
    go_wp2_with fail
    refine (awake_any _).mono ?_
    rintro e w3 ⟨rfl, hb⟩
    have B3 : Hid (Below w.heap.size w w3) := Lib.hid (B2.out.trans (hb.mono B2.out.size))
    clear hb
    go_wp2
    go_ret
    exact ⟨rfl, B3.out⟩

set_option linter.unusedVariables false in
theorem walk (w : World) (a0x0 a0x1 : Int) (w0x0 : (Lit.int .i64 a0x0).wf = true) (w0x1 : (Lit.int .i64 a0x1).wf = true) (A1 : Option Addr) (n1 c1 : Nat) (Z1 : List Int) (s1 : IntsIn w .i64 A1 n1 c1 Z1) (r1 : n1 * 8 ≤ 140737488351232) (a2 : Int) (w2 : (Lit.int .i64 a2).wf = true) :
    Calls Try.prog 4 #[.agg #[.int .i64 a0x0, .int .i64 a0x1], .slice A1 n1 c1, .int .i64 a2] w (Fresh (.bool true) w) := by
  have hi := ints_in s1
  by_cases h : Live a0x0 a0x1 n1 (fun i => Z1.getD i 0)
  · by_cases hk : 0 ≤ a2 ∧ a2 < (n1 : Int)
    · obtain ⟨k, rfl⟩ := Int.eq_ofNat_of_zero_le hk.1
      exact text_ok c1 k w h hi (by omega)
    · exact text_out c1 a2 w h hi (by omega)
  · exact text_bad c1 a2 w h hi

/-! ### the law's end -/
set_option linter.unusedVariables false
theorem own : ownKnob Try.prog.godebug = none := by kernel_rfl
theorem laidOut : laidOutB Try.prog = true := by kernel_rfl
set_option maxRecDepth 100000 in

theorem lifted (os : Os) (started : os.Started) (H : Type) (enc : TypeId × Value → H) :
    ReturnsInHanded {} Try.checked os 4 .any (Rows.chooserGainsSpec.pre6 enc Try.prog Try.f4 Rows.chooserGainsRow.domain false) (Rows.chooserGainsSpec.post enc Try.prog Try.f4 false true false false) := by
  refine returnsInHanded_of_change_sized (C := Try.checked) own started (by kernel_rfl) Try.func4
    (ChangeSpec.witness6 (enc := enc) (C := Try.checked) false ⟨#[], #[.agg #[.int .i64 0, .int .i64 0], .slice none 0 0, .int .i64 0], []⟩ 8 (by kernel_rfl) (by kernel_rfl) (by kernel_rfl) (by kernel_rfl)) ?_
  intro W base args ds gs before hval0 hW _ hsz0 _
  have hsz : (DataW.weightsEach Try.prog (Try.f4.params.toList ++ Rows.chooserGainsSpec.plain.varTypes Try.prog) (ds ++ gs)).all (· ≤ reachBytes) = true := hsz0
  clear hsz0
  have hval : ∀ (j : Nat) t v, Try.f4.params[j]? = some t → args[j]? = some v → Value.okWide Try.prog W .any base t v := hval0
  have hW' := hW
  obtain ⟨p, q, hA0, hV, rfl, _, _⟩ := hW
  have hA : DataW.TrodAll enc Try.prog W 0 (fun _ => true) true Try.f4.params.toList args.toList ds p := hA0
  rw [Try.params4] at hA hval hsz
  obtain ⟨v0, vs0, d0, ds0, p0, q0, hargs, rfl, rfl, h0, u0⟩ := trodAll_cons hA
  obtain ⟨v1, vs1, d1, ds1, p1, q1, rfl, rfl, rfl, h1, u1⟩ := trodAll_cons u0
  obtain ⟨v2, vs2, d2, ds2, p2, q2, rfl, rfl, rfl, h2, u2⟩ := trodAll_cons u1
  obtain ⟨rfl, rfl, rfl⟩ := trodAll_nil u2
  obtain rfl : args = #[v0, v1, v2] := by cases args; simp_all
  obtain ⟨rfl, rfl⟩ := trodVars_none hV
  clear hA0 hval0
  have k0 := h0
  obtain ⟨c0x0, c0x1, y0x0, y0x1, m0, rfl, rfl, rfl, t0x0, t0x1⟩ := Go.Joins.open_agg2 Try.underlying23 (by kernel_rfl) (by kernel_rfl) (hval 0 23 v0 rfl rfl) h0
  obtain ⟨a0x0, e0x0, rfl, w0x0⟩ := DataW.trod_int Try.underlying3 t0x0
  simp at e0x0
  subst e0x0
  obtain ⟨a0x1, e0x1, rfl, w0x1⟩ := DataW.trod_int Try.underlying3 t0x1
  simp at e0x1
  subst e0x1
  obtain ⟨A1, n1, c1, rfl⟩ := okWide_slice Try.underlying24 (hval 1 24 v1 rfl rfl)
  have k1 := h1
  obtain ⟨Z1, s1, z1⟩ := view_ints Try.underlying24 Try.underlying3 (by kernel_rfl) h1
  have r1 := reach_of (b := 8) hsz (j := 1) (t := 24) (e := 3) rfl rfl Try.underlying24 (by kernel_rfl) z1
  have k2 := h2
  obtain ⟨a2, rfl, rfl, rfl, w2⟩ := open_int Try.underlying3 (hval 2 3 v2 rfl rfl) h2
  simp only [List.append_nil] at hW'
  have hlt : ∀ x ∈ p1, x.block < W.heap.size := fun x hx => by simpa using hW'.lt x (by simpa using hx)
  refine (walk W a0x0 a0x1 w0x0 w0x1 A1 n1 c1 Z1 s1 r1 a2 w2).mono fun e W' ⟨he, hb⟩ => ?_
  subst he
  exact ⟨_, rfl, _, _, _, [], _, [], hW', (trodAll_cons_mk (shut_bool Try.underlying4 _) trodAll_mk0), (trodAll_cons_mk (Below.trod laidOut (by kernel_rfl) (of_decide_eq_true (by kernel_rfl)) k0 hb (fun x hx => (by simp at hx))) (trodAll_cons_mk (Below.trod laidOut (by kernel_rfl) (of_decide_eq_true (by kernel_rfl)) k1 hb (fun x hx => hlt x (by simp [hx]))) (trodAll_cons_mk (Below.trod laidOut (by kernel_rfl) (of_decide_eq_true (by kernel_rfl)) k2 hb (fun x hx => (by cases hx))) trodAll_mk0))), rfl, hb.frame _, fun h => by cases h⟩

theorem over : Rows.chooserGainsRow.holds Try.pinned (OpenSpec.ofChange Rows.chooserGainsSpec) :=
  OpenClaim.holds_of_wide 4 Try.f4 rfl rfl rfl rfl rfl rfl rfl ⟨rfl, rfl, rfl, rfl, rfl⟩ rfl rfl rfl rfl rfl (by kernel_rfl) Try.func4 (by kernel_rfl)
    (of_decide_eq_true (by kernel_rfl)) (by unfold Func.isWrapper; first | (rw [if_pos (by decide +kernel)]; kernel_rfl) | (rw [if_neg (by decide +kernel)]; exact ⟨rfl, rfl⟩))
    (fun os started H enc _ => lifted os started H enc)

theorem proved : Rows.ChooserGainsSaid := over
#print axioms proved
end Go.Proofs.Ytiolhdilfjomcaa.chooserGains
