/- Which segment is cleaned, of any counts and ages, is as the document says it. For every input, no condition. -/
import Derived.Test.YtiolhdilfjomcaaChBoth
import Derived.Lib.SmallJoins
namespace Go.Proofs.Ytiolhdilfjomcaa.chooserPicks
open Go.ChangeShapes Go.WideShapes Go.ChangeAt Go.RowKit

theorem text {s b : Int} {A B D : Option Addr} {n m q : Nat} {L G K : Nat → Int} (c d f : Nat) (w : World) (H : IntsAt w A n L) (J : IntsAt w B m G) (M : IntsAt w D q K) (hq : q ≤ 9223372036854775807) :
    Calls Try.prog 3 #[.agg #[.int .i64 s, .int .i64 b], .slice A n c, .slice B m d, .slice D q f] w (Fresh (.bool true) w) := by
  obtain ⟨v, x, h1, h2, _⟩ := picks (s := s) (b := b) c d f H J M hq
  have H1 := Lib.hid h1
  have H2 := Lib.hid h2
  clear H J M h1 h2
  go_enter Try.func3, Try.ntmps3
  go_wp2_with fail
  refine (H1.out _ (boxed _ _)).mono ?_
  rintro e w1 ⟨rfl, hb⟩
  have c0 := geo_s hb
  have c1 := geo_b hb
  have HB := Lib.hid (geo_below hb)
  clear hb
  go_wp2_with fail
  refine (H2.out _ HB.out).mono ?_
  rintro e w2 ⟨rfl, hb⟩
  have B2 : Hid (Below w.heap.size w w2) := Lib.hid (HB.out.trans (hb.mono HB.out.size))
  clear hb c0 c1
  go_wp2_with fail
  refine (awake_any _).mono ?_
  rintro e w3 ⟨rfl, hb⟩
  have B3 : Hid (Below w.heap.size w w3) := Lib.hid (B2.out.trans (hb.mono B2.out.size))
  clear hb
  go_wp2
  go_ret
  exact ⟨rfl, B3.out⟩

set_option linter.unusedVariables false in
theorem walk (w : World) (a0x0 a0x1 : Int) (w0x0 : (Lit.int .i64 a0x0).wf = true) (w0x1 : (Lit.int .i64 a0x1).wf = true) (A1 : Option Addr) (n1 c1 : Nat) (Z1 : List Int) (s1 : IntsIn w .i64 A1 n1 c1 Z1) (r1 : n1 * 8 ≤ 140737488351232) (A2 : Option Addr) (n2 c2 : Nat) (Z2 : List Int) (s2 : IntsIn w .i64 A2 n2 c2 Z2) (r2 : n2 * 8 ≤ 140737488351232) (A3 : Option Addr) (n3 c3 : Nat) (Z3 : List Int) (s3 : IntsIn w .i64 A3 n3 c3 Z3) (r3 : n3 * 8 ≤ 140737488351232) :
    Calls Try.prog 3 #[.agg #[.int .i64 a0x0, .int .i64 a0x1], .slice A1 n1 c1, .slice A2 n2 c2, .slice A3 n3 c3] w (Fresh (.bool true) w) := by
  exact text c1 c2 c3 w (ints_in s1) (ints_in s2) (ints_in s3) (by have := s3.cap; have := s3.most; omega)

/-! ### the law's end -/
set_option linter.unusedVariables false
theorem own : ownKnob Try.prog.godebug = none := by kernel_rfl
theorem laidOut : laidOutB Try.prog = true := by kernel_rfl
set_option maxRecDepth 100000 in

theorem lifted (os : Os) (started : os.Started) (H : Type) (enc : TypeId × Value → H) :
    ReturnsInHanded {} Try.checked os 3 .any (Rows.chooserPicksSpec.pre6 enc Try.prog Try.f3 Rows.chooserPicksRow.domain false) (Rows.chooserPicksSpec.post enc Try.prog Try.f3 false true false false) := by
  refine returnsInHanded_of_change_sized (C := Try.checked) own started (by kernel_rfl) Try.func3
    (ChangeSpec.witness6 (enc := enc) (C := Try.checked) false ⟨#[], #[.agg #[.int .i64 0, .int .i64 0], .slice none 0 0, .slice none 0 0, .slice none 0 0], []⟩ 8 (by kernel_rfl) (by kernel_rfl) (by kernel_rfl) (by kernel_rfl)) ?_
  intro W base args ds gs before hval0 hW _ hsz0 _
  have hsz : (DataW.weightsEach Try.prog (Try.f3.params.toList ++ Rows.chooserPicksSpec.plain.varTypes Try.prog) (ds ++ gs)).all (· ≤ reachBytes) = true := hsz0
  clear hsz0
  have hval : ∀ (j : Nat) t v, Try.f3.params[j]? = some t → args[j]? = some v → Value.okWide Try.prog W .any base t v := hval0
  have hW' := hW
  obtain ⟨p, q, hA0, hV, rfl, _, _⟩ := hW
  have hA : DataW.TrodAll enc Try.prog W 0 (fun _ => true) true Try.f3.params.toList args.toList ds p := hA0
  rw [Try.params3] at hA hval hsz
  obtain ⟨v0, vs0, d0, ds0, p0, q0, hargs, rfl, rfl, h0, u0⟩ := trodAll_cons hA
  obtain ⟨v1, vs1, d1, ds1, p1, q1, rfl, rfl, rfl, h1, u1⟩ := trodAll_cons u0
  obtain ⟨v2, vs2, d2, ds2, p2, q2, rfl, rfl, rfl, h2, u2⟩ := trodAll_cons u1
  obtain ⟨v3, vs3, d3, ds3, p3, q3, rfl, rfl, rfl, h3, u3⟩ := trodAll_cons u2
  obtain ⟨rfl, rfl, rfl⟩ := trodAll_nil u3
  obtain rfl : args = #[v0, v1, v2, v3] := by cases args; simp_all
  obtain ⟨rfl, rfl⟩ := trodVars_none hV
  clear hA0 hval0
  have k0 := h0
  obtain ⟨c0x0, c0x1, y0x0, y0x1, m0, rfl, rfl, rfl, t0x0, t0x1⟩ := Go.Joins.open_agg2 Try.underlying23 (by kernel_rfl) (by kernel_rfl) (hval 0 23 v0 rfl rfl) h0
  obtain ⟨a0x0, e0x0, rfl, w0x0⟩ := DataW.trod_int Try.underlying3 t0x0
  simp at e0x0
  subst e0x0
  obtain ⟨a0x1, e0x1, rfl, w0x1⟩ := DataW.trod_int Try.underlying3 t0x1
  simp at e0x1
  subst e0x1
  obtain ⟨A1, n1, c1, rfl⟩ := okWide_slice Try.underlying24 (hval 1 24 v1 rfl rfl)
  have k1 := h1
  obtain ⟨Z1, s1, z1⟩ := view_ints Try.underlying24 Try.underlying3 (by kernel_rfl) h1
  have r1 := reach_of (b := 8) hsz (j := 1) (t := 24) (e := 3) rfl rfl Try.underlying24 (by kernel_rfl) z1
  obtain ⟨A2, n2, c2, rfl⟩ := okWide_slice Try.underlying24 (hval 2 24 v2 rfl rfl)
  have k2 := h2
  obtain ⟨Z2, s2, z2⟩ := view_ints Try.underlying24 Try.underlying3 (by kernel_rfl) h2
  have r2 := reach_of (b := 8) hsz (j := 2) (t := 24) (e := 3) rfl rfl Try.underlying24 (by kernel_rfl) z2
  obtain ⟨A3, n3, c3, rfl⟩ := okWide_slice Try.underlying24 (hval 3 24 v3 rfl rfl)
  have k3 := h3
  obtain ⟨Z3, s3, z3⟩ := view_ints Try.underlying24 Try.underlying3 (by kernel_rfl) h3
  have r3 := reach_of (b := 8) hsz (j := 3) (t := 24) (e := 3) rfl rfl Try.underlying24 (by kernel_rfl) z3
  simp only [List.append_nil] at hW'
  have hlt : ∀ x ∈ p1 ++ p2 ++ p3, x.block < W.heap.size := fun x hx => by simpa using hW'.lt x (by simpa using hx)
  refine (walk W a0x0 a0x1 w0x0 w0x1 A1 n1 c1 Z1 s1 r1 A2 n2 c2 Z2 s2 r2 A3 n3 c3 Z3 s3 r3).mono fun e W' ⟨he, hb⟩ => ?_
  subst he
  exact ⟨_, rfl, _, _, _, [], _, [], hW', (trodAll_cons_mk (shut_bool Try.underlying4 _) trodAll_mk0), (trodAll_cons_mk (Below.trod laidOut (by kernel_rfl) (of_decide_eq_true (by kernel_rfl)) k0 hb (fun x hx => (by simp at hx))) (trodAll_cons_mk (Below.trod laidOut (by kernel_rfl) (of_decide_eq_true (by kernel_rfl)) k1 hb (fun x hx => hlt x (by simp [hx]))) (trodAll_cons_mk (Below.trod laidOut (by kernel_rfl) (of_decide_eq_true (by kernel_rfl)) k2 hb (fun x hx => hlt x (by simp [hx]))) (trodAll_cons_mk (Below.trod laidOut (by kernel_rfl) (of_decide_eq_true (by kernel_rfl)) k3 hb (fun x hx => hlt x (by simp [hx]))) trodAll_mk0)))), rfl, hb.frame _, fun h => by cases h⟩

theorem over : Rows.chooserPicksRow.holds Try.pinned (OpenSpec.ofChange Rows.chooserPicksSpec) :=
  OpenClaim.holds_of_wide 3 Try.f3 rfl rfl rfl rfl rfl rfl rfl ⟨rfl, rfl, rfl, rfl, rfl⟩ rfl rfl rfl rfl rfl (by kernel_rfl) Try.func3 (by kernel_rfl)
    (of_decide_eq_true (by kernel_rfl)) (by unfold Func.isWrapper; first | (rw [if_pos (by decide +kernel)]; kernel_rfl) | (rw [if_neg (by decide +kernel)]; exact ⟨rfl, rfl⟩))
    (fun os started H enc _ => lifted os started H enc)

theorem proved : Rows.ChooserPicksSaid := over
#print axioms proved
end Go.Proofs.Ytiolhdilfjomcaa.chooserPicks
