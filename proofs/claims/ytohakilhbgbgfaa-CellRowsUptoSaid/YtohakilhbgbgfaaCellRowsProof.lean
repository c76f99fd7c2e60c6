/- Any numbers of any size, and back, are as the document says. For every input of bulk at most 1048576. -/
import Derived.Test.YtohakilhbgbgfaaCellAwake
import Derived.Deep.CondSized
import Derived.Test.YtohakilhbgbgfaaBulk
namespace Go.Proofs.Ytohakilhbgbgfaa.cellRows
open Go.ChangeShapes Go.WideShapes Go.ChangeAt Go.RowKit

set_option linter.unusedVariables false in
theorem walk (w : World) (a0 : Int) (w0 : (Lit.int .i64 a0).wf = true) (A1 : Option Addr) (n1 c1 : Nat) (Z1 : List Int) (s1 : IntsIn w .i64 A1 n1 c1 Z1) (r1 : n1 * 8 ≤ 140737488351232) (u1 : n1 ≤ 1048576) (A2 : Option Addr) (n2 c2 : Nat) (Z2 : List Int) (s2 : IntsIn w .u8 A2 n2 c2 Z2) (r2 : n2 * 1 ≤ 140737488351232) (u2 : n2 ≤ 1048576) :
    Calls Try.prog 5 #[.int .i64 a0, .slice A1 n1 c1, .slice A2 n2 c2] w (Fresh (.bool true) w) := by
  obtain ⟨x, q, h, hx1, hx2⟩ := rows (.slice A1 n1 c1) n1 _ a0 w (readsI_in s1) (by omega)
  obtain ⟨y, p, g, hy1, hy2⟩ := unrows (.slice A2 n2 c2) n2 _ a0 w (reads_in s2) (by omega)
  have X1 := Lib.hid hx1
  have X2 := Lib.hid hx2
  have Y1 := Lib.hid hy1
  have Y2 := Lib.hid hy2
  clear hx1 hx2 hy1 hy2 s1 s2 r1 r2 u1 u2
  go_enter Try.func5, Try.ntmps5
  go_wp2_with fail
  with_reducible refine (X1.out _ (Below.refl _ _)).mono ?_
  rintro e w1 ⟨v1, rfl, ht1, hb1⟩
  have B1 := Lib.hid hb1
  have T1 := Lib.hid ht1
  clear hb1 ht1
  go_wp2_with fail
  with_reducible refine (X2.out _ B1.out).mono ?_
  rintro e w2 ⟨v2, rfl, ht2, hb2⟩
  have B2 : Hid (Below w.heap.size w w2) := Lib.hid (B1.out.trans (hb2.mono B1.out.size))
  have T2 := Lib.hid ht2
  have T1' := Lib.hid (T1.out.below hb2)
  clear hb2 ht2
  go_wp2_with fail
  with_reducible refine (Y1.out _ B2.out).mono ?_
  rintro e w3 ⟨v3, rfl, ht3, hb3⟩
  have B3 : Hid (Below w.heap.size w w3) := Lib.hid (B2.out.trans (hb3.mono B2.out.size))
  have T3 := Lib.hid ht3
  have T1'' := Lib.hid (T1'.out.below hb3)
  have T2' := Lib.hid (T2.out.below hb3)
  clear hb3 ht3
  go_wp2_with fail
  with_reducible refine (Y2.out _ B3.out).mono ?_
  rintro e w4 ⟨v4, rfl, ht4, hb4⟩
  have B4 : Hid (Below w.heap.size w w4) := Lib.hid (B3.out.trans (hb4.mono B3.out.size))
  have T4 := Lib.hid ht4
  have U1 := Lib.hid (T1''.out.below hb4)
  have U2 := Lib.hid (T2'.out.below hb4)
  have U3 := Lib.hid (T3.out.below hb4)
  clear hb4 ht4
  go_wp2_with fail
  refine (awake_any _).mono ?_
  rintro e w5 ⟨rfl, hb5⟩
  have k1 := (U1.out.below hb5).conv
  have k2 := (U2.out.below hb5).conv
  have V3 := Lib.hid (U3.out.below hb5)
  have V4 := Lib.hid (T4.out.below hb5)
  have B5 : Hid (Below w.heap.size w w5) := Lib.hid (B4.out.trans (hb5.mono B4.out.size))
  clear hb5
  go_wp2_with fail
  with_reducible refine (ints_reads v3 v4 _ _ w5 V3.out V4.out).mono ?_
  rintro e w6 ⟨nq, rfl, rfl⟩
  go_wp2
  go_ret
  exact ⟨rfl, below_drewN B5.out nq⟩

/-! ### the law's end -/
set_option linter.unusedVariables false
theorem own : ownKnob Try.prog.godebug = none := by kernel_rfl
theorem laidOut : laidOutB Try.prog = true := by kernel_rfl
set_option maxRecDepth 100000 in

theorem lifted (os : Os) (started : os.Started) (H : Type) (enc : TypeId × Value → H) (F : Stop.Interp) :
    ReturnsInHanded {} Try.checked os 5 .any ((Rows.OpenSpec.upto Rows.cellRowsSpec).pre6 enc Try.prog Try.f5 Rows.cellRowsUptoRow.domain false) (((Rows.OpenSpec.upto Rows.cellRowsSpec).at F).post enc Try.prog Try.f5 false true false false) := by
  refine returnsInHanded_of_cond_sized (C := Try.checked) (s := Rows.OpenSpec.upto Rows.cellRowsSpec) (k := Rows.uptoSmall) rfl own started (by kernel_rfl) Try.func5
    (OpenSpec.witness (enc := enc) (C := Try.checked) (s := Rows.OpenSpec.upto Rows.cellRowsSpec) (k := Rows.uptoSmall) rfl false ⟨#[], #[.int .i64 0, .slice none 0 0, .slice none 0 0], []⟩ 8 (by kernel_rfl) (by kernel_rfl) (by kernel_rfl)
      (x := ([.lit (.int .i64 0), .nil, .nil], [], [])) (by kernel_rfl) rfl (by kernel_rfl)) ?_
  intro W base args ds gs before hval0 hW _ hk hsz0 _
  have hsz : (DataW.weightsEach Try.prog (Try.f5.params.toList ++ Rows.cellRowsSpec.plain.varTypes Try.prog) (ds ++ gs)).all (· ≤ reachBytes) = true := hsz0
  clear hsz0
  have hval : ∀ (j : Nat) t v, Try.f5.params[j]? = some t → args[j]? = some v → Value.okWide Try.prog W .any base t v := hval0
  have hW' := hW
  obtain ⟨p, q, hA0, hV, rfl, _, _⟩ := hW
  have hA : DataW.TrodAll enc Try.prog W 0 (fun _ => true) true Try.f5.params.toList args.toList ds p := hA0
  rw [Try.params5] at hA hval hsz
  obtain ⟨v0, vs0, d0, ds0, p0, q0, hargs, rfl, rfl, h0, u0⟩ := trodAll_cons hA
  obtain ⟨v1, vs1, d1, ds1, p1, q1, rfl, rfl, rfl, h1, u1⟩ := trodAll_cons u0
  obtain ⟨v2, vs2, d2, ds2, p2, q2, rfl, rfl, rfl, h2, u2⟩ := trodAll_cons u1
  obtain ⟨rfl, rfl, rfl⟩ := trodAll_nil u2
  obtain rfl : args = #[v0, v1, v2] := by cases args; simp_all
  obtain ⟨rfl, rfl⟩ := trodVars_none hV
  clear hA0 hval0
  have k0 := h0
  obtain ⟨a0, rfl, rfl, rfl, w0⟩ := open_int Try.underlying3 (hval 0 3 v0 rfl rfl) h0
  obtain ⟨A1, n1, c1, rfl⟩ := okWide_slice Try.underlying30 (hval 1 30 v1 rfl rfl)
  have k1 := h1
  obtain ⟨Z1, s1, z1⟩ := view_ints Try.underlying30 Try.underlying3 (by kernel_rfl) h1
  have r1 := reach_of (b := 8) hsz (j := 1) (t := 30) (e := 3) rfl rfl Try.underlying30 (by kernel_rfl) z1
  have bk1 := bulk_len hk (d := d1) (by simp) z1
  obtain ⟨A2, n2, c2, rfl⟩ := okWide_slice Try.underlying22 (hval 2 22 v2 rfl rfl)
  have k2 := h2
  obtain ⟨Z2, s2, z2⟩ := view_ints Try.underlying22 Try.underlying5 (by kernel_rfl) h2
  have r2 := reach_of (b := 1) hsz (j := 2) (t := 22) (e := 5) rfl rfl Try.underlying22 (by kernel_rfl) z2
  have bk2 := bulk_len hk (d := d2) (by simp) z2
  simp only [List.append_nil] at hW'
  have hlt : ∀ x ∈ p1 ++ p2, x.block < W.heap.size := fun x hx => by simpa using hW'.lt x (by simpa using hx)
  refine (walk W a0 w0 A1 n1 c1 Z1 s1 r1 bk1 A2 n2 c2 Z2 s2 r2 bk2).mono fun e W' ⟨he, hb⟩ => ?_
  subst he
  exact ⟨_, rfl, _, _, _, [], _, [], hW', (trodAll_cons_mk (shut_bool Try.underlying4 _) trodAll_mk0), (trodAll_cons_mk (Below.trod laidOut (by kernel_rfl) (of_decide_eq_true (by kernel_rfl)) k0 hb (fun x hx => (by cases hx))) (trodAll_cons_mk (Below.trod laidOut (by kernel_rfl) (of_decide_eq_true (by kernel_rfl)) k1 hb (fun x hx => hlt x (by simp [hx]))) (trodAll_cons_mk (Below.trod laidOut (by kernel_rfl) (of_decide_eq_true (by kernel_rfl)) k2 hb (fun x hx => hlt x (by simp [hx]))) trodAll_mk0))), rfl, hb.frame _, fun h => by cases h⟩

theorem over : Rows.cellRowsUptoRow.holds Try.pinned (Rows.OpenSpec.upto Rows.cellRowsSpec) :=
  OpenClaim.holds_of_cond 5 Try.f5 rfl rfl rfl rfl rfl rfl rfl ⟨rfl, rfl, rfl, rfl, rfl⟩ rfl rfl rfl rfl rfl (by kernel_rfl) Try.func5 (by kernel_rfl)
    (of_decide_eq_true (by kernel_rfl)) (by unfold Func.isWrapper; first | (rw [if_pos (by decide +kernel)]; kernel_rfl) | (rw [if_neg (by decide +kernel)]; exact ⟨rfl, rfl⟩))
    (fun os started H enc _ F => lifted os started H enc F)

theorem proved : Rows.CellRowsUptoSaid := over
#print axioms proved
end Go.Proofs.Ytohakilhbgbgfaa.cellRows
