/- Slots of one segment lie one behind the other on the device, and segments too, up to its end: for every four small numbers, no condition. -/
import Derived.Test.YthkeedgjhkpgjaaPlatRef
namespace Go.Proofs.Ythkeedgjhkpgjaa.platSteps
open Go.ChangeShapes Go.WideShapes Go.ChangeAt Go.RowKit

/-- The walk over what the numbers come to: a geometry, a segment and a slot of it. -/
theorem walk_of (w : World) (a0 a1 a2 a3 s b x y : Int) (w0 : 0 ≤ a0 ∧ a0 ≤ 255) (w1 : 0 ≤ a1 ∧ a1 ≤ 255) (w2 : 0 ≤ a2 ∧ a2 ≤ 255) (w3 : 0 ≤ a3 ∧ a3 ≤ 255)
    (hs : 6 + a0 % 19 = s) (hb : 2 + a1 % 15 = b) (hx : a2 % s = x) (hy : a3 % b = y) (g : Geo s b) (hx0 : 0 ≤ x) (hxs : x < s) (hy0 : 0 ≤ y) (hyb : y < b) :
    Calls Try.prog 5 #[.int .u8 a0, .int .u8 a1, .int .u8 a2, .int .u8 a3] w (Fresh (.bool true) w) := by
  have s0 : ¬ s = 0 := by have := g.1; omega
  have b0 : ¬ b = 0 := by have := g.2; omega
  have tx : a2.tmod s = x := by rw [Int.tmod_eq_emod_of_nonneg w2.1]; exact hx
  have ty : a3.tmod b = y := by rw [Int.tmod_eq_emod_of_nonneg w3.1]; exact hy
  have s1 : s ≤ 24 := g.1.2
  have b1 : b ≤ 16 := g.2.2
  obtain ⟨w00, w01⟩ := w0
  obtain ⟨w10, w11⟩ := w1
  obtain ⟨w20, w21⟩ := w2
  obtain ⟨w30, w31⟩ := w3
  obtain ⟨k, hk⟩ : ∃ k : Int, 40 + (x * b + 0) = k := ⟨_, rfl⟩
  have hm : x * b ≤ 24 * 16 := Int.mul_le_mul (by omega) b1 (by omega) (by omega)
  have hm0 : 0 ≤ x * b := Int.mul_nonneg hx0 (by omega)
  have hA : ∀ W, Calls Try.prog 13 #[.agg #[.int .i64 s, .int .i64 b], .complex .f64 (floatOfInt .f64 x) (floatOfInt .f64 y)] W (Fresh (.tuple #[.int .i64 (k + y), .int .i64 0]) W) := fun W => by
    have e : k + y = 40 + (x * b + y) := by omega
    rw [e]; exact at_ok s b x y W g hx0 hxs hy0 hyb
  have hB : ∀ W, Calls Try.prog 13 #[.agg #[.int .i64 s, .int .i64 b], .complex .f64 (floatOfInt .f64 x) 0] W (Fresh (.tuple #[.int .i64 k, .int .i64 0]) W) := fun W => by
    have h := at_ok s b x 0 W g hx0 hxs (by omega) (by omega)
    rw [fl_none, hk] at h
    exact h
  have hC : x + 1 < s → ∀ W, Calls Try.prog 13 #[.agg #[.int .i64 s, .int .i64 b], .complex .f64 (floatOfInt .f64 (x + 1)) 0] W (Fresh (.tuple #[.int .i64 (k + b), .int .i64 0]) W) := fun hlt W => by
    have h := at_ok s b (x + 1) 0 W g (by omega) hlt (by omega) (by omega)
    have e : 40 + ((x + 1) * b + 0) = k + b := by rw [← hk]; grind
    rw [fl_none, e] at h
    exact h
  have hD : x + 1 = s → ∀ W, Calls Try.prog 6 #[.agg #[.int .i64 s, .int .i64 b]] W (Fresh (.tuple #[.int .i64 (k + b), .int .i64 0]) W) := fun he W => by
    have h := sectors_ok s b W g
    have e : 40 + s * b = k + b := by rw [← hk, ← he]; grind
    rw [e] at h
    exact h
  have k0 : 40 ≤ k := by omega
  have k1 : k ≤ 424 := by omega
  have HC := Lib.hid hC
  have HD := Lib.hid hD
  have b2 : 2 ≤ b := g.2.1
  clear g hk hm hm0 hC hD
  go_enter Try.func5, Try.ntmps5
  go_wp2_with fail
  go_quiet (fail)
  go_wp2_with fail
  refine (hA _).mono ?_
  rintro e wa ⟨rfl, hb1⟩
  have c0 : wa.cell? ⟨w.heap.size, 0, none⟩ = some (.int .i64 s) := cell_later hb1 (by rw [World.cell?_drewN, cell_of_row _ _ _ _ _ _ (heap_alloc_new w _)]; rfl)
  have c1 : wa.cell? ⟨w.heap.size, 1, none⟩ = some (.int .i64 b) := cell_later hb1 (by rw [World.cell?_drewN, cell_of_row _ _ _ _ _ _ (heap_alloc_new w _)]; rfl)
  have HB : Hid (Below w.heap.size w wa) := Lib.hid ((below_drewN ((Below.refl _ _).alloc (Nat.le_refl _) _) _).trans (hb1.mono (by simp)))
  clear hb1
  go_wp2_with fail
  refine (hB _).mono ?_
  rintro e wb ⟨rfl, hb1⟩
  replace c0 := cell_later hb1 c0
  replace c1 := cell_later hb1 c1
  replace HB := Lib.hid (HB.out.trans (hb1.mono HB.out.size))
  clear hb1
  go_wp2_with fail
  refine (awake_any _).mono ?_
  rintro e wc ⟨rfl, hb1⟩
  replace c0 := cell_later hb1 c0
  replace c1 := cell_later hb1 c1
  replace HB := Lib.hid (HB.out.trans (hb1.mono HB.out.size))
  clear hb1
  by_cases hl : x + 1 = s
  · go_wp2_with fail
    refine (HD.out hl _).mono ?_
    rintro e wd ⟨rfl, hb1⟩
    replace c0 := cell_later hb1 c0
    replace c1 := cell_later hb1 c1
    replace HB := Lib.hid (HB.out.trans (hb1.mono HB.out.size))
    clear hb1
    go_wp2
    go_ret
    exact ⟨rfl, HB.out⟩
  · go_wp2_with fail
    refine (HC.out (by omega) _).mono ?_
    rintro e wd ⟨rfl, hb1⟩
    replace c0 := cell_later hb1 c0
    replace c1 := cell_later hb1 c1
    replace HB := Lib.hid (HB.out.trans (hb1.mono HB.out.size))
    clear hb1
    go_wp2
    go_ret
    exact ⟨rfl, HB.out⟩

set_option linter.unusedVariables false in
theorem walk (w : World) (a0 : Int) (w0 : (Lit.int .u8 a0).wf = true) (a1 : Int) (w1 : (Lit.int .u8 a1).wf = true) (a2 : Int) (w2 : (Lit.int .u8 a2).wf = true) (a3 : Int) (w3 : (Lit.int .u8 a3).wf = true) :
    Calls Try.prog 5 #[.int .u8 a0, .int .u8 a1, .int .u8 a2, .int .u8 a3] w (Fresh (.bool true) w) := by
  have b0 := bounds_u8 w0
  have b1 := bounds_u8 w1
  have b2 := bounds_u8 w2
  have b3 := bounds_u8 w3
  have g : Geo (6 + a0 % 19) (2 + a1 % 15) := ⟨⟨by omega, by omega⟩, by omega, by omega⟩
  refine walk_of w a0 a1 a2 a3 _ _ _ _ b0 b1 b2 b3 rfl rfl rfl rfl g (Int.emod_nonneg _ (by omega)) (Int.emod_lt_of_pos _ (by omega)) (Int.emod_nonneg _ (by omega)) (Int.emod_lt_of_pos _ (by omega))

/-! ### the law's end -/
set_option linter.unusedVariables false
theorem own : ownKnob Try.prog.godebug = none := by kernel_rfl
theorem laidOut : laidOutB Try.prog = true := by kernel_rfl
set_option maxRecDepth 100000 in

theorem lifted (os : Os) (started : os.Started) (H : Type) (enc : TypeId × Value → H) :
    ReturnsInHanded {} Try.checked os 5 .any (Rows.platStepsSpec.pre6 enc Try.prog Try.f5 Rows.platStepsRow.domain false) (Rows.platStepsSpec.post enc Try.prog Try.f5 false true false false) := by
  refine returnsInHanded_of_change_sized (C := Try.checked) own started (by kernel_rfl) Try.func5
    (ChangeSpec.witness6 (enc := enc) (C := Try.checked) false ⟨#[], #[.int .u8 0, .int .u8 0, .int .u8 0, .int .u8 0], []⟩ 8 (by kernel_rfl) (by kernel_rfl) (by kernel_rfl) (by kernel_rfl)) ?_
  intro W base args ds gs before hval0 hW _ hsz0 _
  have hsz : (DataW.weightsEach Try.prog (Try.f5.params.toList ++ Rows.platStepsSpec.plain.varTypes Try.prog) (ds ++ gs)).all (· ≤ reachBytes) = true := hsz0
  clear hsz0
  have hval : ∀ (j : Nat) t v, Try.f5.params[j]? = some t → args[j]? = some v → Value.okWide Try.prog W .any base t v := hval0
  have hW' := hW
  obtain ⟨p, q, hA0, hV, rfl, _, _⟩ := hW
  have hA : DataW.TrodAll enc Try.prog W 0 (fun _ => true) true Try.f5.params.toList args.toList ds p := hA0
  rw [Try.params5] at hA hval hsz
  obtain ⟨v0, vs0, d0, ds0, p0, q0, hargs, rfl, rfl, h0, u0⟩ := trodAll_cons hA
  obtain ⟨v1, vs1, d1, ds1, p1, q1, rfl, rfl, rfl, h1, u1⟩ := trodAll_cons u0
  obtain ⟨v2, vs2, d2, ds2, p2, q2, rfl, rfl, rfl, h2, u2⟩ := trodAll_cons u1
  obtain ⟨v3, vs3, d3, ds3, p3, q3, rfl, rfl, rfl, h3, u3⟩ := trodAll_cons u2
  obtain ⟨rfl, rfl, rfl⟩ := trodAll_nil u3
  obtain rfl : args = #[v0, v1, v2, v3] := by cases args; simp_all
  obtain ⟨rfl, rfl⟩ := trodVars_none hV
  clear hA0 hval0
  have k0 := h0
  obtain ⟨a0, rfl, rfl, rfl, w0⟩ := open_int Try.underlying5 (hval 0 5 v0 rfl rfl) h0
  have k1 := h1
  obtain ⟨a1, rfl, rfl, rfl, w1⟩ := open_int Try.underlying5 (hval 1 5 v1 rfl rfl) h1
  have k2 := h2
  obtain ⟨a2, rfl, rfl, rfl, w2⟩ := open_int Try.underlying5 (hval 2 5 v2 rfl rfl) h2
  have k3 := h3
  obtain ⟨a3, rfl, rfl, rfl, w3⟩ := open_int Try.underlying5 (hval 3 5 v3 rfl rfl) h3
  simp only [List.append_nil] at hW'
  refine (walk W a0 w0 a1 w1 a2 w2 a3 w3).mono fun e W' ⟨he, hb⟩ => ?_
  subst he
  exact ⟨_, rfl, _, _, _, [], _, [], hW', (trodAll_cons_mk (shut_bool Try.underlying4 _) trodAll_mk0), (trodAll_cons_mk (Below.trod laidOut (by kernel_rfl) (of_decide_eq_true (by kernel_rfl)) k0 hb (fun x hx => (by cases hx))) (trodAll_cons_mk (Below.trod laidOut (by kernel_rfl) (of_decide_eq_true (by kernel_rfl)) k1 hb (fun x hx => (by cases hx))) (trodAll_cons_mk (Below.trod laidOut (by kernel_rfl) (of_decide_eq_true (by kernel_rfl)) k2 hb (fun x hx => (by cases hx))) (trodAll_cons_mk (Below.trod laidOut (by kernel_rfl) (of_decide_eq_true (by kernel_rfl)) k3 hb (fun x hx => (by cases hx))) trodAll_mk0)))), rfl, hb.frame _, fun h => by cases h⟩

theorem over : Rows.platStepsRow.holds Try.pinned (OpenSpec.ofChange Rows.platStepsSpec) :=
  OpenClaim.holds_of_wide 5 Try.f5 rfl rfl rfl rfl rfl rfl rfl ⟨rfl, rfl, rfl, rfl, rfl⟩ rfl rfl rfl rfl rfl (by kernel_rfl) Try.func5 (by kernel_rfl)
    (of_decide_eq_true (by kernel_rfl)) (by unfold Func.isWrapper; first | (rw [if_pos (by decide +kernel)]; kernel_rfl) | (rw [if_neg (by decide +kernel)]; exact ⟨rfl, rfl⟩))
    (fun os started H enc _ => lifted os started H enc)

theorem proved : Rows.PlatStepsSaid := over
#print axioms proved
end Go.Proofs.Ythkeedgjhkpgjaa.platSteps
