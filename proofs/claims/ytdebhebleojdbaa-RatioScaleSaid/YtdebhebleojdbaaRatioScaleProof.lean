/- A quotient whose two numbers are multiplied by one number is equal to it; with one more above it is greater. For every input, no condition. -/
import Derived.Test.YtdebhebleojdbaaRatioAwake
namespace Go.Proofs.Ytdebhebleojdbaa.ratioScale
open Go.ChangeShapes Go.WideShapes Go.ChangeAt Go.RowKit

set_option linter.unusedVariables false in
theorem walk (w : World) (a0 : Int) (w0 : (Lit.int .u16 a0).wf = true) (a1 : Int) (w1 : (Lit.int .u16 a1).wf = true) (a2 : Int) (w2 : (Lit.int .u16 a2).wf = true) :
    Calls Try.prog 9 #[.int .u16 a0, .int .u16 a1, .int .u16 a2] w (Fresh (.bool true) w) := by
  have b0 := bounds_u16 w0
  have b1 := bounds_u16 w1
  have b2 := bounds_u16 w2
  clear w0 w1 w2
  obtain ⟨x, hx⟩ : ∃ x, a0 % 1024 = x := ⟨_, rfl⟩
  obtain ⟨y, hy⟩ : ∃ y, 1 + a1 % 1024 = y := ⟨_, rfl⟩
  obtain ⟨n, hn⟩ : ∃ n, 1 + a2 % 1000 = n := ⟨_, rfl⟩
  have x0 : 0 ≤ x := by omega
  have x1 : x ≤ 1023 := by omega
  have y0 : 1 ≤ y := by omega
  have y1 : y ≤ 1024 := by omega
  have n0 : 1 ≤ n := by omega
  have n1 : n ≤ 1000 := by omega
  have p0 : 0 ≤ x * n := Int.mul_nonneg x0 (by omega)
  have p1 : x * n ≤ 1023 * 1000 := Int.mul_le_mul x1 n1 (by omega) (by omega)
  have q0 : 1 * 1 ≤ y * n := Int.mul_le_mul y0 n0 (by omega) (by omega)
  have q1 : y * n ≤ 1024 * 1000 := Int.mul_le_mul y1 n1 (by omega) (by omega)
  have f1 : Fit x y := ⟨by omega, by omega, by omega, by omega⟩
  have f2 : Fit (x * n) (y * n) := ⟨by omega, by omega, by omega, by omega⟩
  have f3 : Fit (x * n + 1) (y * n) := ⟨by omega, by omega, by omega, by omega⟩
  have c1 := fun W => compare_yes x y (x * n) (y * n) W f1 f2
  have c2 := fun W => compare_yes x y (x * n + 1) (y * n) W f1 f3
  rw [rel_scale] at c1
  rw [rel_scale_up (by omega)] at c2
  have C1 := Lib.hid c1
  have C2 := Lib.hid c2
  clear f1 f2 f3 c1 c2
  go_enter Try.func9, Try.ntmps9
  go_wp2_with fail
  refine (C1.out _).mono ?_
  rintro e w' ⟨rfl, rfl⟩
  go_wp2_with fail
  refine (C2.out _).mono ?_
  rintro e w' ⟨rfl, rfl⟩
  go_wp2_with fail
  refine (awake_any _).mono ?_
  rintro e w' ⟨rfl, hb⟩
  go_wp2
  go_ret
  exact ⟨rfl, hb⟩

/-! ### the law's end -/
set_option linter.unusedVariables false
theorem own : ownKnob Try.prog.godebug = none := by kernel_rfl
theorem laidOut : laidOutB Try.prog = true := by kernel_rfl
set_option maxRecDepth 100000 in
theorem lifted (os : Os) (started : os.Started) (H : Type) (enc : TypeId × Value → H) :
    ReturnsInHanded {} Try.checked os 9 .any (Rows.ratioScaleSpec.pre6 enc Try.prog Try.f9 Rows.ratioScaleRow.domain false) (Rows.ratioScaleSpec.post enc Try.prog Try.f9 false true false false) := by
  refine returnsInHanded_of_change_sized (C := Try.checked) own started (by kernel_rfl) Try.func9
    (ChangeSpec.witness6 (enc := enc) (C := Try.checked) false ⟨#[], #[.int .u16 0, .int .u16 0, .int .u16 0], []⟩ 8 (by kernel_rfl) (by kernel_rfl) (by kernel_rfl) (by kernel_rfl)) ?_
  intro W base args ds gs before hval0 hW _ hsz0 _
  have hsz : (DataW.weightsEach Try.prog (Try.f9.params.toList ++ Rows.ratioScaleSpec.plain.varTypes Try.prog) (ds ++ gs)).all (· ≤ reachBytes) = true := hsz0
  clear hsz0
  have hval : ∀ (j : Nat) t v, Try.f9.params[j]? = some t → args[j]? = some v → Value.okWide Try.prog W .any base t v := hval0
  have hW' := hW
  obtain ⟨p, q, hA0, hV, rfl, _, _⟩ := hW
  have hA : DataW.TrodAll enc Try.prog W 0 (fun _ => true) true Try.f9.params.toList args.toList ds p := hA0
  rw [Try.params9] at hA hval hsz
  obtain ⟨v0, vs0, d0, ds0, p0, q0, hargs, rfl, rfl, h0, r0⟩ := trodAll_cons hA
  obtain ⟨v1, vs1, d1, ds1, p1, q1, rfl, rfl, rfl, h1, r1⟩ := trodAll_cons r0
  obtain ⟨v2, vs2, d2, ds2, p2, q2, rfl, rfl, rfl, h2, r2⟩ := trodAll_cons r1
  obtain ⟨rfl, rfl, rfl⟩ := trodAll_nil r2
  obtain rfl : args = #[v0, v1, v2] := by cases args; simp_all
  obtain ⟨rfl, rfl⟩ := trodVars_none hV
  clear hA0 hval0
  have k0 := h0
  obtain ⟨a0, rfl, rfl, rfl, w0⟩ := open_int Try.underlying34 (hval 0 34 v0 rfl rfl) h0
  have k1 := h1
  obtain ⟨a1, rfl, rfl, rfl, w1⟩ := open_int Try.underlying34 (hval 1 34 v1 rfl rfl) h1
  have k2 := h2
  obtain ⟨a2, rfl, rfl, rfl, w2⟩ := open_int Try.underlying34 (hval 2 34 v2 rfl rfl) h2
  simp only [List.append_nil] at hW'
  refine (walk W a0 w0 a1 w1 a2 w2).mono fun e W' ⟨he, hb⟩ => ?_
  subst he
  exact ⟨_, rfl, _, _, _, [], _, [], hW', (trodAll_cons_mk (shut_bool Try.underlying4 _) trodAll_mk0), (trodAll_cons_mk (Below.trod laidOut (by kernel_rfl) (of_decide_eq_true (by kernel_rfl)) k0 hb (fun x hx => (by cases hx))) (trodAll_cons_mk (Below.trod laidOut (by kernel_rfl) (of_decide_eq_true (by kernel_rfl)) k1 hb (fun x hx => (by cases hx))) (trodAll_cons_mk (Below.trod laidOut (by kernel_rfl) (of_decide_eq_true (by kernel_rfl)) k2 hb (fun x hx => (by cases hx))) trodAll_mk0))), rfl, hb.frame _, fun h => by cases h⟩

theorem over : Rows.ratioScaleRow.holds Try.pinned (OpenSpec.ofChange Rows.ratioScaleSpec) :=
  OpenClaim.holds_of_wide 9 Try.f9 rfl rfl rfl rfl rfl rfl rfl ⟨rfl, rfl, rfl, rfl, rfl⟩ rfl rfl rfl rfl rfl (by kernel_rfl) Try.func9 (by kernel_rfl)
    (of_decide_eq_true (by kernel_rfl)) (by unfold Func.isWrapper; first | (rw [if_pos (by decide +kernel)]; kernel_rfl) | (rw [if_neg (by decide +kernel)]; exact ⟨rfl, rfl⟩))
    (fun os started H enc _ => lifted os started H enc)

theorem proved : Rows.RatioScaleSaid := over
#print axioms proved
end Go.Proofs.Ytdebhebleojdbaa.ratioScale
