/- Quotients are in one order: turned round they are compared the other way, and who is not above one that is not above a third is not above that. For every input, no condition. -/
import Derived.Test.YtdebhebleojdbaaRatioAwake
namespace Go.Proofs.Ytdebhebleojdbaa.ratioOrder
open Go.ChangeShapes Go.WideShapes Go.ChangeAt Go.RowKit

/-- What Compare answers, in one. -/
def cv (a b c d : Int) : Int := if Fit a b ∧ Fit c d then rel a b c d else 0
def ce (a b c d : Int) : Int := if Fit a b ∧ Fit c d then 0 else 1
theorem compare_any (a b c d : Int) (w : World) :
    Calls Try.prog 10 #[.int .i64 a, .int .i64 b, .int .i64 c, .int .i64 d] w fun e w' => e = .returned (.tuple #[.int .i64 (cv a b c d), .int .i64 (ce a b c d)]) ∧ w = w' := by
  unfold cv ce
  by_cases h : Fit a b ∧ Fit c d
  · rw [if_pos h, if_pos h]; exact compare_yes _ _ _ _ _ h.1 h.2
  · rw [if_neg h, if_neg h]; exact compare_no _ _ _ _ _ h
theorem ce_yes {a b c d : Int} (h : Fit a b ∧ Fit c d) : ce a b c d = 0 := if_pos h
theorem ce_no {a b c d : Int} (h : ¬ (Fit a b ∧ Fit c d)) : ce a b c d = 1 := if_neg h
theorem cv_yes {a b c d : Int} (h : Fit a b ∧ Fit c d) : cv a b c d = rel a b c d := if_pos h

/-- The law's own text, given what the four comparisons answer. -/
theorem text (a b c d m n : Int) (x e y f p g q h : Int) (w : World)
    (h1 : ∀ W, Calls Try.prog 10 #[.int .i64 a, .int .i64 b, .int .i64 c, .int .i64 d] W fun r W' => r = .returned (.tuple #[.int .i64 x, .int .i64 e]) ∧ W = W')
    (h2 : ∀ W, Calls Try.prog 10 #[.int .i64 c, .int .i64 d, .int .i64 a, .int .i64 b] W fun r W' => r = .returned (.tuple #[.int .i64 y, .int .i64 f]) ∧ W = W')
    (h3 : ∀ W, Calls Try.prog 10 #[.int .i64 c, .int .i64 d, .int .i64 m, .int .i64 n] W fun r W' => r = .returned (.tuple #[.int .i64 p, .int .i64 g]) ∧ W = W')
    (h4 : ∀ W, Calls Try.prog 10 #[.int .i64 a, .int .i64 b, .int .i64 m, .int .i64 n] W fun r W' => r = .returned (.tuple #[.int .i64 q, .int .i64 h]) ∧ W = W')
    (hall : (e = 1 ∧ f = 1) ∨ (e = 0 ∧ g = 1 ∧ f = 0) ∨ (e = 0 ∧ g = 0 ∧ f = 0 ∧ h = 0 ∧ y = -x ∧ -1 ≤ x ∧ x ≤ 1 ∧ (0 < x ∨ (x ≤ 0 ∧ 0 < p) ∨ (x ≤ 0 ∧ p ≤ 0 ∧ q ≤ 0)))) :
    Calls Try.prog 6 #[.int .i64 a, .int .i64 b, .int .i64 c, .int .i64 d, .int .i64 m, .int .i64 n] w (Fresh (.bool true) w) := by
  have H1 := Lib.hid h1
  have H2 := Lib.hid h2
  have H3 := Lib.hid h3
  have H4 := Lib.hid h4
  clear h1 h2 h3 h4
  rcases hall with ⟨rfl, rfl⟩ | ⟨rfl, rfl, rfl⟩ | ⟨rfl, rfl, rfl, rfl, rfl, x0, x1, k1 | ⟨k1, k2⟩ | ⟨k1, k2, k3⟩⟩
  all_goals
    go_enter Try.func6, Try.ntmps6
    go_wp2_with fail
    refine (H1.out _).mono ?_
    rintro e w' ⟨rfl, rfl⟩
    go_wp2_with fail
    refine (H2.out _).mono ?_
    rintro e w' ⟨rfl, rfl⟩
    go_wp2_with fail
    refine (H3.out _).mono ?_
    rintro e w' ⟨rfl, rfl⟩
    go_wp2_with fail
    refine (H4.out _).mono ?_
    rintro e w' ⟨rfl, rfl⟩
    go_wp2_with fail
    refine (awake_any _).mono ?_
    rintro e w' ⟨rfl, hb⟩
    go_wp2_with fail
    first
    | (go_ret
       exact ⟨rfl, hb⟩)
    | (refine (awake_any _).mono ?_
       rintro e w2 ⟨rfl, hb2⟩
       go_wp2
       go_ret
       exact ⟨rfl, hb.trans (hb2.mono hb.size)⟩)

set_option linter.unusedVariables false in
theorem walk (w : World) (a0 : Int) (w0 : (Lit.int .i64 a0).wf = true) (a1 : Int) (w1 : (Lit.int .i64 a1).wf = true) (a2 : Int) (w2 : (Lit.int .i64 a2).wf = true) (a3 : Int) (w3 : (Lit.int .i64 a3).wf = true) (a4 : Int) (w4 : (Lit.int .i64 a4).wf = true) (a5 : Int) (w5 : (Lit.int .i64 a5).wf = true) :
    Calls Try.prog 6 #[.int .i64 a0, .int .i64 a1, .int .i64 a2, .int .i64 a3, .int .i64 a4, .int .i64 a5] w (Fresh (.bool true) w) := by
  refine text _ _ _ _ _ _ _ _ _ _ _ _ _ _ w (fun W => compare_any _ _ _ _ W) (fun W => compare_any _ _ _ _ W) (fun W => compare_any _ _ _ _ W) (fun W => compare_any _ _ _ _ W) ?_
  by_cases h1 : Fit a0 a1 ∧ Fit a2 a3
  · by_cases h2 : Fit a4 a5
    · rw [ce_yes h1, ce_yes ⟨h1.2, h2⟩, ce_yes ⟨h1.2, h1.1⟩, ce_yes ⟨h1.1, h2⟩, cv_yes h1, cv_yes ⟨h1.2, h2⟩, cv_yes ⟨h1.2, h1.1⟩, cv_yes ⟨h1.1, h2⟩]
      have hb := rel_bd a0 a1 a2 a3
      refine .inr (.inr ⟨rfl, rfl, rfl, rfl, rel_swap _ _ _ _, hb.1, hb.2, ?_⟩)
      have ht := fun k1 k2 => rel_trans (a := a0) (b := a1) (c := a2) (d := a3) (m := a4) (n := a5) (by have := h1.1.2.2.1; omega) (by have := h1.2.2.2.1; omega) (by have := h2.2.2.1; omega) k1 k2
      by_cases k1 : 0 < rel a0 a1 a2 a3
      · exact .inl k1
      · by_cases k2 : 0 < rel a2 a3 a4 a5
        · exact .inr (.inl ⟨by omega, k2⟩)
        · exact .inr (.inr ⟨by omega, by omega, ht (by omega) (by omega)⟩)
    · rw [ce_yes h1, ce_no (fun h => h2 h.2), ce_yes ⟨h1.2, h1.1⟩]
      exact .inr (.inl ⟨rfl, rfl, rfl⟩)
  · rw [ce_no h1, ce_no (fun h => h1 ⟨h.2, h.1⟩)]
    exact .inl ⟨rfl, rfl⟩

/-! ### the law's end -/
set_option linter.unusedVariables false
theorem own : ownKnob Try.prog.godebug = none := by kernel_rfl
theorem laidOut : laidOutB Try.prog = true := by kernel_rfl
set_option maxRecDepth 100000 in
theorem lifted (os : Os) (started : os.Started) (H : Type) (enc : TypeId × Value → H) :
    ReturnsInHanded {} Try.checked os 6 .any (Rows.ratioOrderSpec.pre6 enc Try.prog Try.f6 Rows.ratioOrderRow.domain false) (Rows.ratioOrderSpec.post enc Try.prog Try.f6 false true false false) := by
  refine returnsInHanded_of_change_sized (C := Try.checked) own started (by kernel_rfl) Try.func6
    (ChangeSpec.witness6 (enc := enc) (C := Try.checked) false ⟨#[], #[.int .i64 0, .int .i64 0, .int .i64 0, .int .i64 0, .int .i64 0, .int .i64 0], []⟩ 8 (by kernel_rfl) (by kernel_rfl) (by kernel_rfl) (by kernel_rfl)) ?_
  intro W base args ds gs before hval0 hW _ hsz0 _
  have hsz : (DataW.weightsEach Try.prog (Try.f6.params.toList ++ Rows.ratioOrderSpec.plain.varTypes Try.prog) (ds ++ gs)).all (· ≤ reachBytes) = true := hsz0
  clear hsz0
  have hval : ∀ (j : Nat) t v, Try.f6.params[j]? = some t → args[j]? = some v → Value.okWide Try.prog W .any base t v := hval0
  have hW' := hW
  obtain ⟨p, q, hA0, hV, rfl, _, _⟩ := hW
  have hA : DataW.TrodAll enc Try.prog W 0 (fun _ => true) true Try.f6.params.toList args.toList ds p := hA0
  rw [Try.params6] at hA hval hsz
  obtain ⟨v0, vs0, d0, ds0, p0, q0, hargs, rfl, rfl, h0, r0⟩ := trodAll_cons hA
  obtain ⟨v1, vs1, d1, ds1, p1, q1, rfl, rfl, rfl, h1, r1⟩ := trodAll_cons r0
  obtain ⟨v2, vs2, d2, ds2, p2, q2, rfl, rfl, rfl, h2, r2⟩ := trodAll_cons r1
  obtain ⟨v3, vs3, d3, ds3, p3, q3, rfl, rfl, rfl, h3, r3⟩ := trodAll_cons r2
  obtain ⟨v4, vs4, d4, ds4, p4, q4, rfl, rfl, rfl, h4, r4⟩ := trodAll_cons r3
  obtain ⟨v5, vs5, d5, ds5, p5, q5, rfl, rfl, rfl, h5, r5⟩ := trodAll_cons r4
  obtain ⟨rfl, rfl, rfl⟩ := trodAll_nil r5
  obtain rfl : args = #[v0, v1, v2, v3, v4, v5] := by cases args; simp_all
  obtain ⟨rfl, rfl⟩ := trodVars_none hV
  clear hA0 hval0
  have k0 := h0
  obtain ⟨a0, rfl, rfl, rfl, w0⟩ := open_int Try.underlying3 (hval 0 3 v0 rfl rfl) h0
  have k1 := h1
  obtain ⟨a1, rfl, rfl, rfl, w1⟩ := open_int Try.underlying3 (hval 1 3 v1 rfl rfl) h1
  have k2 := h2
  obtain ⟨a2, rfl, rfl, rfl, w2⟩ := open_int Try.underlying3 (hval 2 3 v2 rfl rfl) h2
  have k3 := h3
  obtain ⟨a3, rfl, rfl, rfl, w3⟩ := open_int Try.underlying3 (hval 3 3 v3 rfl rfl) h3
  have k4 := h4
  obtain ⟨a4, rfl, rfl, rfl, w4⟩ := open_int Try.underlying3 (hval 4 3 v4 rfl rfl) h4
  have k5 := h5
  obtain ⟨a5, rfl, rfl, rfl, w5⟩ := open_int Try.underlying3 (hval 5 3 v5 rfl rfl) h5
  simp only [List.append_nil] at hW'
  refine (walk W a0 w0 a1 w1 a2 w2 a3 w3 a4 w4 a5 w5).mono fun e W' ⟨he, hb⟩ => ?_
  subst he
  exact ⟨_, rfl, _, _, _, [], _, [], hW', (trodAll_cons_mk (shut_bool Try.underlying4 _) trodAll_mk0), (trodAll_cons_mk (Below.trod laidOut (by kernel_rfl) (of_decide_eq_true (by kernel_rfl)) k0 hb (fun x hx => (by cases hx))) (trodAll_cons_mk (Below.trod laidOut (by kernel_rfl) (of_decide_eq_true (by kernel_rfl)) k1 hb (fun x hx => (by cases hx))) (trodAll_cons_mk (Below.trod laidOut (by kernel_rfl) (of_decide_eq_true (by kernel_rfl)) k2 hb (fun x hx => (by cases hx))) (trodAll_cons_mk (Below.trod laidOut (by kernel_rfl) (of_decide_eq_true (by kernel_rfl)) k3 hb (fun x hx => (by cases hx))) (trodAll_cons_mk (Below.trod laidOut (by kernel_rfl) (of_decide_eq_true (by kernel_rfl)) k4 hb (fun x hx => (by cases hx))) (trodAll_cons_mk (Below.trod laidOut (by kernel_rfl) (of_decide_eq_true (by kernel_rfl)) k5 hb (fun x hx => (by cases hx))) trodAll_mk0)))))), rfl, hb.frame _, fun h => by cases h⟩

theorem over : Rows.ratioOrderRow.holds Try.pinned (OpenSpec.ofChange Rows.ratioOrderSpec) :=
  OpenClaim.holds_of_wide 6 Try.f6 rfl rfl rfl rfl rfl rfl rfl ⟨rfl, rfl, rfl, rfl, rfl⟩ rfl rfl rfl rfl rfl (by kernel_rfl) Try.func6 (by kernel_rfl)
    (of_decide_eq_true (by kernel_rfl)) (by unfold Func.isWrapper; first | (rw [if_pos (by decide +kernel)]; kernel_rfl) | (rw [if_neg (by decide +kernel)]; exact ⟨rfl, rfl⟩))
    (fun os started H enc _ => lifted os started H enc)

theorem proved : Rows.RatioOrderSaid := over
#print axioms proved
end Go.Proofs.Ytdebhebleojdbaa.ratioOrder
