/- Of two segments of one age the emptier one is worth more, and of two that are as empty the elder one. For every input, no condition. -/
import Derived.Test.YtdebhebleojdbaaRatioAwake
namespace Go.Proofs.Ytdebhebleojdbaa.ratioWorth
open Go.ChangeShapes Go.WideShapes Go.ChangeAt Go.RowKit

/-- What the emptier one is worth, above the fuller one. -/
theorem emptier {n x y g : Int} (hn : 2 ≤ n) (hxy : x ≤ y) (hg : 0 ≤ g) :
    0 ≤ rel ((n - x) * (g + 1)) (n + x) ((n - y) * (g + 1)) (n + y) ∧ (x < y → 0 < rel ((n - x) * (g + 1)) (n + x) ((n - y) * (g + 1)) (n + y)) ∧ (y ≤ x → rel ((n - x) * (g + 1)) (n + x) ((n - y) * (g + 1)) (n + y) ≤ 0) := by
  have key : (n - x) * (g + 1) * (n + y) - (n - y) * (g + 1) * (n + x) = (2 * n * (g + 1)) * (y - x) := by
    grind
  have p : 0 < 2 * n * (g + 1) := Int.mul_pos (by omega) (by omega)
  by_cases h : x < y
  · have : 0 < (2 * n * (g + 1)) * (y - x) := Int.mul_pos p (by omega)
    have hr : rel ((n - x) * (g + 1)) (n + x) ((n - y) * (g + 1)) (n + y) = 1 := sgn_gt (by omega)
    rw [hr]
    exact ⟨by omega, fun _ => by omega, fun _ => by omega⟩
  · obtain rfl : x = y := by omega
    rw [rel_self]
    exact ⟨by omega, fun _ => by omega, fun _ => by omega⟩

/-- What the elder one is worth, above the younger one. -/
theorem elder {n x g k : Int} (hx0 : 0 ≤ x) (hx : x ≤ n) (hn : 2 ≤ n) (hg : g ≤ k) :
    0 ≤ rel ((n - x) * (k + 1)) (n + x) ((n - x) * (g + 1)) (n + x) ∧ (x < n → g < k → 0 < rel ((n - x) * (k + 1)) (n + x) ((n - x) * (g + 1)) (n + x)) ∧ (k ≤ g → rel ((n - x) * (k + 1)) (n + x) ((n - x) * (g + 1)) (n + x) ≤ 0) := by
  by_cases h : g < k
  · by_cases h2 : x < n
    · have h3 : (n - x) * (g + 1) < (n - x) * (k + 1) := Int.mul_lt_mul_of_pos_left (by omega) (by omega)
      have h4 : (n - x) * (g + 1) * (n + x) < (n - x) * (k + 1) * (n + x) := Int.mul_lt_mul_of_pos_right h3 (by omega)
      have hr : rel ((n - x) * (k + 1)) (n + x) ((n - x) * (g + 1)) (n + x) = 1 := sgn_gt h4
      rw [hr]
      exact ⟨by omega, fun _ _ => by omega, fun _ => by omega⟩
    · obtain rfl : x = n := by omega
      have hr : rel ((x - x) * (k + 1)) (x + x) ((x - x) * (g + 1)) (x + x) = 0 := sgn_eq (by simp)
      rw [hr]
      exact ⟨by omega, fun _ => by omega, fun _ => by omega⟩
  · obtain rfl : g = k := by omega
    rw [rel_self]
    exact ⟨by omega, fun _ _ => by omega, fun _ => by omega⟩

theorem fit_of {n x g : Int} (hx0 : 0 ≤ x) (hx : x ≤ n) (hn : 2 ≤ n) (hn2 : n ≤ 16) (hg : 0 ≤ g) (hg2 : g ≤ 65535) : Fit ((n - x) * (g + 1)) (n + x) := by
  have := seg_bd (live := x) (blocks := n) (age := g) ⟨hn, hn2, hx0, hx, hg, hg2⟩
  exact ⟨this.1, this.2, by omega, by omega⟩

set_option linter.unusedVariables false in
set_option maxHeartbeats 800000 in
/-- The law's own text, given what Score and Compare answer. -/
theorem text (live more blocks age older n x r k a b c p s t : Int) (w : World)
    (lw : 0 ≤ live ∧ live ≤ 255) (mw : 0 ≤ more ∧ more ≤ 255) (bw : 0 ≤ blocks ∧ blocks ≤ 255) (aw : 0 ≤ age ∧ age ≤ 65535) (ow : 0 ≤ older ∧ older ≤ 65535)
    (hn : 2 + blocks % 15 = n) (hx : live % (n + 1) = x) (hr : more % (n + 1 - x) = r) (n0 : 2 ≤ n) (n1 : n ≤ 16) (x0 : 0 ≤ x) (x1 : x ≤ n) (r0 : 0 ≤ r) (r1 : x + r ≤ n)
    (hk : (age < older ∧ k = older) ∨ (older ≤ age ∧ k = age))
    (h1 : ∀ W, Calls Try.prog 13 #[.int .i64 x, .int .i64 n, .int .i64 age] W fun e W' => e = .returned (.tuple #[.int .i64 a, .int .i64 b, .int .i64 0]) ∧ W = W')
    (h2 : ∀ W, Calls Try.prog 13 #[.int .i64 (x + r), .int .i64 n, .int .i64 age] W fun e W' => e = .returned (.tuple #[.int .i64 c, .int .i64 (n + (x + r)), .int .i64 0]) ∧ W = W')
    (h3 : ∀ W, Calls Try.prog 13 #[.int .i64 x, .int .i64 n, .int .i64 k] W fun e W' => e = .returned (.tuple #[.int .i64 p, .int .i64 b, .int .i64 0]) ∧ W = W')
    (h4 : ∀ W, Calls Try.prog 10 #[.int .i64 a, .int .i64 b, .int .i64 c, .int .i64 (n + (x + r))] W fun e W' => e = .returned (.tuple #[.int .i64 s, .int .i64 0]) ∧ W = W')
    (h5 : ∀ W, Calls Try.prog 10 #[.int .i64 p, .int .i64 b, .int .i64 a, .int .i64 b] W fun e W' => e = .returned (.tuple #[.int .i64 t, .int .i64 0]) ∧ W = W')
    (s0 : 0 ≤ s) (s1 : (0 < r ∧ 0 < s) ∨ (r ≤ 0 ∧ s ≤ 0)) (t0 : 0 ≤ t) (t1 : x = n ∨ (x < n ∧ age < k ∧ 0 < t) ∨ (x < n ∧ k ≤ age ∧ t ≤ 0)) :
    Calls Try.prog 7 #[.int .u8 live, .int .u8 more, .int .u8 blocks, .int .u16 age, .int .u16 older] w (Fresh (.bool true) w) := by
  have H1 := Lib.hid h1
  have H2 := Lib.hid h2
  have H3 := Lib.hid h3
  have H4 := Lib.hid h4
  have H5 := Lib.hid h5
  clear h1 h2 h3 h4 h5
  obtain ⟨l0, l1⟩ := lw
  obtain ⟨m0, m1⟩ := mw
  obtain ⟨b0, b1⟩ := bw
  obtain ⟨a0, a1⟩ := aw
  obtain ⟨o0, o1⟩ := ow
  have z1 : ¬ n + 1 = 0 := by omega
  have z2 : ¬ n + 1 - x = 0 := by omega
  have e1 : (x == n) = true ∧ (n ≤ x) ∨ (x == n) = false ∧ ((age < k ∧ 0 < t) ∨ (k ≤ age ∧ decide (0 < t) = false)) := by
    rcases t1 with h | ⟨h, h'⟩ | ⟨h, h'⟩
    · exact .inl ⟨by simp [h], by omega⟩
    · exact .inr ⟨by simp; omega, .inl h'⟩
    · exact .inr ⟨by simp; omega, .inr ⟨h'.1, by simp; omega⟩⟩
  clear t1
  rcases hk with ⟨hk, rfl⟩ | ⟨hk, rfl⟩
  all_goals
    rcases s1 with ⟨s1, s2⟩ | ⟨s1, s2⟩
    all_goals
      rcases e1 with ⟨e1, _⟩ | ⟨e1, ⟨t1, t2⟩ | ⟨t1, t2⟩⟩
      all_goals
        try (exfalso; omega)
        all_goals
          (go_enter Try.func7, Try.ntmps7
           go_wp2_with fail
           with_reducible refine (H1.out _).mono ?_
           rintro e w' ⟨rfl, rfl⟩
           go_wp2_with fail
           with_reducible refine (H2.out _).mono ?_
           rintro e w' ⟨rfl, rfl⟩
           go_wp2_with fail
           with_reducible refine (H3.out _).mono ?_
           rintro e w' ⟨rfl, rfl⟩
           go_wp2_with fail
           with_reducible refine (H4.out _).mono ?_
           rintro e w' ⟨rfl, rfl⟩
           go_wp2_with fail
           with_reducible refine (H5.out _).mono ?_
           rintro e w' ⟨rfl, rfl⟩
           go_wp2_with fail
           refine (awake_any _).mono ?_
           rintro e w' ⟨rfl, hb⟩
           go_wp2
           go_ret
           exact ⟨rfl, hb⟩)

set_option linter.unusedVariables false in
theorem walk (w : World) (a0 : Int) (w0 : (Lit.int .u8 a0).wf = true) (a1 : Int) (w1 : (Lit.int .u8 a1).wf = true) (a2 : Int) (w2 : (Lit.int .u8 a2).wf = true) (a3 : Int) (w3 : (Lit.int .u16 a3).wf = true) (a4 : Int) (w4 : (Lit.int .u16 a4).wf = true) :
    Calls Try.prog 7 #[.int .u8 a0, .int .u8 a1, .int .u8 a2, .int .u16 a3, .int .u16 a4] w (Fresh (.bool true) w) := by
  have b0 := bounds_u8 w0
  have b1 := bounds_u8 w1
  have b2 := bounds_u8 w2
  have b3 := bounds_u16 w3
  have b4 := bounds_u16 w4
  obtain ⟨n, hn⟩ : ∃ n, 2 + a2 % 15 = n := ⟨_, rfl⟩
  have n0 : 2 ≤ n := by omega
  have n1 : n ≤ 16 := by omega
  obtain ⟨x, hx⟩ : ∃ x, a0 % (n + 1) = x := ⟨_, rfl⟩
  have x0 : 0 ≤ x := by rw [← hx]; exact Int.emod_nonneg _ (by omega)
  have x1 : x < n + 1 := by rw [← hx]; exact Int.emod_lt_of_pos _ (by omega)
  obtain ⟨r, hr⟩ : ∃ r, a1 % (n + 1 - x) = r := ⟨_, rfl⟩
  have r0 : 0 ≤ r := by rw [← hr]; exact Int.emod_nonneg _ (by omega)
  have r1 : r < n + 1 - x := by rw [← hr]; exact Int.emod_lt_of_pos _ (by omega)
  obtain ⟨k, hk⟩ : ∃ k, (a3 < a4 ∧ k = a4) ∨ (a4 ≤ a3 ∧ k = a3) := by
    by_cases h : a3 < a4
    · exact ⟨a4, .inl ⟨h, rfl⟩⟩
    · exact ⟨a3, .inr ⟨by omega, rfl⟩⟩
  have k0 : a3 ≤ k := by omega
  have k1 : k ≤ 65535 := by omega
  have e := emptier (n := n) (x := x) (y := x + r) (g := a3) n0 (by omega) (by omega)
  have d := elder (n := n) (x := x) (g := a3) (k := k) x0 (by omega) n0 k0
  have f1 := fit_of (n := n) (x := x) (g := a3) x0 (by omega) n0 n1 (by omega) (by omega)
  have f2 := fit_of (n := n) (x := x + r) (g := a3) (by omega) (by omega) n0 n1 (by omega) (by omega)
  have f3 := fit_of (n := n) (x := x) (g := k) x0 (by omega) n0 n1 (by omega) k1
  refine text a0 a1 a2 a3 a4 n x r k _ _ _ _ _ _ w (by omega) (by omega) (by omega) (by omega) (by omega) hn hx hr n0 n1 x0 (by omega) r0 (by omega) hk
    (fun W => score_yes _ _ _ _ ⟨n0, n1, x0, by omega, by omega, by omega⟩) (fun W => score_yes _ _ _ _ ⟨n0, n1, by omega, by omega, by omega, by omega⟩) (fun W => score_yes _ _ _ _ ⟨n0, n1, x0, by omega, by omega, by omega⟩)
    (fun W => compare_yes _ _ _ _ _ f1 f2) (fun W => compare_yes _ _ _ _ _ f3 f1) e.1 ?_ d.1 ?_
  · by_cases h : 0 < r
    · exact .inl ⟨h, e.2.1 (by omega)⟩
    · exact .inr ⟨by omega, e.2.2 (by omega)⟩
  · by_cases h : x = n
    · exact .inl h
    · by_cases h2 : a3 < k
      · exact .inr (.inl ⟨by omega, h2, d.2.1 (by omega) h2⟩)
      · exact .inr (.inr ⟨by omega, by omega, d.2.2 (by omega)⟩)

/-! ### the law's end -/
set_option linter.unusedVariables false
theorem own : ownKnob Try.prog.godebug = none := by kernel_rfl
theorem laidOut : laidOutB Try.prog = true := by kernel_rfl
set_option maxRecDepth 100000 in
theorem lifted (os : Os) (started : os.Started) (H : Type) (enc : TypeId × Value → H) :
    ReturnsInHanded {} Try.checked os 7 .any (Rows.ratioWorthSpec.pre6 enc Try.prog Try.f7 Rows.ratioWorthRow.domain false) (Rows.ratioWorthSpec.post enc Try.prog Try.f7 false true false false) := by
  refine returnsInHanded_of_change_sized (C := Try.checked) own started (by kernel_rfl) Try.func7
    (ChangeSpec.witness6 (enc := enc) (C := Try.checked) false ⟨#[], #[.int .u8 0, .int .u8 0, .int .u8 0, .int .u16 0, .int .u16 0], []⟩ 8 (by kernel_rfl) (by kernel_rfl) (by kernel_rfl) (by kernel_rfl)) ?_
  intro W base args ds gs before hval0 hW _ hsz0 _
  have hsz : (DataW.weightsEach Try.prog (Try.f7.params.toList ++ Rows.ratioWorthSpec.plain.varTypes Try.prog) (ds ++ gs)).all (· ≤ reachBytes) = true := hsz0
  clear hsz0
  have hval : ∀ (j : Nat) t v, Try.f7.params[j]? = some t → args[j]? = some v → Value.okWide Try.prog W .any base t v := hval0
  have hW' := hW
  obtain ⟨p, q, hA0, hV, rfl, _, _⟩ := hW
  have hA : DataW.TrodAll enc Try.prog W 0 (fun _ => true) true Try.f7.params.toList args.toList ds p := hA0
  rw [Try.params7] at hA hval hsz
  obtain ⟨v0, vs0, d0, ds0, p0, q0, hargs, rfl, rfl, h0, r0⟩ := trodAll_cons hA
  obtain ⟨v1, vs1, d1, ds1, p1, q1, rfl, rfl, rfl, h1, r1⟩ := trodAll_cons r0
  obtain ⟨v2, vs2, d2, ds2, p2, q2, rfl, rfl, rfl, h2, r2⟩ := trodAll_cons r1
  obtain ⟨v3, vs3, d3, ds3, p3, q3, rfl, rfl, rfl, h3, r3⟩ := trodAll_cons r2
  obtain ⟨v4, vs4, d4, ds4, p4, q4, rfl, rfl, rfl, h4, r4⟩ := trodAll_cons r3
  obtain ⟨rfl, rfl, rfl⟩ := trodAll_nil r4
  obtain rfl : args = #[v0, v1, v2, v3, v4] := by cases args; simp_all
  obtain ⟨rfl, rfl⟩ := trodVars_none hV
  clear hA0 hval0
  have k0 := h0
  obtain ⟨a0, rfl, rfl, rfl, w0⟩ := open_int Try.underlying5 (hval 0 5 v0 rfl rfl) h0
  have k1 := h1
  obtain ⟨a1, rfl, rfl, rfl, w1⟩ := open_int Try.underlying5 (hval 1 5 v1 rfl rfl) h1
  have k2 := h2
  obtain ⟨a2, rfl, rfl, rfl, w2⟩ := open_int Try.underlying5 (hval 2 5 v2 rfl rfl) h2
  have k3 := h3
  obtain ⟨a3, rfl, rfl, rfl, w3⟩ := open_int Try.underlying34 (hval 3 34 v3 rfl rfl) h3
  have k4 := h4
  obtain ⟨a4, rfl, rfl, rfl, w4⟩ := open_int Try.underlying34 (hval 4 34 v4 rfl rfl) h4
  simp only [List.append_nil] at hW'
  refine (walk W a0 w0 a1 w1 a2 w2 a3 w3 a4 w4).mono fun e W' ⟨he, hb⟩ => ?_
  subst he
  exact ⟨_, rfl, _, _, _, [], _, [], hW', (trodAll_cons_mk (shut_bool Try.underlying4 _) trodAll_mk0), (trodAll_cons_mk (Below.trod laidOut (by kernel_rfl) (of_decide_eq_true (by kernel_rfl)) k0 hb (fun x hx => (by cases hx))) (trodAll_cons_mk (Below.trod laidOut (by kernel_rfl) (of_decide_eq_true (by kernel_rfl)) k1 hb (fun x hx => (by cases hx))) (trodAll_cons_mk (Below.trod laidOut (by kernel_rfl) (of_decide_eq_true (by kernel_rfl)) k2 hb (fun x hx => (by cases hx))) (trodAll_cons_mk (Below.trod laidOut (by kernel_rfl) (of_decide_eq_true (by kernel_rfl)) k3 hb (fun x hx => (by cases hx))) (trodAll_cons_mk (Below.trod laidOut (by kernel_rfl) (of_decide_eq_true (by kernel_rfl)) k4 hb (fun x hx => (by cases hx))) trodAll_mk0))))), rfl, hb.frame _, fun h => by cases h⟩

theorem over : Rows.ratioWorthRow.holds Try.pinned (OpenSpec.ofChange Rows.ratioWorthSpec) :=
  OpenClaim.holds_of_wide 7 Try.f7 rfl rfl rfl rfl rfl rfl rfl ⟨rfl, rfl, rfl, rfl, rfl⟩ rfl rfl rfl rfl rfl (by kernel_rfl) Try.func7 (by kernel_rfl)
    (of_decide_eq_true (by kernel_rfl)) (by unfold Func.isWrapper; first | (rw [if_pos (by decide +kernel)]; kernel_rfl) | (rw [if_neg (by decide +kernel)]; exact ⟨rfl, rfl⟩))
    (fun os started H enc _ => lifted os started H enc)

theorem proved : Rows.RatioWorthSaid := over
#print axioms proved
end Go.Proofs.Ytdebhebleojdbaa.ratioWorth
