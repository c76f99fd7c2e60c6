/- A device of any geometry has the sectors, the capacity and the bound that the document says, and a geometry that is none is refused: for every geometry, position and window, no condition. -/
import Derived.Test.YthkeedgjhkpgjaaPlatRef
import Derived.Lib.SmallJoins
namespace Go.Proofs.Ythkeedgjhkpgjaa.platSizes
open Go.ChangeShapes Go.WideShapes Go.ChangeAt Go.RowKit

/-- A geometry that is none. -/
theorem walk_no (w : World) (s b p n : Int) (g : ¬ Geo s b) :
    Calls Try.prog 3 #[.agg #[.int .i64 s, .int .i64 b], .int .i64 p, .int .i64 n] w (Fresh (.bool true) w) := by
  have G := Lib.hid g
  clear g
  go_enter Try.func3, Try.ntmps3
  go_wp2_with fail
  refine (sectors_bad s b _ G.out).mono ?_
  rintro e w1 ⟨rfl, hb⟩
  have c0 := geo_s hb
  have c1 := geo_b hb
  have HB := Lib.hid (geo_below hb)
  clear hb
  go_wp2_with fail
  refine (capacity_bad s b _ G.out).mono ?_
  rintro e w2 ⟨rfl, hb⟩
  replace c0 := cell_later hb c0
  replace c1 := cell_later hb c1
  replace HB := Lib.hid (HB.out.trans (hb.mono HB.out.size))
  clear hb
  go_wp2_with fail
  refine (bound_bad s b p n _ G.out).mono ?_
  rintro e w3 ⟨rfl, hb⟩
  replace c0 := cell_later hb c0
  replace c1 := cell_later hb c1
  replace HB := Lib.hid (HB.out.trans (hb.mono HB.out.size))
  clear hb
  go_wp2_with fail
  refine (may_no s b _ G.out).mono ?_
  rintro e w4 ⟨rfl, hb⟩
  replace c0 := cell_later hb c0
  replace c1 := cell_later hb c1
  replace HB := Lib.hid (HB.out.trans (hb.mono HB.out.size))
  clear hb
  go_wp2_with fail
  refine (awake_any _).mono ?_
  rintro e w5 ⟨rfl, hb⟩
  replace c0 := cell_later hb c0
  replace c1 := cell_later hb c1
  replace HB := Lib.hid (HB.out.trans (hb.mono HB.out.size))
  clear hb
  go_wp2_with fail
  refine (check_bad s b _ G.out).mono ?_
  rintro e w6 ⟨rfl, hb⟩
  replace HB := Lib.hid (HB.out.trans (hb.mono HB.out.size))
  clear hb c0 c1
  go_wp2
  go_ret
  exact ⟨rfl, HB.out⟩

/-- A geometry that may be, with an answer of Bound that is known. -/
theorem walk_ok (w : World) (s b p n x y : Int) (g : Geo s b) (hx : (y = 1 ∧ x = 0 ∧ ¬ ((0 ≤ p ∧ p ≤ 15) ∧ 1 ≤ n ∧ n ≤ 4096)) ∨ (y = 0 ∧ x = 2 * n * (p + 1) * (s * b + 2) ∧ (0 ≤ p ∧ p ≤ 15) ∧ 1 ≤ n ∧ n ≤ 4096))
    (hbd : ∀ W, Calls Try.prog 8 #[.agg #[.int .i64 s, .int .i64 b], .int .i64 p, .int .i64 n] W (Fresh (.tuple #[.int .i64 x, .int .i64 y]) W)) :
    Calls Try.prog 3 #[.agg #[.int .i64 s, .int .i64 b], .int .i64 p, .int .i64 n] w (Fresh (.bool true) w) := by
  have hm : s * b ≤ 24 * 16 := Int.mul_le_mul (by have := g.1; omega) g.2.2 (by have := g.2; omega) (by omega)
  have hm0 : 0 ≤ s * b := Int.mul_nonneg (by have := g.1; omega) (by have := g.2; omega)
  obtain ⟨h1, h2⟩ := holds_in g
  obtain ⟨k, hk⟩ : ∃ k : Int, k = (s - 4) * b := ⟨_, rfl⟩
  have hcap : ∀ W, Calls Try.prog 7 #[.agg #[.int .i64 s, .int .i64 b]] W (Fresh (.tuple #[.int .i64 k, .int .i64 0]) W) := fun W => by rw [hk]; exact capacity_is s b W g
  have href : ∀ W, Calls Try.prog 12 #[.agg #[.int .i64 s, .int .i64 b]] W (Fresh (.int .i64 k) W) := fun W => by rw [hk]; exact refCapacity_ok s b W g
  rw [← hk] at h1 h2
  have h3 : ¬ k < 4 := by omega
  have HX := Lib.hid hx
  have G := Lib.hid g
  clear g hk hx
  go_enter Try.func3, Try.ntmps3
  go_wp2_with fail
  refine (sectors_ok s b _ G.out).mono ?_
  rintro e w1 ⟨rfl, hb⟩
  have c0 := geo_s hb
  have c1 := geo_b hb
  have HB := Lib.hid (geo_below hb)
  clear hb
  go_wp2_with fail
  refine (hcap _).mono ?_
  rintro e w2 ⟨rfl, hb⟩
  replace c0 := cell_later hb c0
  replace c1 := cell_later hb c1
  replace HB := Lib.hid (HB.out.trans (hb.mono HB.out.size))
  clear hb
  go_wp2_with fail
  refine (hbd _).mono ?_
  rintro e w3 ⟨rfl, hb⟩
  replace c0 := cell_later hb c0
  replace c1 := cell_later hb c1
  replace HB := Lib.hid (HB.out.trans (hb.mono HB.out.size))
  clear hb
  go_wp2_with fail
  refine (may_ok s b _ G.out).mono ?_
  rintro e w4 ⟨rfl, hb⟩
  replace c0 := cell_later hb c0
  replace c1 := cell_later hb c1
  replace HB := Lib.hid (HB.out.trans (hb.mono HB.out.size))
  clear hb
  go_wp2_with fail
  refine (awake_any _).mono ?_
  rintro e w5 ⟨rfl, hb⟩
  replace c0 := cell_later hb c0
  replace c1 := cell_later hb c1
  replace HB := Lib.hid (HB.out.trans (hb.mono HB.out.size))
  clear hb
  go_wp2_with fail
  refine (check_ok s b _ G.out).mono ?_
  rintro e w6 ⟨rfl, hb⟩
  replace c0 := cell_later hb c0
  replace c1 := cell_later hb c1
  replace HB := Lib.hid (HB.out.trans (hb.mono HB.out.size))
  clear hb
  go_wp2_with fail
  refine (href _).mono ?_
  rintro e w7 ⟨rfl, hb⟩
  replace c0 := cell_later hb c0
  replace c1 := cell_later hb c1
  replace HB := Lib.hid (HB.out.trans (hb.mono HB.out.size))
  clear hb
  rcases HX.out with ⟨rfl, rfl, h⟩ | ⟨rfl, hx, ⟨p0, p1⟩, n0, n1⟩
  · by_cases q1 : p < 0
    · clear h
      go_wp2
      go_ret
      exact ⟨rfl, HB.out⟩
    by_cases q2 : 15 < p
    · clear h
      go_wp2
      go_ret
      exact ⟨rfl, HB.out⟩
    by_cases q3 : n < 1
    · clear h
      go_wp2
      go_ret
      exact ⟨rfl, HB.out⟩
    have q4 : 4096 < n := by omega
    clear h
    go_wp2
    go_ret
    exact ⟨rfl, HB.out⟩
  · subst hx
    have hk : 2 * n * (p + 1) ≤ 8192 * 16 := Int.mul_le_mul (by omega) (by omega) (by omega) (by omega)
    have hk0 : 0 ≤ 2 * n * (p + 1) := Int.mul_nonneg (by omega) (by omega)
    have hj : 2 * n * (p + 1) * (s * b + 2) ≤ 131072 * 386 := Int.mul_le_mul (by omega) (by omega) (by omega) (by omega)
    have hj0 : 0 ≤ 2 * n * (p + 1) * (s * b + 2) := Int.mul_nonneg (by omega) (by omega)
    go_wp2
    go_ret
    exact ⟨rfl, HB.out⟩

set_option linter.unusedVariables false in
theorem walk (w : World) (a0x0 a0x1 : Int) (w0x0 : (Lit.int .i64 a0x0).wf = true) (w0x1 : (Lit.int .i64 a0x1).wf = true) (a1 : Int) (w1 : (Lit.int .i64 a1).wf = true) (a2 : Int) (w2 : (Lit.int .i64 a2).wf = true) :
    Calls Try.prog 3 #[.agg #[.int .i64 a0x0, .int .i64 a0x1], .int .i64 a1, .int .i64 a2] w (Fresh (.bool true) w) := by
  by_cases g : Geo a0x0 a0x1
  · by_cases h : (0 ≤ a1 ∧ a1 ≤ 15) ∧ 1 ≤ a2 ∧ a2 ≤ 4096
    · exact walk_ok w _ _ _ _ _ _ g (.inr ⟨rfl, rfl, h⟩) fun W => bound_ok _ _ _ _ W g h.1.1 h.1.2 h.2.1 h.2.2
    · exact walk_ok w _ _ _ _ _ _ g (.inl ⟨rfl, rfl, h⟩) fun W => bound_arg _ _ _ _ W g h
  · exact walk_no w _ _ _ _ g

/-! ### the law's end -/
set_option linter.unusedVariables false
theorem own : ownKnob Try.prog.godebug = none := by kernel_rfl
theorem laidOut : laidOutB Try.prog = true := by kernel_rfl
set_option maxRecDepth 100000 in

theorem lifted (os : Os) (started : os.Started) (H : Type) (enc : TypeId × Value → H) :
    ReturnsInHanded {} Try.checked os 3 .any (Rows.platSizesSpec.pre6 enc Try.prog Try.f3 Rows.platSizesRow.domain false) (Rows.platSizesSpec.post enc Try.prog Try.f3 false true false false) := by
  refine returnsInHanded_of_change_sized (C := Try.checked) own started (by kernel_rfl) Try.func3
    (ChangeSpec.witness6 (enc := enc) (C := Try.checked) false ⟨#[], #[.agg #[.int .i64 0, .int .i64 0], .int .i64 0, .int .i64 0], []⟩ 8 (by kernel_rfl) (by kernel_rfl) (by kernel_rfl) (by kernel_rfl)) ?_
  intro W base args ds gs before hval0 hW _ hsz0 _
  have hsz : (DataW.weightsEach Try.prog (Try.f3.params.toList ++ Rows.platSizesSpec.plain.varTypes Try.prog) (ds ++ gs)).all (· ≤ reachBytes) = true := hsz0
  clear hsz0
  have hval : ∀ (j : Nat) t v, Try.f3.params[j]? = some t → args[j]? = some v → Value.okWide Try.prog W .any base t v := hval0
  have hW' := hW
  obtain ⟨p, q, hA0, hV, rfl, _, _⟩ := hW
  have hA : DataW.TrodAll enc Try.prog W 0 (fun _ => true) true Try.f3.params.toList args.toList ds p := hA0
  rw [Try.params3] at hA hval hsz
  obtain ⟨v0, vs0, d0, ds0, p0, q0, hargs, rfl, rfl, h0, u0⟩ := trodAll_cons hA
  obtain ⟨v1, vs1, d1, ds1, p1, q1, rfl, rfl, rfl, h1, u1⟩ := trodAll_cons u0
  obtain ⟨v2, vs2, d2, ds2, p2, q2, rfl, rfl, rfl, h2, u2⟩ := trodAll_cons u1
  obtain ⟨rfl, rfl, rfl⟩ := trodAll_nil u2
  obtain rfl : args = #[v0, v1, v2] := by cases args; simp_all
  obtain ⟨rfl, rfl⟩ := trodVars_none hV
  clear hA0 hval0
  have k0 := h0
  obtain ⟨c0x0, c0x1, y0x0, y0x1, m0, rfl, rfl, rfl, t0x0, t0x1⟩ := Go.Joins.open_agg2 Try.underlying23 (by kernel_rfl) (by kernel_rfl) (hval 0 23 v0 rfl rfl) h0
  obtain ⟨a0x0, e0x0, rfl, w0x0⟩ := DataW.trod_int Try.underlying3 t0x0
  simp at e0x0
  subst e0x0
  obtain ⟨a0x1, e0x1, rfl, w0x1⟩ := DataW.trod_int Try.underlying3 t0x1
  simp at e0x1
  subst e0x1
  have k1 := h1
  obtain ⟨a1, rfl, rfl, rfl, w1⟩ := open_int Try.underlying3 (hval 1 3 v1 rfl rfl) h1
  have k2 := h2
  obtain ⟨a2, rfl, rfl, rfl, w2⟩ := open_int Try.underlying3 (hval 2 3 v2 rfl rfl) h2
  simp only [List.append_nil] at hW'
  refine (walk W a0x0 a0x1 w0x0 w0x1 a1 w1 a2 w2).mono fun e W' ⟨he, hb⟩ => ?_
  subst he
  exact ⟨_, rfl, _, _, _, [], _, [], hW', (trodAll_cons_mk (shut_bool Try.underlying4 _) trodAll_mk0), (trodAll_cons_mk (Below.trod laidOut (by kernel_rfl) (of_decide_eq_true (by kernel_rfl)) k0 hb (fun x hx => (by simp at hx))) (trodAll_cons_mk (Below.trod laidOut (by kernel_rfl) (of_decide_eq_true (by kernel_rfl)) k1 hb (fun x hx => (by cases hx))) (trodAll_cons_mk (Below.trod laidOut (by kernel_rfl) (of_decide_eq_true (by kernel_rfl)) k2 hb (fun x hx => (by cases hx))) trodAll_mk0))), rfl, hb.frame _, fun h => by cases h⟩

theorem over : Rows.platSizesRow.holds Try.pinned (OpenSpec.ofChange Rows.platSizesSpec) :=
  OpenClaim.holds_of_wide 3 Try.f3 rfl rfl rfl rfl rfl rfl rfl ⟨rfl, rfl, rfl, rfl, rfl⟩ rfl rfl rfl rfl rfl (by kernel_rfl) Try.func3 (by kernel_rfl)
    (of_decide_eq_true (by kernel_rfl)) (by unfold Func.isWrapper; first | (rw [if_pos (by decide +kernel)]; kernel_rfl) | (rw [if_neg (by decide +kernel)]; exact ⟨rfl, rfl⟩))
    (fun os started H enc _ => lifted os started H enc)

theorem proved : Rows.PlatSizesSaid := over
#print axioms proved
end Go.Proofs.Ythkeedgjhkpgjaa.platSizes
