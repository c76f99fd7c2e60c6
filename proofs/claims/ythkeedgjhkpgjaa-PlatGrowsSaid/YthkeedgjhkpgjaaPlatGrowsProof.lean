/- A geometry with one segment more holds as many blocks more as a segment has; with more blocks to a segment it holds more; and each holds some: for every geometry, no condition. -/
import Derived.Test.YthkeedgjhkpgjaaPlatRef
import Derived.Lib.SmallJoins
namespace Go.Proofs.Ythkeedgjhkpgjaa.platGrows
open Go.ChangeShapes Go.WideShapes Go.ChangeAt Go.RowKit

theorem walk_out (w : World) (s b : Int) (g : ¬ ((6 ≤ s ∧ s ≤ 23) ∧ 2 ≤ b ∧ b ≤ 15)) :
    Calls Try.prog 4 #[.agg #[.int .i64 s, .int .i64 b]] w (Fresh (.bool true) w) := by
  have hbox : Below w.heap.size w (w.alloc (.cells #[.int .i64 s, .int .i64 b] 23)) := (Below.refl _ _).alloc (Nat.le_refl _) _
  have HB := Lib.hid hbox
  clear hbox
  by_cases g1 : 24 ≤ s
  · clear g
    go_enter Try.func4, Try.ntmps4
    go_wp2_with fail
    refine (awake_any _).mono ?_
    rintro e w1 ⟨rfl, hb⟩
    replace HB := Lib.hid (HB.out.trans (hb.mono HB.out.size))
    clear hb
    go_wp2
    go_ret
    exact ⟨rfl, HB.out⟩
  by_cases g2 : 16 ≤ b
  · clear g
    go_enter Try.func4, Try.ntmps4
    go_wp2_with fail
    refine (awake_any _).mono ?_
    rintro e w1 ⟨rfl, hb⟩
    replace HB := Lib.hid (HB.out.trans (hb.mono HB.out.size))
    clear hb
    go_wp2
    go_ret
    exact ⟨rfl, HB.out⟩
  by_cases g3 : s < 6
  · clear g
    go_enter Try.func4, Try.ntmps4
    go_wp2_with fail
    refine (awake_any _).mono ?_
    rintro e w1 ⟨rfl, hb⟩
    replace HB := Lib.hid (HB.out.trans (hb.mono HB.out.size))
    clear hb
    go_wp2
    go_ret
    exact ⟨rfl, HB.out⟩
  have g4 : b < 2 := by omega
  clear g
  go_enter Try.func4, Try.ntmps4
  go_wp2_with fail
  refine (awake_any _).mono ?_
  rintro e w1 ⟨rfl, hb⟩
  replace HB := Lib.hid (HB.out.trans (hb.mono HB.out.size))
  clear hb
  go_wp2
  go_ret
  exact ⟨rfl, HB.out⟩

theorem walk_in (w : World) (s b : Int) (g : (6 ≤ s ∧ s ≤ 23) ∧ 2 ≤ b ∧ b ≤ 15) :
    Calls Try.prog 4 #[.agg #[.int .i64 s, .int .i64 b]] w (Fresh (.bool true) w) := by
  have gA : Geo s b := ⟨⟨g.1.1, by omega⟩, g.2.1, by omega⟩
  have gB : Geo (s + 1) b := ⟨⟨by omega, by omega⟩, g.2.1, by omega⟩
  have gC : Geo s (b + 1) := ⟨⟨g.1.1, by omega⟩, by omega, by omega⟩
  obtain ⟨x, hx⟩ : ∃ x : Int, x = (s - 4) * b := ⟨_, rfl⟩
  obtain ⟨y, hy⟩ : ∃ y : Int, y = (s - 4) * (b + 1) := ⟨_, rfl⟩
  have hA : ∀ W, Calls Try.prog 7 #[.agg #[.int .i64 s, .int .i64 b]] W (Fresh (.tuple #[.int .i64 x, .int .i64 0]) W) := fun W => by rw [hx]; exact capacity_is s b W gA
  have hB : ∀ W, Calls Try.prog 7 #[.agg #[.int .i64 (s + 1), .int .i64 b]] W (Fresh (.tuple #[.int .i64 (x + b), .int .i64 0]) W) := fun W => by
    have e : x + b = (s + 1 - 4) * b := by rw [hx]; grind
    rw [e]; exact capacity_is (s + 1) b W gB
  have hC : ∀ W, Calls Try.prog 7 #[.agg #[.int .i64 s, .int .i64 (b + 1)]] W (Fresh (.tuple #[.int .i64 y, .int .i64 0]) W) := fun W => by rw [hy]; exact capacity_is s (b + 1) W gC
  have x1 := (holds_in gA).1
  have x2 := (holds_in gA).2
  have hxy : y = x + (s - 4) := by rw [hx, hy]; grind
  rw [← hx] at x1 x2
  have x3 : x < y := by omega
  have x4 : 0 < x := by omega
  obtain ⟨⟨g1, g2⟩, g3, g4⟩ := g
  have p1 : ¬ 24 ≤ s := by omega
  have p2 : ¬ 16 ≤ b := by omega
  have hbox : Below w.heap.size w (w.alloc (.cells #[.int .i64 s, .int .i64 b] 23)) := (Below.refl _ _).alloc (Nat.le_refl _) _
  have HB := Lib.hid hbox
  clear hbox gA gB gC hx hy hxy
  go_enter Try.func4, Try.ntmps4
  go_wp2_with fail
  refine (hA _).mono ?_
  rintro e w1 ⟨rfl, hb⟩
  have c0 := geo_s hb
  have c1 := geo_b hb
  replace HB := Lib.hid (HB.out.trans (hb.mono HB.out.size))
  clear hb
  go_wp2_with fail
  refine (hB _).mono ?_
  rintro e w2 ⟨rfl, hb⟩
  replace c0 := cell_later hb c0
  replace c1 := cell_later hb c1
  replace HB := Lib.hid (HB.out.trans (hb.mono HB.out.size))
  clear hb
  go_wp2_with fail
  refine (hC _).mono ?_
  rintro e w3 ⟨rfl, hb⟩
  replace c0 := cell_later hb c0
  replace c1 := cell_later hb c1
  replace HB := Lib.hid (HB.out.trans (hb.mono HB.out.size))
  clear hb
  go_wp2_with fail
  refine (awake_any _).mono ?_
  rintro e w4 ⟨rfl, hb⟩
  replace c0 := cell_later hb c0
  replace c1 := cell_later hb c1
  replace HB := Lib.hid (HB.out.trans (hb.mono HB.out.size))
  clear hb
  go_wp2
  go_ret
  exact ⟨rfl, HB.out⟩

set_option linter.unusedVariables false in
theorem walk (w : World) (a0x0 a0x1 : Int) (w0x0 : (Lit.int .i64 a0x0).wf = true) (w0x1 : (Lit.int .i64 a0x1).wf = true) :
    Calls Try.prog 4 #[.agg #[.int .i64 a0x0, .int .i64 a0x1]] w (Fresh (.bool true) w) := by
  by_cases g : (6 ≤ a0x0 ∧ a0x0 ≤ 23) ∧ 2 ≤ a0x1 ∧ a0x1 ≤ 15
  · exact walk_in w _ _ g
  · exact walk_out w _ _ g

/-! ### the law's end -/
set_option linter.unusedVariables false
theorem own : ownKnob Try.prog.godebug = none := by kernel_rfl
theorem laidOut : laidOutB Try.prog = true := by kernel_rfl
set_option maxRecDepth 100000 in

theorem lifted (os : Os) (started : os.Started) (H : Type) (enc : TypeId × Value → H) :
    ReturnsInHanded {} Try.checked os 4 .any (Rows.platGrowsSpec.pre6 enc Try.prog Try.f4 Rows.platGrowsRow.domain false) (Rows.platGrowsSpec.post enc Try.prog Try.f4 false true false false) := by
  refine returnsInHanded_of_change_sized (C := Try.checked) own started (by kernel_rfl) Try.func4
    (ChangeSpec.witness6 (enc := enc) (C := Try.checked) false ⟨#[], #[.agg #[.int .i64 0, .int .i64 0]], []⟩ 8 (by kernel_rfl) (by kernel_rfl) (by kernel_rfl) (by kernel_rfl)) ?_
  intro W base args ds gs before hval0 hW _ hsz0 _
  have hsz : (DataW.weightsEach Try.prog (Try.f4.params.toList ++ Rows.platGrowsSpec.plain.varTypes Try.prog) (ds ++ gs)).all (· ≤ reachBytes) = true := hsz0
  clear hsz0
  have hval : ∀ (j : Nat) t v, Try.f4.params[j]? = some t → args[j]? = some v → Value.okWide Try.prog W .any base t v := hval0
  have hW' := hW
  obtain ⟨p, q, hA0, hV, rfl, _, _⟩ := hW
  have hA : DataW.TrodAll enc Try.prog W 0 (fun _ => true) true Try.f4.params.toList args.toList ds p := hA0
  rw [Try.params4] at hA hval hsz
  obtain ⟨v0, vs0, d0, ds0, p0, q0, hargs, rfl, rfl, h0, u0⟩ := trodAll_cons hA
  obtain ⟨rfl, rfl, rfl⟩ := trodAll_nil u0
  obtain rfl : args = #[v0] := by cases args; simp_all
  obtain ⟨rfl, rfl⟩ := trodVars_none hV
  clear hA0 hval0
  have k0 := h0
  obtain ⟨c0x0, c0x1, y0x0, y0x1, m0, rfl, rfl, rfl, t0x0, t0x1⟩ := Go.Joins.open_agg2 Try.underlying23 (by kernel_rfl) (by kernel_rfl) (hval 0 23 v0 rfl rfl) h0
  obtain ⟨a0x0, e0x0, rfl, w0x0⟩ := DataW.trod_int Try.underlying3 t0x0
  simp at e0x0
  subst e0x0
  obtain ⟨a0x1, e0x1, rfl, w0x1⟩ := DataW.trod_int Try.underlying3 t0x1
  simp at e0x1
  subst e0x1
  simp only [List.append_nil] at hW'
  refine (walk W a0x0 a0x1 w0x0 w0x1).mono fun e W' ⟨he, hb⟩ => ?_
  subst he
  exact ⟨_, rfl, _, _, _, [], _, [], hW', (trodAll_cons_mk (shut_bool Try.underlying4 _) trodAll_mk0), (trodAll_cons_mk (Below.trod laidOut (by kernel_rfl) (of_decide_eq_true (by kernel_rfl)) k0 hb (fun x hx => (by simp at hx))) trodAll_mk0), rfl, hb.frame _, fun h => by cases h⟩

theorem over : Rows.platGrowsRow.holds Try.pinned (OpenSpec.ofChange Rows.platGrowsSpec) :=
  OpenClaim.holds_of_wide 4 Try.f4 rfl rfl rfl rfl rfl rfl rfl ⟨rfl, rfl, rfl, rfl, rfl⟩ rfl rfl rfl rfl rfl (by kernel_rfl) Try.func4 (by kernel_rfl)
    (of_decide_eq_true (by kernel_rfl)) (by unfold Func.isWrapper; first | (rw [if_pos (by decide +kernel)]; kernel_rfl) | (rw [if_neg (by decide +kernel)]; exact ⟨rfl, rfl⟩))
    (fun os started H enc _ => lifted os started H enc)

theorem proved : Rows.PlatGrowsSaid := over
#print axioms proved
end Go.Proofs.Ythkeedgjhkpgjaa.platGrows
