/- Of any quotients the first of the greatest is found, as the document says it. For every input, no condition. -/
import Derived.Test.YtdebhebleojdbaaRatioAwake
import Derived.Test.YtdebhebleojdbaaRatioRefBest
namespace Go.Proofs.Ytdebhebleojdbaa.ratioBest
open Go.ChangeShapes Go.WideShapes Go.ChangeAt Go.RowKit

/-- Two slices that came in: what Best and the document answer. -/
theorem both (W : World) (A B : Option Addr) (n m c d : Nat) (Z Y : List Int) (s : IntsIn W .i64 A n c Z) (t : IntsIn W .i64 B m d Y) :
    ∃ x e : Int, (∀ k, Calls Try.prog 15 #[.slice A n c, .slice B m d] (W.drewN k) (Drawn (.tuple #[.int .i64 x, .int .i64 e]) (W.drewN k))) ∧
      (∀ k, Calls Try.prog 16 #[.slice A n c, .slice B m d] (W.drewN k) (Drawn (.tuple #[.int .i64 x, .int .i64 e]) (W.drewN k))) := by
  have b1 := s.cap
  have b2 := s.most
  have b3 := t.cap
  have b4 := t.most
  by_cases h : n ≠ m ∨ n = 0 ∨ 4096 < n
  · exact ⟨0, 1, fun k => drawn_of_same (best_err A B n m c d _ (by omega) (by omega) h), fun k => drawn_of_same (refBest_err A B n m c d _ (by omega) (by omega) h)⟩
  · obtain rfl : n = m := by omega
    have hn : 0 < n := by omega
    have hn' : n ≤ 4096 := by omega
    obtain ⟨a, rfl⟩ := s.addr hn
    obtain ⟨b, rfl⟩ := t.addr hn
    obtain ⟨j, hj, hf, hno⟩ := fit_till (fun i => Z.getD i 0) (fun i => Y.getD i 0) n
    exact ⟨_, _, fun k => best_any _ _ a b n j c d _ hn hn' hj (fun i hi => s.cell a rfl i hi) (fun i hi => t.cell b rfl i hi) hf hno,
      fun k => refBest_any _ _ a b n j c d _ hn hn' hj (fun i hi => s.cell a rfl i hi) (fun i hi => t.cell b rfl i hi) hf hno⟩

set_option linter.unusedVariables false in
theorem walk (w : World) (A0 : Option Addr) (n0 c0 : Nat) (Z0 : List Int) (s0 : IntsIn w .i64 A0 n0 c0 Z0) (r0 : n0 * 8 ≤ 140737488351232) (A1 : Option Addr) (n1 c1 : Nat) (Z1 : List Int) (s1 : IntsIn w .i64 A1 n1 c1 Z1) (r1 : n1 * 8 ≤ 140737488351232) :
    Calls Try.prog 5 #[.slice A0 n0 c0, .slice A1 n1 c1] w (Fresh (.bool true) w) := by
  have b1 := s0.cap
  have b2 := s0.most
  have b3 := s1.cap
  have b4 := s1.most
  by_cases h0 : 40 < n0
  · by_cases h1 : 40 < n1
    · obtain ⟨x, e, hx, he⟩ := both w A0 A1 40 40 c0 c1 _ _ (s0.first (m := 40) (by omega)) (s1.first (m := 40) (by omega))
      have HX := Lib.hid hx
      have HE := Lib.hid he
      clear hx he s0 s1 r0 r1
      go_enter Try.func5, Try.ntmps5
      go_wp2
      go_quiet (fail)
      go_wp2_with fail
      with_reducible refine (HX.out _).mono ?_
      rintro e w' ⟨m, rfl, rfl⟩
      go_wp2_with fail
      with_reducible refine (HE.out _).mono ?_
      rintro e w' ⟨m2, rfl, rfl⟩
      go_wp2_with fail
      refine (awake_any _).mono ?_
      rintro e w' ⟨rfl, hb⟩
      go_wp2
      go_ret
      exact ⟨rfl, (below_drewN (Below.refl _ _) _).trans hb⟩
    · have h1' : decide (40 < n1) = false := by simp; omega
      obtain ⟨x, e, hx, he⟩ := both w A0 A1 n0 n1 c0 c1 _ _ s0 s1
      have hx0 : Calls Try.prog 15 #[.slice A0 n0 c0, .slice A1 n1 c1] w (Drawn (.tuple #[.int .i64 x, .int .i64 e]) w) := hx 0
      have HX := Lib.hid hx0
      have HE := Lib.hid he
      clear hx hx0 he s0 s1 r0 r1
      go_enter Try.func5, Try.ntmps5
      go_wp2_with fail
      with_reducible refine HX.out.mono ?_
      rintro e w' ⟨m, rfl, rfl⟩
      go_wp2_with fail
      with_reducible refine (HE.out _).mono ?_
      rintro e w' ⟨m2, rfl, rfl⟩
      go_wp2_with fail
      refine (awake_any _).mono ?_
      rintro e w' ⟨rfl, hb⟩
      go_wp2
      go_ret
      exact ⟨rfl, (below_drewN (Below.refl _ _) _).trans hb⟩
  · have h0' : decide (40 < n0) = false := by simp; omega
    obtain ⟨x, e, hx, he⟩ := both w A0 A1 n0 n1 c0 c1 _ _ s0 s1
    have hx0 : Calls Try.prog 15 #[.slice A0 n0 c0, .slice A1 n1 c1] w (Drawn (.tuple #[.int .i64 x, .int .i64 e]) w) := hx 0
    have HX := Lib.hid hx0
    have HE := Lib.hid he
    clear hx hx0 he s0 s1 r0 r1
    go_enter Try.func5, Try.ntmps5
    go_wp2_with fail
    with_reducible refine HX.out.mono ?_
    rintro e w' ⟨m, rfl, rfl⟩
    go_wp2_with fail
    with_reducible refine (HE.out _).mono ?_
    rintro e w' ⟨m2, rfl, rfl⟩
    go_wp2_with fail
    refine (awake_any _).mono ?_
    rintro e w' ⟨rfl, hb⟩
    go_wp2
    go_ret
    exact ⟨rfl, (below_drewN (Below.refl _ _) _).trans hb⟩

/-! ### the law's end -/
set_option linter.unusedVariables false
theorem own : ownKnob Try.prog.godebug = none := by kernel_rfl
theorem laidOut : laidOutB Try.prog = true := by kernel_rfl
set_option maxRecDepth 100000 in
theorem lifted (os : Os) (started : os.Started) (H : Type) (enc : TypeId × Value → H) :
    ReturnsInHanded {} Try.checked os 5 .any (Rows.ratioBestSpec.pre6 enc Try.prog Try.f5 Rows.ratioBestRow.domain false) (Rows.ratioBestSpec.post enc Try.prog Try.f5 false true false false) := by
  refine returnsInHanded_of_change_sized (C := Try.checked) own started (by kernel_rfl) Try.func5
    (ChangeSpec.witness6 (enc := enc) (C := Try.checked) false ⟨#[], #[.slice none 0 0, .slice none 0 0], []⟩ 8 (by kernel_rfl) (by kernel_rfl) (by kernel_rfl) (by kernel_rfl)) ?_
  intro W base args ds gs before hval0 hW _ hsz0 _
  have hsz : (DataW.weightsEach Try.prog (Try.f5.params.toList ++ Rows.ratioBestSpec.plain.varTypes Try.prog) (ds ++ gs)).all (· ≤ reachBytes) = true := hsz0
  clear hsz0
  have hval : ∀ (j : Nat) t v, Try.f5.params[j]? = some t → args[j]? = some v → Value.okWide Try.prog W .any base t v := hval0
  have hW' := hW
  obtain ⟨p, q, hA0, hV, rfl, _, _⟩ := hW
  have hA : DataW.TrodAll enc Try.prog W 0 (fun _ => true) true Try.f5.params.toList args.toList ds p := hA0
  rw [Try.params5] at hA hval hsz
  obtain ⟨v0, vs0, d0, ds0, p0, q0, hargs, rfl, rfl, h0, u0⟩ := trodAll_cons hA
  obtain ⟨v1, vs1, d1, ds1, p1, q1, rfl, rfl, rfl, h1, u1⟩ := trodAll_cons u0
  obtain ⟨rfl, rfl, rfl⟩ := trodAll_nil u1
  obtain rfl : args = #[v0, v1] := by cases args; simp_all
  obtain ⟨rfl, rfl⟩ := trodVars_none hV
  clear hA0 hval0
  obtain ⟨A0, n0, c0, rfl⟩ := okWide_slice Try.underlying30 (hval 0 30 v0 rfl rfl)
  have k0 := h0
  obtain ⟨Z0, s0, z0⟩ := view_ints Try.underlying30 Try.underlying3 (by kernel_rfl) h0
  have r0 := reach_of (b := 8) hsz (j := 0) (t := 30) (e := 3) rfl rfl Try.underlying30 (by kernel_rfl) z0
  obtain ⟨A1, n1, c1, rfl⟩ := okWide_slice Try.underlying30 (hval 1 30 v1 rfl rfl)
  have k1 := h1
  obtain ⟨Z1, s1, z1⟩ := view_ints Try.underlying30 Try.underlying3 (by kernel_rfl) h1
  have r1 := reach_of (b := 8) hsz (j := 1) (t := 30) (e := 3) rfl rfl Try.underlying30 (by kernel_rfl) z1
  simp only [List.append_nil] at hW'
  have hlt : ∀ x ∈ p0 ++ p1, x.block < W.heap.size := fun x hx => by simpa using hW'.lt x (by simpa using hx)
  refine (walk W A0 n0 c0 Z0 s0 r0 A1 n1 c1 Z1 s1 r1).mono fun e W' ⟨he, hb⟩ => ?_
  subst he
  exact ⟨_, rfl, _, _, _, [], _, [], hW', (trodAll_cons_mk (shut_bool Try.underlying4 _) trodAll_mk0), (trodAll_cons_mk (Below.trod laidOut (by kernel_rfl) (of_decide_eq_true (by kernel_rfl)) k0 hb (fun x hx => hlt x (by simp [hx]))) (trodAll_cons_mk (Below.trod laidOut (by kernel_rfl) (of_decide_eq_true (by kernel_rfl)) k1 hb (fun x hx => hlt x (by simp [hx]))) trodAll_mk0)), rfl, hb.frame _, fun h => by cases h⟩

theorem over : Rows.ratioBestRow.holds Try.pinned (OpenSpec.ofChange Rows.ratioBestSpec) :=
  OpenClaim.holds_of_wide 5 Try.f5 rfl rfl rfl rfl rfl rfl rfl ⟨rfl, rfl, rfl, rfl, rfl⟩ rfl rfl rfl rfl rfl (by kernel_rfl) Try.func5 (by kernel_rfl)
    (of_decide_eq_true (by kernel_rfl)) (by unfold Func.isWrapper; first | (rw [if_pos (by decide +kernel)]; kernel_rfl) | (rw [if_neg (by decide +kernel)]; exact ⟨rfl, rfl⟩))
    (fun os started H enc _ => lifted os started H enc)

theorem proved : Rows.RatioBestSaid := over
#print axioms proved
end Go.Proofs.Ytdebhebleojdbaa.ratioBest
