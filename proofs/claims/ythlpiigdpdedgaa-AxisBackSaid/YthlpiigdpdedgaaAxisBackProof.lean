/- A place as a number is that place again, and steps there and back lead back: for every input, no condition. -/
import Derived.Test.YthlpiigdpdedgaaAxisAwake
import Derived.ProofKit
import Derived.OpenShut
namespace Go.Proofs.Ythlpiigdpdedgaa.axisBack
open Go.ChangeShapes Go.WideShapes Go.ChangeAt Go.RowKit
set_option linter.unusedVariables false

theorem own : ownKnob Try.prog.godebug = none := by kernel_rfl

theorem toNat_lt {x : Int} {n : Nat} (h : x < n) (h0 : 0 < n) : x.toNat < n := by omega

theorem flat_int (x y n : Int) (w : World) (hx0 : 0 ≤ x) (hx : x < 24) (h1 : 1 ≤ n) (h2 : n ≤ 16) (hy0 : 0 ≤ y) (hy : y < n) :
    Calls Try.prog 4 #[.complex .f64 (floatOfInt .f64 x) (floatOfInt .f64 y), .int .i64 n] w fun e w' => e = .returned (.tuple #[.int .i64 (x * n + y), .int .i64 0]) ∧ w = w' := by
  have h := flat_any x.toNat y.toNat n w (by omega) h1 h2 (by omega)
  rw [← fl_int hx0, ← fl_int hy0, Int.toNat_of_nonneg hx0, Int.toNat_of_nonneg hy0] at h
  exact h

theorem div_of (x y n : Int) (hy0 : 0 ≤ y) (hy : y < n) : (x * n + y) / n = x ∧ (x * n + y) % n = y := by
  refine ⟨?_, ?_⟩
  · rw [Int.add_comm, Int.add_mul_ediv_right _ _ (by omega), Int.ediv_eq_zero_of_lt hy0 hy]; omega
  · rw [Int.add_comm, Int.add_mul_emod_self_right, Int.emod_eq_of_lt hy0 hy]

theorem place_int (x y n : Int) (w : World) (hx0 : 0 ≤ x) (hx : x < 24) (h1 : 1 ≤ n) (h2 : n ≤ 16) (hy0 : 0 ≤ y) (hy : y < n) :
    Calls Try.prog 5 #[.int .i64 (x * n + y), .int .i64 n] w (Drawn (.tuple #[.complex .f64 (floatOfInt .f64 x) (floatOfInt .f64 y), .int .i64 0]) w) := by
  have hm : x * n ≤ 23 * n := Int.mul_le_mul_of_nonneg_right (by omega) (by omega)
  have hm0 : 0 ≤ x * n := Int.mul_nonneg hx0 (by omega)
  have h := place_any (x * n + y) n w h1 h2 (by omega) (by omega)
  rw [(div_of x y n hy0 hy).1, (div_of x y n hy0 hy).2, ← fl_int hx0, ← fl_int hy0] at h
  exact h

theorem step_int (x y k n q r : Int) (w : World) (hx0 : 0 ≤ x) (hx : x < 24) (h1 : 1 ≤ n) (h2 : n ≤ 16) (hy0 : 0 ≤ y) (hy : y < n)
    (hr0 : 0 ≤ r) (hr : r < n) (hq0 : 0 ≤ q) (hq : q < 24) (he : x * n + y + k = q * n + r) :
    Calls Try.prog 6 #[.complex .f64 (floatOfInt .f64 x) (floatOfInt .f64 y), .int .i64 k, .int .i64 n] w
      (Drawn (.tuple #[.complex .f64 (floatOfInt .f64 q) (floatOfInt .f64 r), .int .i64 0]) w) := by
  have hm : q * n ≤ 23 * n := Int.mul_le_mul_of_nonneg_right (by omega) (by omega)
  have hm0 : 0 ≤ q * n := Int.mul_nonneg hq0 (by omega)
  have h := step_any x.toNat y.toNat k n w (by omega) h1 h2 (by omega) (by rw [Int.toNat_of_nonneg hx0, Int.toNat_of_nonneg hy0]; omega) (by rw [Int.toNat_of_nonneg hx0, Int.toNat_of_nonneg hy0]; omega)
  rw [Int.toNat_of_nonneg hx0, Int.toNat_of_nonneg hy0, he, (div_of q r n hr0 hr).1, (div_of q r n hr0 hr).2, ← fl_int hx0, ← fl_int hy0, ← fl_int hq0, ← fl_int hr0] at h
  exact h

theorem stepout_int (x y k n : Int) (w : World) (hx0 : 0 ≤ x) (hx : x < 24) (h1 : 1 ≤ n) (h2 : n ≤ 16) (hy0 : 0 ≤ y) (hy : y < n)
    (hlo : -1000000 ≤ k) (hk : x * n + y + k < 0 ∨ 24 * n ≤ x * n + y + k) :
    Calls Try.prog 6 #[.complex .f64 (floatOfInt .f64 x) (floatOfInt .f64 y), .int .i64 k, .int .i64 n] w fun e w' => e = .returned (.tuple #[.complex .f64 0 0, .int .i64 5]) ∧ w = w' := by
  have h := step_out x.toNat y.toNat k n w (by omega) h1 h2 (by omega) hlo (by rw [Int.toNat_of_nonneg hx0, Int.toNat_of_nonneg hy0]; omega)
  rw [← fl_int hx0, ← fl_int hy0] at h
  exact h

theorem eq_int {x : Int} (h0 : 0 ≤ x) (h : x < 25) : FloatKind.f64.format.order (floatOfInt .f64 x) (floatOfInt .f64 x) = some .eq := by
  rw [fl_int h0]; exact fl_eq _ (by omega)

theorem grown_drawn (n : Nat) (w : World) : Grown w (w.drewN n) := by
  induction n with
  | zero => exact Grown.refl _
  | succ n ih => exact ih.drew

theorem parts_of (t n : Int) (h0 : 0 ≤ t) (hn : 0 < n) (h : t < 24 * n) : ∃ q r : Int, 0 ≤ q ∧ q < 24 ∧ 0 ≤ r ∧ r < n ∧ t = q * n + r :=
  ⟨t / n, t % n, Int.ediv_nonneg h0 (by omega), Int.ediv_lt_of_lt_mul hn h, Int.emod_nonneg _ (by omega), Int.emod_lt_of_pos _ hn, by rw [Int.mul_comm, Int.mul_ediv_add_emod]⟩

/-- The walk of the statement's own text. -/
theorem walk (a0 : Int) (a1 : Int) (a2 : Int) (a3 : Int) (w0 : (Lit.int .u8 a0).wf = true) (w1 : (Lit.int .u8 a1).wf = true) (w2 : (Lit.int .u8 a2).wf = true) (w3 : (Lit.int .i16 a3).wf = true) (w : World) :
    Calls Try.prog 3 #[.int .u8 a0, .int .u8 a1, .int .u8 a2, .int .i16 a3] w fun e w' => e = .returned (.bool true) ∧ Grown w w' := by
  have b0 := bounds_u8 w0
  have b1 := bounds_u8 w1
  have b2 := bounds_u8 w2
  have b3 := bounds_i16 w3
  clear w0 w1 w2 w3
  obtain ⟨b00, b01⟩ := b0
  obtain ⟨b10, b11⟩ := b1
  obtain ⟨b20, b21⟩ := b2
  obtain ⟨b30, b31⟩ := b3
  have hw : ¬ (1 + a2 % 16 = 0) := by omega
  have n1 : 1 ≤ 1 + a2 % 16 := by omega
  have n2 : 1 + a2 % 16 ≤ 16 := by omega
  have hy0 : 0 ≤ a1 % (1 + a2 % 16) := Int.emod_nonneg _ hw
  have hy1 : a1 % (1 + a2 % 16) < 1 + a2 % 16 := Int.emod_lt_of_pos _ (by omega)
  have hx0 : 0 ≤ a0 % 24 := by omega
  have hx1 : a0 % 24 < 24 := by omega
  have hm : (a0 % 24) * (1 + a2 % 16) ≤ 23 * 16 := Int.mul_le_mul (by omega) n2 (by omega) (by omega)
  have hm0 : 0 ≤ (a0 % 24) * (1 + a2 % 16) := Int.mul_nonneg hx0 (by omega)
  have e1 := eq_int hx0 (by omega)
  have e2 := eq_int hy0 (by omega)
  by_cases hin : 0 ≤ (a0 % 24) * (1 + a2 % 16) + a1 % (1 + a2 % 16) + a3 ∧ (a0 % 24) * (1 + a2 % 16) + a1 % (1 + a2 % 16) + a3 < 24 * (1 + a2 % 16)
  · obtain ⟨i0, i1⟩ := hin
    obtain ⟨q, r, hq0, hq1, hr0, hr1, he⟩ := parts_of _ _ i0 (by omega) i1
    have HE := Lib.hid he
    clear he
    go_enter Try.func3, Try.ntmps3
    go_wp2_with fail
    refine (flat_int _ _ _ _ hx0 hx1 n1 n2 hy0 hy1).mono ?_
    rintro e w' ⟨rfl, rfl⟩
    go_wp2_with fail
    refine (place_int _ _ _ _ hx0 hx1 n1 n2 hy0 hy1).mono ?_
    rintro e w' ⟨nq, rfl, rfl⟩
    go_wp2_with fail
    refine (step_int _ _ a3 _ q r _ hx0 hx1 n1 n2 hy0 hy1 hr0 hr1 hq0 hq1 HE.out).mono ?_
    rintro e w' ⟨nq1, rfl, rfl⟩
    go_wp2_with fail
    refine (awake_any _).mono ?_
    rintro e w' ⟨nq2, rfl, rfl⟩
    go_wp2_with fail
    refine (step_int q r (-a3) _ (a0 % 24) (a1 % (1 + a2 % 16)) _ hq0 hq1 n1 n2 hr0 hr1 hy0 hy1 hx0 hx1 (by have := HE.out; omega)).mono ?_
    rintro e w' ⟨nq3, rfl, rfl⟩
    go_wp2
    go_ret
    exact ⟨rfl, by repeat (first | exact Grown.refl _ | exact grown_drawn _ _ | apply Grown.drew | apply Grown.alloc)⟩
  · have hout : (a0 % 24) * (1 + a2 % 16) + a1 % (1 + a2 % 16) + a3 < 0 ∨ 24 * (1 + a2 % 16) ≤ (a0 % 24) * (1 + a2 % 16) + a1 % (1 + a2 % 16) + a3 := by omega
    clear hin
    have hall := hout
    rcases hout with hlo | hhi
    all_goals
      go_enter Try.func3, Try.ntmps3
      go_wp2_with fail
      refine (flat_int _ _ _ _ hx0 hx1 n1 n2 hy0 hy1).mono ?_
      rintro e w' ⟨rfl, rfl⟩
      go_wp2_with fail
      refine (place_int _ _ _ _ hx0 hx1 n1 n2 hy0 hy1).mono ?_
      rintro e w' ⟨nq, rfl, rfl⟩
      go_wp2_with fail
      refine (stepout_int _ _ a3 _ _ hx0 hx1 n1 n2 hy0 hy1 (by omega) (by omega)).mono ?_
      rintro e w' ⟨rfl, rfl⟩
      go_wp2_with fail
      refine (awake_any _).mono ?_
      rintro e w' ⟨nq2, rfl, rfl⟩
      go_wp2
      go_ret
      exact ⟨rfl, by repeat (first | exact Grown.refl _ | exact grown_drawn _ _ | apply Grown.drew | apply Grown.alloc)⟩

/-! ### THE ROW's STEP: WRITTEN OUT: LEAVE IT -/
set_option maxRecDepth 100000 in
theorem lifted (os : Os) (started : os.Started) (H : Type) (enc : TypeId × Value → H) :
    ReturnsInHanded {} Try.checked os 3 .any (Rows.axisBackSpec.pre6 enc Try.prog Try.f3 Rows.axisBackRow.domain false) (Rows.axisBackSpec.post enc Try.prog Try.f3 false true false false) := by
  refine returnsInHanded_of_change (C := Try.checked) own started (by kernel_rfl) Try.func3
    (ChangeSpec.witness6 (enc := enc) (C := Try.checked) false ⟨#[], #[.int .u8 0, .int .u8 0, .int .u8 0, .int .i16 0], []⟩ 8 (by kernel_rfl) (by kernel_rfl) (by kernel_rfl) (by kernel_rfl)) ?_
  intro W base args ds gs before hval0 hW hcnd _
  have hval : ∀ (j : Nat) t v, Try.f3.params[j]? = some t → args[j]? = some v → Value.okWide Try.prog W .any base t v := hval0
  have hW' := hW
  obtain ⟨p, q, hA0, hV, rfl, hfz, hnd⟩ := hW
  have hA : DataW.TrodAll enc Try.prog W 0 (fun _ => true) true Try.f3.params.toList args.toList ds p := hA0
  rw [Try.params3] at hA hval
  obtain ⟨v0, vs0, d0, ds0, p0, q0, hargs, rfl, rfl, h0, r0⟩ := trodAll_cons hA
  obtain ⟨v1, vs1, d1, ds1, p1, q1, rfl, rfl, rfl, h1, r1⟩ := trodAll_cons r0
  obtain ⟨v2, vs2, d2, ds2, p2, q2, rfl, rfl, rfl, h2, r2⟩ := trodAll_cons r1
  obtain ⟨v3, vs3, d3, ds3, p3, q3, rfl, rfl, rfl, h3, r3⟩ := trodAll_cons r2
  obtain ⟨rfl, rfl, rfl⟩ := trodAll_nil r3
  obtain rfl : args = #[v0, v1, v2, v3] := by cases args; simp_all
  obtain ⟨rfl, rfl⟩ := trodVars_none hV
  obtain ⟨a0, rfl, rfl, rfl, w0⟩ := open_int Try.underlying5 (hval 0 5 v0 rfl rfl) h0
  obtain ⟨a1, rfl, rfl, rfl, w1⟩ := open_int Try.underlying5 (hval 1 5 v1 rfl rfl) h1
  obtain ⟨a2, rfl, rfl, rfl, w2⟩ := open_int Try.underlying5 (hval 2 5 v2 rfl rfl) h2
  obtain ⟨a3, rfl, rfl, rfl, w3⟩ := open_int Try.underlying22 (hval 3 22 v3 rfl rfl) h3
  clear hA0 hval0
  simp only [List.append_nil] at hW'
  refine (walk a0 a1 a2 a3 w0 w1 w2 w3 W).mono fun e W' ⟨he, hg⟩ => ?_
  subst he
  exact ⟨_, rfl, post_of_same (pa := []) (pv := []) hW' (fun _ _ _ => (trodAll_cons_mk (shut_bool Try.underlying4 _) trodAll_mk0)) (fun sp _ => (trodAll_cons_mk (shut_int Try.underlying5 w0) (trodAll_cons_mk (shut_int Try.underlying5 w1) (trodAll_cons_mk (shut_int Try.underlying5 w2) (trodAll_cons_mk (shut_int Try.underlying22 w3) trodAll_mk0))))) (fun _ _ => rfl) rfl
    (hg.frame _) hg.2.1 (ok_one (by kernel_rfl) rfl (okWide_bool_mk Try.underlying4 _))⟩

theorem over : Rows.axisBackRow.holds Try.pinned (OpenSpec.ofChange Rows.axisBackSpec) :=
  OpenClaim.holds_of_wide 3 Try.f3 rfl rfl rfl rfl rfl rfl rfl ⟨rfl, rfl, rfl, rfl, rfl⟩ rfl rfl rfl rfl rfl (by kernel_rfl) Try.func3 (by kernel_rfl)
    (of_decide_eq_true (by kernel_rfl)) (by unfold Func.isWrapper; first | (rw [if_pos (by decide +kernel)]; kernel_rfl) | (rw [if_neg (by decide +kernel)]; exact ⟨rfl, rfl⟩))
    (fun os started H enc _ => lifted os started H enc)

/-- ████ THE STATEMENT ████ -/
theorem proved : Rows.AxisBackSaid :=
  over
#print axioms proved
end Go.Proofs.Ythlpiigdpdedgaa.axisBack

