
/- SpoolSectors is true for every input: Sectors of any number of deltas answers how many sectors they need, or that there are none of so many. No condition. -/
import Derived.Test.YtmgeifolgdgapaaSpAwake
namespace Go.Proofs.Ytmgeifolgdgapaa.spoolSectors
open Go.ChangeShapes Go.WideShapes Go.ChangeAt Go.RowKit

set_option linter.unusedVariables false in
theorem walk (w : World) (a0 : Int) (w0 : (Lit.int .i64 a0).wf = true) :
    Calls Try.prog 4 #[.int .i64 a0] w (Fresh (.bool true) w) := by
  by_cases hz : 0 ≤ a0 ∧ a0 ≤ 96
  · obtain ⟨n, rfl⟩ : ∃ n : Nat, a0 = (n : Int) := ⟨a0.toNat, by omega⟩
    have hn : n ≤ 96 := by omega
    have HS := Lib.hid (sectors_ok n w hn)
    obtain ⟨m, hm⟩ : ∃ m, m = dcount n := ⟨_, rfl⟩
    rw [← hm] at HS
    have hm16 : m ≤ 16 := by rw [hm]; unfold dcount; omega
    have d1 : decide ((n : Int) < 0) = false := by simp
    have d2 : decide ((96 : Int) < (n : Int)) = false := by simp; omega
    have d3 : decide ((n : Int) ≤ 6 * (m : Int)) = true := by rw [hm]; unfold dcount; simp; omega
    have d4 : decide (6 * (m : Int) < (n : Int) + 6) = true := by rw [hm]; unfold dcount; simp; omega
    clear hz hm
    go_enter Try.func4, Try.ntmps4
    go_wp2_with fail
    with_reducible refine HS.out.mono ?_
    rintro e w1 ⟨rfl, rfl⟩
    go_wp2_with fail
    refine (awake_any _).mono ?_
    rintro e w3 ⟨rfl, hb3⟩
    have B3 := Lib.hid hb3
    clear hb3
    go_wp2
    go_ret
    exact ⟨rfl, B3.out⟩
  · have HS := Lib.hid (sectors_bad a0 w hz)
    by_cases h0 : a0 < 0
    · have d1 : decide (a0 < 0) = true := by simp; omega
      clear hz
      go_enter Try.func4, Try.ntmps4
      go_wp2_with fail
      with_reducible refine HS.out.mono ?_
      rintro e w1 ⟨rfl, rfl⟩
      go_wp2_with fail
      refine (awake_any _).mono ?_
      rintro e w3 ⟨rfl, hb3⟩
      have B3 := Lib.hid hb3
      clear hb3
      go_wp2
      go_ret
      exact ⟨rfl, B3.out⟩
    · have d1 : decide (a0 < 0) = false := by simp; omega
      have d2 : decide ((96 : Int) < a0) = true := by simp; omega
      clear hz
      go_enter Try.func4, Try.ntmps4
      go_wp2_with fail
      with_reducible refine HS.out.mono ?_
      rintro e w1 ⟨rfl, rfl⟩
      go_wp2_with fail
      refine (awake_any _).mono ?_
      rintro e w3 ⟨rfl, hb3⟩
      have B3 := Lib.hid hb3
      clear hb3
      go_wp2
      go_ret
      exact ⟨rfl, B3.out⟩

/-! ### the law's end -/
set_option linter.unusedVariables false
theorem own : ownKnob Try.prog.godebug = none := by kernel_rfl
theorem laidOut : laidOutB Try.prog = true := by kernel_rfl
set_option maxRecDepth 100000 in

theorem lifted (os : Os) (started : os.Started) (H : Type) (enc : TypeId × Value → H) :
    ReturnsInHanded {} Try.checked os 4 .any (Rows.spoolSectorsSpec.pre6 enc Try.prog Try.f4 Rows.spoolSectorsRow.domain false) (Rows.spoolSectorsSpec.post enc Try.prog Try.f4 false true false false) := by
  refine returnsInHanded_of_change_sized (C := Try.checked) own started (by kernel_rfl) Try.func4
    (ChangeSpec.witness6 (enc := enc) (C := Try.checked) false ⟨#[], #[.int .i64 0], []⟩ 8 (by kernel_rfl) (by kernel_rfl) (by kernel_rfl) (by kernel_rfl)) ?_
  intro W base args ds gs before hval0 hW _ hsz0 _
  have hsz : (DataW.weightsEach Try.prog (Try.f4.params.toList ++ Rows.spoolSectorsSpec.plain.varTypes Try.prog) (ds ++ gs)).all (· ≤ reachBytes) = true := hsz0
  clear hsz0
  have hval : ∀ (j : Nat) t v, Try.f4.params[j]? = some t → args[j]? = some v → Value.okWide Try.prog W .any base t v := hval0
  have hW' := hW
  obtain ⟨p, q, hA0, hV, rfl, _, _⟩ := hW
  have hA : DataW.TrodAll enc Try.prog W 0 (fun _ => true) true Try.f4.params.toList args.toList ds p := hA0
  rw [Try.params4] at hA hval hsz
  obtain ⟨v0, vs0, d0, ds0, p0, q0, hargs, rfl, rfl, h0, u0⟩ := trodAll_cons hA
  obtain ⟨rfl, rfl, rfl⟩ := trodAll_nil u0
  obtain rfl : args = #[v0] := by cases args; simp_all
  obtain ⟨rfl, rfl⟩ := trodVars_none hV
  clear hA0 hval0
  have k0 := h0
  obtain ⟨a0, rfl, rfl, rfl, w0⟩ := open_int Try.underlying3 (hval 0 3 v0 rfl rfl) h0
  simp only [List.append_nil] at hW'
  refine (walk W a0 w0).mono fun e W' ⟨he, hb⟩ => ?_
  subst he
  exact ⟨_, rfl, _, _, _, [], _, [], hW', (trodAll_cons_mk (shut_bool Try.underlying4 _) trodAll_mk0), (trodAll_cons_mk (Below.trod laidOut (by kernel_rfl) (of_decide_eq_true (by kernel_rfl)) k0 hb (fun x hx => (by cases hx))) trodAll_mk0), rfl, hb.frame _, fun h => by cases h⟩

theorem over : Rows.spoolSectorsRow.holds Try.pinned (OpenSpec.ofChange Rows.spoolSectorsSpec) :=
  OpenClaim.holds_of_wide 4 Try.f4 rfl rfl rfl rfl rfl rfl rfl ⟨rfl, rfl, rfl, rfl, rfl⟩ rfl rfl rfl rfl rfl (by kernel_rfl) Try.func4 (by kernel_rfl)
    (of_decide_eq_true (by kernel_rfl)) (by unfold Func.isWrapper; first | (rw [if_pos (by decide +kernel)]; kernel_rfl) | (rw [if_neg (by decide +kernel)]; exact ⟨rfl, rfl⟩))
    (fun os started H enc _ => lifted os started H enc)

theorem proved : Rows.SpoolSectorsSaid := over
#print axioms proved
end Go.Proofs.Ytmgeifolgdgapaa.spoolSectors
