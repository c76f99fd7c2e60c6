/- Any calls of a device of any size, beside the document's own one. -/
import Derived.Test.YtcnoadikkfedaaaBoth
import Derived.Deep.CondSized
import Derived.Deep.DeepCutAuto
import Derived.Deep.CutBlock
namespace Go.Proofs.Ytcnoadikkfedaaa.basinPlays
open Go.ChangeShapes Go.WideShapes Go.ChangeAt Go.RowKit

def Playing (w : World) (g h r m n : Nat) (S : Value) (k : Nat) (v : Value) (wr : World) : Prop :=
  ∃ i D L R y, i ≤ n ∧ i ≤ 60 ∧ k = 60 - i ∧ v = .int .i64 (i : Int) ∧ D.size = m ∧ D.loose.length ≤ i * 1048576 ∧ Both w wr g h r S L R y D D
def Played (w : World) (g h r m : Nat) (S : Value) (wr : World) : Prop :=
  ∃ D L R y, D.size = m ∧ Both w wr g h r S L R y D D
def Turned (w : World) (g h r m i : Nat) (S : Value) (s10 s11 : Value) (wr : World) : Prop :=
  ∃ q D L R y, s10 = .int .i64 q ∧ s11 = .int .i64 q ∧ D.size = m ∧ D.loose.length ≤ (i + 1) * 1048576 ∧ Both w wr g h r S L R y D D

theorem more {a i : Nat} (h : a ≤ i * 1048576) : a ≤ (i + 1) * 1048576 := Nat.le_trans h (Nat.mul_le_mul_right _ (Nat.le_succ i))

set_option maxRecDepth 100000 in
set_option maxHeartbeats 4000000 in
theorem text (z : Int) (A : Option Addr) (n c : Nat) (X : Nat → ActData) (w : World) (s : ActsIn w A n c X) (hX : ∀ i, i < n → (X i).n ≤ 1048576) :
    Calls Try.prog 3 #[.int .i64 z, .slice A n c] w (Fresh (.bool true) w) := by
  have HS := Lib.hid s
  have HX := Lib.hid hX
  have hn : n ≤ 9223372036854775807 := by have := s.cap; have := s.most; omega
  clear s hX
  by_cases hz : 1 ≤ z ∧ z ≤ 424
  · obtain ⟨m, rfl⟩ : ∃ m : Nat, z = (m : Int) := ⟨z.toNat, by omega⟩
    have m1 : 1 ≤ m := by omega
    have m2 : m ≤ 424 := by omega
    have d0 : decide ((m : Int) < 1) = false := by simp; omega
    have d1 : decide ((424 : Int) < (m : Int)) = false := by simp; omega
    clear hz
    go_enter Try.func3, Try.ntmps3
    go_wp2_with fail
    refine (new_ok m w m1 m2).mono ?_
    rintro e w1 ⟨g, h, rfl, hd, hb⟩
    have D1 := Lib.hid hd
    have B1 := Lib.hid hb
    clear hd hb
    go_wp2_with fail
    refine (awake_any _).mono ?_
    rintro e w2 ⟨rfl, hb⟩
    have D2 := Lib.hid (D1.out.below hb)
    have B2 := Lib.hid (B1.out.trans (hb.mono B1.out.size))
    clear hb
    go_wp2_with fail
    refine (size_any D2.out).mono ?_
    rintro e w3 ⟨rfl, rfl⟩
    rw [show (fresh m).size = m from rfl]
    go_wp2_with fail
    refine (refNew_ok m w2 m1 m2).mono ?_
    rintro e w4 ⟨r, S, rfl, hd, hb⟩
    have BO := Lib.hid (Both.make D2.out B2.out hd hb)
    clear hd hb
    go_upto_block 0 with (fail)
    go_cut [] from 59 (fun wr => Played w g h r m S wr)
    case first =>
      go_wp2
      go_loopg [8] 60 (fun k v wr => Playing w g h r m n S k v wr)
      case atStart => exact ⟨0, fresh m, _, _, _, Nat.zero_le _, by omega, rfl, rfl, rfl, by show ([] : List Wr).length ≤ _; simp, BO.out⟩
      case round =>
        obtain ⟨i, D, L, R, y, hi, hi6, rfl, rfl, hm, hl, hb⟩ := hrel
        have BD := Lib.hid hb
        have HM := Lib.hid hm
        have HL := Lib.hid hl
        clear hb hm hl
        by_cases h0 : i < n ∧ i < 60
        · obtain ⟨h1, h2⟩ := h0
          obtain ⟨ad, rfl, q0, q1, q2, q3⟩ := HS.out.cell i h1
          have HA := Lib.hid (HS.out.act i h1)
          have HN := Lib.hid (HX.out i h1)
          obtain ⟨x, hx⟩ : ∃ x, x = X i := ⟨_, rfl⟩
          rw [← hx] at q0 q1 q2 q3 HA HN
          obtain ⟨what, hw⟩ : ∃ what, what = x.what := ⟨_, rfl⟩
          rw [← hw] at q0
          clear hx hw
          have c0 : wr.cell? (ad.add (i * 4)) = some (.int .i64 what) := cell_later BD.out.below q0
          have c1' : wr.cell? ⟨(ad.add (i * 4)).block, (ad.add (i * 4)).off + 1, none⟩ = some (.int .i64 x.num) := by rw [← Addr.add_add] at q1; exact cell_later BD.out.below q1
          have c2' : wr.cell? ⟨(ad.add (i * 4)).block, (ad.add (i * 4)).off + 2, none⟩ = some (.slice x.A x.n x.c) := by rw [← Addr.add_add] at q2; exact cell_later BD.out.below q2
          have c3' : wr.cell? ⟨(ad.add (i * 4)).block, (ad.add (i * 4)).off + 3, none⟩ = some (.slice x.A' x.n' x.c') := by rw [← Addr.add_add] at q3; exact cell_later BD.out.below q3
          have i0 : (i : Int) < (n : Int) := by omega
          have i1 : (0 : Int) ≤ (i : Int) := by omega
          have i2 : (i : Int) < 60 := by omega
          clear q0 q1 q2 q3
          go_upto_block 2 with (fail)
          clear c0 c1' c2' c3'
          have NF : Hid (¬ foot g h L wr.heap.size) := Lib.hid fun hf => by have := (BD.out.dev.lt _ hf).2; omega
          obtain ⟨w5, hw5⟩ : ∃ w5, w5 = wr.alloc (.cells #[.int .i64 what, .int .i64 x.num, .slice x.A x.n x.c, .slice x.A' x.n' x.c'] 34) := ⟨_, rfl⟩
          rw [← hw5]
          have B5 : Hid (Both w w5 g h r S L R y D D) := Lib.hid (by rw [hw5]; exact BD.out.later ((Below.refl _ _).alloc (Nat.le_refl _) _))
          have G5 : Hid (w5.heap[wr.heap.size]? = some (.cells #[.int .i64 what, .int .i64 x.num, .slice x.A x.n x.c, .slice x.A' x.n' x.c'] 34)) := Lib.hid (by rw [hw5]; exact heap_alloc_new wr _)
          clear hw5
          obtain ⟨a, ha⟩ : ∃ a, a = wr.heap.size := ⟨_, rfl⟩
          rw [← ha] at NF G5 ⊢
          clear ha
          go_cut [10, 11] (fun s10 s11 wx => Turned w g h r m i S s10 s11 wx)
          case first =>
            by_cases hp : what = 0 ∨ what = 1 ∨ what = 2
            · have k2 : w5.cell? ⟨a, 2, none⟩ = some (.slice x.A x.n x.c) := by rw [cell_of_row _ _ _ _ _ _ G5.out]; rfl
              rcases hp with rfl | rfl | rfl
              all_goals
                go_wp2_with fail
                refine (put_both B5.out HA.out.list (by have := HL.out; have := HN.out; omega)).mono ?_
                rintro e w6 ⟨L', rfl, hb6, ha6⟩
                have B6 := Lib.hid hb6
                have k2' := cell_apart ha6 k2 NF.out
                clear hb6 ha6 k2
                go_wp2_with fail
                refine (refPut_both B6.out HA.out.list (by have := HL.out; have := HN.out; omega)).mono ?_
                rintro e w7 ⟨R', y', rfl, hb7⟩
                have B7 := Lib.hid hb7
                clear hb7 k2'
                go_wp2
                go_meet
                case rel => exact ⟨D.putCode x, D.putDone x, L', R', y', rfl, rfl, (putDone_same D x).1.trans HM.out, by have := (putDone_same D x).2; have := HL.out; have := HN.out; omega, B7.out⟩
            · have p0 : (what == 0) = false := by simp; omega
              have p1 : (what == 1) = false := by simp; omega
              have p2 : (what == 2) = false := by simp; omega
              by_cases h3 : what = 3
              · subst h3
                clear p0 p1 p2 hp
                have k1 : w5.cell? ⟨a, 1, none⟩ = some (.int .i64 x.num) := by rw [cell_of_row _ _ _ _ _ _ G5.out]; rfl
                go_wp2_with fail
                refine (get_both B5.out.dev x.num).mono ?_
                rintro e w6 ⟨A6, n6, c6, rfl, hcv, hb6⟩
                have B6 := Lib.hid (B5.out.later hb6)
                have k1' := cell_later hb6 k1
                have cv := hcv w6 (Below.refl _ _)
                clear hb6 k1 hcv
                go_wp2_with fail
                refine (refGet_both B6.out.ref x.num).mono ?_
                rintro e w7 ⟨rfl, rfl⟩
                clear k1'
                go_wp2
                go_meet
                case rel => exact ⟨D.getCode x.num, D, L, R, y, rfl, rfl, HM.out, more HL.out, B6.out⟩
              · have p3 : (what == 3) = false := by simp; omega
                by_cases h4 : what = 4
                · subst h4
                  clear p0 p1 p2 p3 hp h3
                  go_wp2_with fail
                  refine (flush_both B5.out).mono ?_
                  rintro e w6 ⟨L', rfl, hb6⟩
                  have B6 := Lib.hid hb6
                  clear hb6
                  go_wp2_with fail
                  refine (refFlush_both B6.out).mono ?_
                  rintro e w7 ⟨R', y', rfl, hb7⟩
                  have B7 := Lib.hid hb7
                  clear hb7
                  go_wp2
                  go_meet
                  case rel => exact ⟨D.flushCode, D.flushDone, L', R', y', rfl, rfl, (flushDone_same D).1.trans HM.out, by have := (flushDone_same D).2; have := HL.out; omega, B7.out⟩
                · have p4 : (what == 4) = false := by simp; omega
                  by_cases h5 : what = 5
                  · subst h5
                    clear p0 p1 p2 p3 p4 hp h3 h4
                    have k1 : w5.cell? ⟨a, 1, none⟩ = some (.int .i64 x.num) := by rw [cell_of_row _ _ _ _ _ _ G5.out]; rfl
                    go_wp2_with fail
                    refine (fail_both B5.out HA.out.num).mono ?_
                    rintro e w6 ⟨rfl, hb6, ha6⟩
                    have k1' := cell_apart ha6 k1 NF.out
                    have B6 := Lib.hid hb6
                    have f6 := hb6.ref.cells.2.2.2.2 2
                    have c6 := hb6.ref.cells.2.2.1
                    clear hb6 ha6 k1
                    go_wp2
                    go_meet
                    case rel => exact ⟨0, D.failed x.num, L, R, x.num, rfl, rfl, HM.out, more HL.out, left_both B6.out HA.out.num⟩
                  · have p5 : (what == 5) = false := by simp; omega
                    clear hp h3 h4 h5
                    have k3 : w5.cell? ⟨a, 3, none⟩ = some (.slice x.A' x.n' x.c') := by rw [cell_of_row _ _ _ _ _ _ G5.out]; rfl
                    go_wp2_with fail
                    refine (crash_both B5.out HA.out.keep (by have := HL.out; omega)).mono ?_
                    rintro e w6 ⟨rfl, hb6, ha6⟩
                    have k3' := cell_apart ha6 k3 NF.out
                    have B6 := Lib.hid hb6
                    clear hb6 ha6 k3
                    go_wp2_with fail
                    refine (refCrash_both B6.out HA.out.keep).mono ?_
                    rintro e w7 ⟨rfl, hb7⟩
                    have B7 := Lib.hid hb7
                    clear hb7 k3'
                    go_wp2
                    go_meet
                    case rel => exact ⟨0, D.crash x.Z, _, _, _, rfl, rfl, HM.out, Nat.zero_le _, B7.out⟩
          case rest =>
            obtain ⟨q, D', L', R', y', rfl, rfl, hm, hl, hb⟩ := hcut
            obtain ⟨AR, capR, hR, -⟩ := own_slice hb.ref.own
            subst hR
            have BC := Lib.hid hb
            have MC := Lib.hid hm
            have LC := Lib.hid hl
            have r1 := hb.ref.cells.2.1
            clear hb hm hl NF G5 B5
            have CL : Hid (∀ k, Calls Try.prog 21 #[.pointer (some ⟨g, 0, none⟩)] (wc.drewN k) fun e w' => e = .returned (.int .i64 (D'.loose.length : Int)) ∧ wc.drewN k = w') := Lib.hid fun k => loose_any (BC.out.dev.below (below_drewN (Below.refl _ _) k))
            have qq : (q != q) = false := by simp
            go_wp2_with fail
            go_quiet ((go_at_call 21; exact Calls.quiet_of_same (same_turned (CL.out _))))
            go_wp2
            go_roundg (60 - (i + 1))
            case measure => omega
            case rel => exact ⟨i + 1, D', L', _, y', by omega, by omega, rfl, by go_num, MC.out, LC.out, BC.out.later (below_drewN (Below.refl _ _) _)⟩
        · by_cases h1 : i < n
          · obtain rfl : i = 60 := by omega
            go_wp2
            go_meet
            case rel => exact ⟨D, L, R, y, HM.out, BD.out⟩
          · obtain rfl : i = n := by omega
            go_wp2
            go_meet
            case rel => exact ⟨D, L, R, y, HM.out, BD.out⟩
    case rest =>
      obtain ⟨D, L, R, y, hm, hb⟩ := hcut
      have BD := Lib.hid hb
      have HM := Lib.hid hm
      clear hb hm BO
      go_wp2
      go_loopw [16] (fun v wr => ∃ i : Nat, i ≤ m ∧ v = .int .i64 (i : Int) ∧ Below wc.heap.size wc wr) (fun v _ => m - (intOf v).toNat)
      case atStart => exact ⟨0, Nat.zero_le _, rfl, Below.refl _ _⟩
      case round =>
        obtain ⟨i, hi, rfl, hb⟩ := hrel
        have BW := Lib.hid hb
        have BR := Lib.hid (BD.out.later hb)
        clear hb
        by_cases h0 : i < m
        · have i0 : (i : Int) < (m : Int) := by omega
          go_wp2_with fail
          refine (get_both BR.out.dev (i : Int)).mono ?_
          rintro e w6 ⟨A6, n6, c6, rfl, hcv, hb6⟩
          have B6 := Lib.hid (BR.out.later hb6)
          have W6 := Lib.hid (BW.out.trans (hb6.mono BW.out.size))
          have cv := hcv w6 (Below.refl _ _)
          clear hb6 hcv
          go_wp2_with fail
          refine (refGet_both B6.out.ref (i : Int)).mono ?_
          rintro e w7 ⟨rfl, rfl⟩
          go_wp2
          go_roundw
          case rel => exact ⟨i + 1, by omega, by go_num, W6.out⟩
          case measure => simp [intOf]; omega
        · obtain rfl : i = m := by omega
          go_wp2
          go_ret
          exact ⟨rfl, BR.out.below⟩
  · by_cases h1 : z < 1
    · have d0 : decide (z < 1) = true := by simpa using h1
      have Hz := Lib.hid hz
      clear hz
      go_enter Try.func3, Try.ntmps3
      go_wp2_with fail
      refine (new_arg z w Hz.out).mono ?_
      rintro e w1 ⟨rfl, rfl⟩
      go_wp2_with fail
      refine (awake_any _).mono ?_
      rintro e w2 ⟨rfl, hb⟩
      go_wp2
      go_ret
      exact ⟨rfl, hb⟩
    · have d0 : decide (z < 1) = false := by simpa using h1
      have d1 : decide (424 < z) = true := by simp; omega
      have Hz := Lib.hid hz
      clear hz
      go_enter Try.func3, Try.ntmps3
      go_wp2_with fail
      refine (new_arg z w Hz.out).mono ?_
      rintro e w1 ⟨rfl, rfl⟩
      go_wp2_with fail
      refine (awake_any _).mono ?_
      rintro e w2 ⟨rfl, hb⟩
      go_wp2
      go_ret
      exact ⟨rfl, hb⟩
/-- What came in is of no greater bulk than all of it. -/
theorem bulk_one {H : Type} {ds : List (DataW H)} (hk : Rows.uptoSmall H ds = true) {d : DataW H} (hd : d ∈ ds) : Rows.uptoBulk d ≤ 1048576 :=
  Nat.le_trans (bulk_in hd) (of_decide_eq_true hk)
set_option linter.unusedVariables false in
theorem walk (w : World) (a0 : Int) (w0 : (Lit.int .i64 a0).wf = true) (A1 : Option Addr) (n1 c1 : Nat) (x1 : Nat → ActData) (s1 : ActsIn w A1 n1 c1 x1) (u1 : ∀ i, i < n1 → (x1 i).n ≤ 1048576) :
    Calls Try.prog 3 #[.int .i64 a0, .slice A1 n1 c1] w (Fresh (.bool true) w) := by
  exact text a0 A1 n1 c1 x1 w s1 u1
/-! ### the law's end -/
set_option linter.unusedVariables false
theorem own : ownKnob Try.prog.godebug = none := by kernel_rfl
theorem laidOut : laidOutB Try.prog = true := by kernel_rfl
set_option maxRecDepth 100000 in

theorem lifted (os : Os) (started : os.Started) (H : Type) (enc : TypeId × Value → H) (F : Stop.Interp) :
    ReturnsInHanded {} Try.checked os 3 .any ((Rows.OpenSpec.upto Rows.basinPlaysSpec).pre6 enc Try.prog Try.f3 Rows.basinPlaysUptoRow.domain false) (((Rows.OpenSpec.upto Rows.basinPlaysSpec).at F).post enc Try.prog Try.f3 false true false false) := by
  refine returnsInHanded_of_cond_sized (C := Try.checked) (s := Rows.OpenSpec.upto Rows.basinPlaysSpec) (k := Rows.uptoSmall) rfl own started (by kernel_rfl) Try.func3
    (OpenSpec.witness (enc := enc) (C := Try.checked) (s := Rows.OpenSpec.upto Rows.basinPlaysSpec) (k := Rows.uptoSmall) rfl false ⟨#[], #[.int .i64 0, .slice none 0 0], []⟩ 8 (by kernel_rfl) (by kernel_rfl) (by kernel_rfl)
      (x := ([.lit (.int .i64 0), .nil], [], [])) (by kernel_rfl) rfl (by kernel_rfl)) ?_
  intro W base args ds gs before hval0 hW _ hk hsz0 _
  have hsz : (DataW.weightsEach Try.prog (Try.f3.params.toList ++ Rows.basinPlaysSpec.plain.varTypes Try.prog) (ds ++ gs)).all (· ≤ reachBytes) = true := hsz0
  clear hsz0
  have hval : ∀ (j : Nat) t v, Try.f3.params[j]? = some t → args[j]? = some v → Value.okWide Try.prog W .any base t v := hval0
  have hW' := hW
  obtain ⟨p, q, hA0, hV, rfl, _, _⟩ := hW
  have hA : DataW.TrodAll enc Try.prog W 0 (fun _ => true) true Try.f3.params.toList args.toList ds p := hA0
  rw [Try.params3] at hA hval hsz
  obtain ⟨v0, vs0, d0, ds0, p0, q0, hargs, rfl, rfl, h0, u0⟩ := trodAll_cons hA
  obtain ⟨v1, vs1, d1, ds1, p1, q1, rfl, rfl, rfl, h1, u1⟩ := trodAll_cons u0
  obtain ⟨rfl, rfl, rfl⟩ := trodAll_nil u1
  obtain rfl : args = #[v0, v1] := by cases args; simp_all
  obtain ⟨rfl, rfl⟩ := trodVars_none hV
  clear hA0 hval0
  have k0 := h0
  obtain ⟨a0, rfl, rfl, rfl, w0⟩ := open_int Try.underlying3 (hval 0 3 v0 rfl rfl) h0
  obtain ⟨A1, n1, c1, rfl⟩ := okWide_slice Try.underlying22 (hval 1 22 v1 rfl rfl)
  have k1 := h1
  obtain ⟨x1, s1, b1⟩ := view_acts h1
  have bk1 : ∀ i, i < n1 → (x1 i).n ≤ 1048576 := fun i hi => Nat.le_trans (b1 i hi) (bulk_one hk (d := d1) (by simp))
  simp only [List.append_nil] at hW'
  have hlt : ∀ x ∈ p1, x.block < W.heap.size := fun x hx => by simpa using hW'.lt x (by simpa using hx)
  refine (walk W a0 w0 A1 n1 c1 x1 s1 bk1).mono fun e W' ⟨he, hb⟩ => ?_
  subst he
  exact ⟨_, rfl, _, _, _, [], _, [], hW', (trodAll_cons_mk (shut_bool Try.underlying4 _) trodAll_mk0), (trodAll_cons_mk (Below.trod laidOut (by kernel_rfl) (of_decide_eq_true (by kernel_rfl)) k0 hb (fun x hx => (by cases hx))) (trodAll_cons_mk (Below.trod laidOut (by kernel_rfl) (of_decide_eq_true (by kernel_rfl)) k1 hb (fun x hx => hlt x (by simp [hx]))) trodAll_mk0)), rfl, hb.frame _, fun h => by cases h⟩

theorem over : Rows.basinPlaysUptoRow.holds Try.pinned (Rows.OpenSpec.upto Rows.basinPlaysSpec) :=
  OpenClaim.holds_of_cond 3 Try.f3 rfl rfl rfl rfl rfl rfl rfl ⟨rfl, rfl, rfl, rfl, rfl⟩ rfl rfl rfl rfl rfl (by kernel_rfl) Try.func3 (by kernel_rfl)
    (of_decide_eq_true (by kernel_rfl)) (by unfold Func.isWrapper; first | (rw [if_pos (by decide +kernel)]; kernel_rfl) | (rw [if_neg (by decide +kernel)]; exact ⟨rfl, rfl⟩))
    (fun os started H enc _ F => lifted os started H enc F)

theorem proved : Rows.BasinPlaysUptoSaid := over
#print axioms proved
end Go.Proofs.Ytcnoadikkfedaaa.basinPlays
