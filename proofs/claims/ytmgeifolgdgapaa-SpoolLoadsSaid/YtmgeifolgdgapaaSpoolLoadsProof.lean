
/- What Load reads of any sectors are the deltas that the document says, and how many sectors they lie in. For every input, no condition. -/
import Derived.Test.YtmgeifolgdgapaaMerge11
import Derived.Test.YtmgeifolgdgapaaSpRef
import Derived.Test.YtmgeifolgdgapaaMerge9
import Derived.Test.YtmgeifolgdgapaaPagesIn
import Derived.Test.YtmgeifolgdgapaaCalm
namespace Go.Proofs.Ytmgeifolgdgapaa.spoolLoads
open Go.ChangeShapes Go.WideShapes Go.ChangeAt Go.RowKit

theorem spLoad_arg (g : Nat) (s : Int) (w : World) (h : ¬ (1 ≤ s ∧ s ≤ 1073741824)) :
    Calls Try.prog 8 #[.pointer (some ⟨g, 0, none⟩), .int .i64 s] w fun e w' => e = .returned (.tuple #[.slice none 0 0, .int .i64 0, .int .i64 1]) ∧ w = w' := by
  have HS := Lib.hid (spSeq_no s w h)
  clear h
  go_enter Try.func8, Try.ntmps8
  go_wp2_with fail
  with_reducible refine HS.out.mono ?_
  rintro e w' ⟨rfl, rfl⟩
  go_wp2
  go_ret3
  exact ⟨rfl, rfl⟩

/-- At a call that makes memory, where it hangs on what was there. -/
theorem later_fresh_ {P : Program} {f : FuncId} {args : Array Value} {w : World} {v : Value} {n : Later w} (h : ∀ W, Below w.heap.size w W → Calls P f args W (Fresh v W)) :
    Calls P f args n.val fun e w'' => e = .returned v ∧ ∃ m : Later w, w'' = m.val :=
  (h n.val n.ext).mono fun _ w' ⟨he, hb⟩ => ⟨he, ⟨w', n.ext.trans (hb.mono n.ext.size)⟩, rfl⟩

theorem till_of {F : Nat → Nat → Nat} {q n m : Nat} (h : Led F q n) (hn : n ≤ 16) (hx : n < 16 → ¬ IsSp (F n) q n) (k : Led F q m) (hm : m ≤ 16) (ky : m < 16 → ¬ IsSp (F m) q m) : n = m :=
  Till.one ⟨h, hn, hx⟩ ⟨k, hm, ky⟩

/-- What Load answers where the device has sixty sectors. -/
theorem load60 {w : World} {base g h : Nat} {L : Value} {D : Dev} (d : IsDev w base g h L D) (ho : D.off = false) (hz : D.size = 60) (q : Nat) (hq : 1 ≤ q ∧ q ≤ 1073741824) :
    Calls Try.prog 8 #[.pointer (some ⟨g, 0, none⟩), .int .i64 (q : Int)] w fun e w' => Below w.heap.size w w' ∧ ∃ n v, n ≤ 16 ∧ Led D.log q n ∧ (n < 16 → ¬ IsSp (D.log n) q n) ∧ e = .returned (.tuple #[v, .int .i64 (n : Int), .int .i64 0]) ∧ OwnD w' w.heap.size v (spC D.log n) (spD D.log n) := by
  refine Calls.mono (spLoad_any d ho q hq) fun e w' hx => ?_
  obtain ⟨hb, n, hn, hl, _, ⟨hx, v, he, hv⟩ | ⟨h1, h2, _⟩⟩ := hx
  · exact ⟨hb, n, v, hn, hl, fun h => (hx h).2, he, hv⟩
  · omega

/-- What the statement's loop holds. -/
def Wants (D : Dev) (q m : Nat) (w3 : World) (v : Value) (wr : World) : Prop :=
  Led D.log q m ∧ OwnD wr w3.heap.size v (spC D.log m) (spD D.log m) ∧ Below w3.heap.size w3 wr

set_option maxRecDepth 100000 in
set_option maxHeartbeats 4000000 in
theorem text (A : Option Addr) (N c : Nat) (Ln : Nat → Nat) (F : Nat → Nat → Nat) (s : Int) (w : World) (ha : ReadsP w (.slice A N c) N Ln F) :
    Calls Try.prog 3 #[.slice A N c, .int .i64 s] w (Fresh (.bool true) w) := by
  have HA := Lib.hid ha
  have nb : N ≤ 9223372036854775807 := by obtain ⟨_, _, e, q1, q2, _⟩ := ha; omega
  have NW : Hid (Calls Try.prog 5 #[.int .i64 60] w (Born 60 w)) := Lib.hid (dev_new_ok 60 w (by omega) (by omega))
  clear ha
  go_enter Try.func3, Try.ntmps3
  go_wp2_with fail
  with_reducible refine NW.out.mono ?_
  rintro e w1 ⟨g, h, rfl, hd1, hb1⟩
  have M1 : Hid (Made w g h 0 w1) := Lib.hid ⟨_, _, hd1, ⟨rfl, rfl⟩, rfl, Nat.le_refl _, hb1⟩
  clear hd1 hb1 NW
  go_wp2_with fail
  refine (awake_any _).mono ?_
  rintro e w2 ⟨rfl, hb2⟩
  have M2 := Lib.hid (M1.out.later hb2)
  clear hb2 M1
  go_wp2
  go_loopw [7] (fun x wr => ∃ i : Nat, i ≤ 16 ∧ i ≤ N ∧ x = .int .i64 (i : Int) ∧ Made w g h i wr) (fun x _ => 16 - (intOf x).toNat)
  case atStart => exact ⟨0, by omega, by omega, rfl, M2.out⟩
  case round =>
    clear M2
    obtain ⟨i, hi, hiN, rfl, hm⟩ := hrel
    have MM := Lib.hid hm
    clear hm
    by_cases hboth : i < 16 ∧ i < N
    · obtain ⟨h16, hN⟩ := hboth
      obtain ⟨ad, u, rfl, hcu, hru⟩ := HA.out.page_at hN
      have cu := cell_later MM.out.below hcu
      obtain ⟨Au, cu', eu, -⟩ := id hru
      subst eu
      by_cases hl : Ln i = 64
      · rw [hl] at cu hru
        have P : Hid (Calls Try.prog 7 #[.pointer (some ⟨g, 0, none⟩), .slice (some ⟨wr.heap.size, 0, none⟩) 1 1] (wr.alloc (.cells #[.int .i64 (24 + (i : Int)), .slice Au 64 cu'] 31)) fun e w' => e = .returned (.int .i64 0) ∧ Made w g h (i + 1) w') := Lib.hid (by
          have k := made_put (t := 24 + i) MM.out hru (by omega) (by omega)
          rw [show ((24 + i : Nat) : Int) = 24 + (i : Int) by omega] at k
          exact k)
        clear hcu hru hl
        go_wp2_with fail
        with_reducible refine P.out.mono ?_
        rintro e w8 ⟨rfl, hm8⟩
        have M8 := Lib.hid hm8
        clear hm8 cu P
        go_wp2
        go_roundw
        case rel => exact ⟨i + 1, by omega, by omega, by go_num, M8.out⟩
        case measure => simp [intOf]; omega
      · obtain ⟨x, ex⟩ : ∃ x, x = Ln i := ⟨_, rfl⟩
        rw [← ex] at cu
        have e1 : ((x : Int) == 64) = false := by simp; omega
        clear hcu hru hl ex
        go_wp2
        go_roundw
        case rel => exact ⟨i + 1, by omega, by omega, by go_num, MM.out.more (by omega)⟩
        case measure => simp [intOf]; omega
    · have hcond : (i < N ∧ i = 16) ∨ N ≤ i := by omega
      have HC := Lib.hid hcond
      clear hboth hcond hiN
      obtain ⟨L, D, hd, hfree, hsz, -, hbw⟩ := MM.out
      have HD := Lib.hid hd
      have FR := Lib.hid hfree
      have SZ := Lib.hid hsz
      have BW := Lib.hid hbw
      clear hd hfree hsz hbw MM
      by_cases hq : 1 ≤ s ∧ s ≤ 1073741824
      · obtain ⟨q, rfl⟩ : ∃ q : Nat, s = (q : Int) := ⟨s.toNat, by omega⟩
        have hq' : 1 ≤ q ∧ q ≤ 1073741824 := by omega
        have LD := Lib.hid (load60 HD.out FR.out.on SZ.out q hq')
        have dq1 : decide ((q : Int) < 1) = false := by simp; omega
        have dq2 : decide ((1073741824 : Int) < (q : Int)) = false := by simp; omega
        have hq2 : q < 4294967296 := by omega
        have HQ2 := Lib.hid hq2
        clear hq hq' hq2
        rcases HC.out with ⟨k1, rfl⟩ | k1
        all_goals
          go_wp2_with fail
          with_reducible refine LD.out.mono ?_
          rintro e w3 ⟨hb3, n, v, hn, hled, hx, rfl, hv⟩
          obtain ⟨Av, cv, rfl⟩ := hv.shape
          have B3 : Hid (Below w.heap.size w w3) := Lib.hid (BW.out.trans (hb3.mono BW.out.size))
          have D3 := Lib.hid (HD.out.below hb3)
          have TN := Lib.hid (show Led D.log q n ∧ n ≤ 16 ∧ (n < 16 → ¬ IsSp (D.log n) q n) from ⟨hled, hn, hx⟩)
          have VV := Lib.hid hv
          have W0 : Hid (Wants D q 0 w3 (.slice (some ⟨w3.heap.size, 0, none⟩) 0 0) (w3.alloc (.cells #[] 52))) := Lib.hid ⟨(fun i hi => absurd hi (Nat.not_lt_zero i)), ownD_new w3 _, (Below.refl _ _).alloc (Nat.le_refl _) _⟩
          clear hb3 hled hx hv LD
          go_wp2
          go_loopw [11, 12] (fun u x wr => ∃ m : Nat, m ≤ 16 ∧ x = .int .i64 (m : Int) ∧ Wants D q m w3 u wr) (fun _ x _ => 16 - (intOf x).toNat)
          case atStart => exact ⟨0, by omega, rfl, W0.out⟩
          case round =>
            clear W0
            obtain ⟨m, hm, rfl, h1, h2, h3⟩ := hrel
            have H1 := Lib.hid h1
            have H2 := Lib.hid h2
            have H3 := Lib.hid h3
            clear h1 h2 h3
            by_cases hk : m < 16
            · have DW := Lib.hid (D3.out.below H3.out)
              have G : Hid (Calls Try.prog 9 #[.pointer (some ⟨g, 0, none⟩), .int .i64 (24 + (m : Int))] wr (Got (D.log m) wr)) := Lib.hid (by
                have hh := dev_get_ok DW.out (t := 24 + m) FR.out.on (by rw [SZ.out]; omega)
                rw [show ((24 + m : Nat) : Int) = 24 + (m : Int) by omega] at hh
                exact hh)
              have hsm := DW.out.small (t := 24 + m) (by rw [SZ.out]; omega)
              go_wp2_with fail
              with_reducible refine G.out.mono ?_
              rintro e w4 ⟨k, rfl, hrow, -, hb4⟩
              have RW := Lib.hid (got_reads hrow hsm)
              have RD := Lib.hid (lawRead_any _ (D.log m) w4 RW.out)
              have B4 := Lib.hid hb4
              clear hrow hsm hb4 G
              go_wp2_with fail
              with_reducible refine RD.out.mono ?_
              rintro e w5 ⟨hb5, ⟨htold, u2, rfl, hu2⟩ | ⟨hnt, rfl⟩⟩
              · obtain ⟨Au, cu, rfl⟩ := hu2.shape
                have B45 : Hid (Below wr.heap.size wr w5) := Lib.hid (B4.out.trans (hb5.mono B4.out.size))
                have R5 : Hid (Reads w5 (.slice (some ⟨k, 0, none⟩) 64 64) 64 (D.log m)) := Lib.hid (RW.out.below hb5)
                have SC : Hid (∀ W, Below w5.heap.size w5 W → Calls Try.prog 11 #[.int .i64 (q : Int), .int .i64 (m : Int), .slice Au (D.log m 5) cu] W (Fresh (.string (str (spS q m (D.log m 5) (sdel (D.log m))) 64)) W)) :=
                  Lib.hid fun W hb => lawSector_ok _ (D.log m 5) q m (sdel (D.log m)) W (by have := htold.2.2.1; omega) HQ2.out (by omega) (hu2.reads.below hb) htold.2.2.2
                have cv1 : ∀ z : Later w5, (convert 28 9 (.slice (some ⟨k, 0, none⟩) 64 64)).run Try.prog z.val = .ok (.string (str (D.log m) 64)) z.val := fun z => (R5.out.below z.ext).conv
                obtain ⟨X, hX⟩ : ∃ X, X = str (spS q m (D.log m 5) (sdel (D.log m))) 64 := ⟨_, rfl⟩
                obtain ⟨Y, hY⟩ : ∃ Y, Y = str (D.log m) 64 := ⟨_, rfl⟩
                obtain ⟨b, hb⟩ : ∃ b, b = (X.toList == Y.toList) := ⟨_, rfl⟩
                have hbs : b = true ↔ IsSp (D.log m) q m := by
                  rw [hb, hX, hY]
                  constructor
                  · intro h
                    refine ⟨htold.2.1, htold.2.2.1, htold.2.2.2, fun j hj => ?_⟩
                    obtain ⟨_, _, e5, _, _, _, p5⟩ := R5.out
                    exact (str_inj (fun i _ => spS_lt (by omega) (by have := htold.2.2.1; omega) htold.2.2.2 i) p5.small h j hj).symm
                  · intro h
                    exact str_same fun j hj => (h.2.2.2 j hj).symm
                rw [← hX] at SC
                rw [← hY] at cv1
                have ebr := hb.symm
                have HBS := Lib.hid hbs
                have HU2 := Lib.hid hu2
                have HT6 : Hid (D.log m 5 ≤ 6) := Lib.hid htold.2.2.1
                obtain ⟨y, hy⟩ : ∃ y, y = D.log m 5 := ⟨_, rfl⟩
                rw [← hy] at SC HU2 HT6 ⊢
                have HY := Lib.hid hy
                clear hX hY hb hbs hu2 htold hb5 hy RD
                go_wp2
                refine region_later (by kernel_rfl) (by kernel_rfl) ?_
                repeat (go_big_quiet_step (first
                  | (go_at_call 11; with_reducible exact later_fresh_ SC.out)))
                refine wpQuiet_nil ?_
                rintro w9 ⟨⟨w10, hb9⟩, hw9⟩
                obtain rfl : w9 = w10 := hw9
                have B9 : Hid (Below wr.heap.size wr w9) := Lib.hid (B45.out.trans (hb9.mono B45.out.size))
                have B39 : Hid (Below w3.heap.size w3 w9) := Lib.hid (H3.out.trans (B9.out.mono H3.out.size))
                have U9 := Lib.hid (HU2.out.below_ hb9)
                have OW := Lib.hid (H2.out.below_ B9.out)
                clear cv1 hb9 ebr SC HU2
                cases b with
                | true =>
                  have hsp : IsSp (D.log m) q m := HBS.out.1 rfl
                  have hc := spC_le H1.out
                  have hy6 := HT6.out
                  obtain ⟨v5, w12, r5, p5, g5⟩ := run_dels 32 OW.out U9.out.reads (by omega) B39.out.size
                  have hb12 : Below w3.heap.size w3 w12 := OW.out.grown_below B39.out (Nat.le_refl _) B39.out.size g5
                  have NX : Hid (Wants D q (m + 1) w3 v5 w12) := Lib.hid ⟨fun j hj => by
                    rcases (by omega : j < m ∨ j = m) with h | rfl
                    · exact H1.out j h
                    · exact hsp, by
                    show OwnD w12 w3.heap.size v5 (spC D.log m + D.log m 5) (spD D.log (m + 1))
                    rw [← HY.out]
                    exact p5.congr fun j _ => rfl, hb12⟩
                  have RR := Lib.hid r5
                  clear hsp hc hy6 r5 p5 g5 hb12
                  go_wp2_with (at_builtin; refine Lib.wpList_append_run _ rfl (.tmp 108) (.tmp 109) _ _ rfl _ _ rfl rfl _ _ RR.out ?_)
                  go_roundw
                  case rel => exact ⟨m + 1, by omega, by go_num, NX.out⟩
                  case measure => simp [intOf]; omega
                | false =>
                  have hnsp : ¬ IsSp (D.log m) q m := fun h => by
                    have := HBS.out.2 h
                    cases this
                  obtain rfl : n = m := till_of TN.out.1 TN.out.2.1 TN.out.2.2 H1.out hm (fun _ => hnsp)
                  have SM := Lib.hid fun W' (hb' : Below w9.heap.size w9 W') => (same_any (.slice Av (spC D.log n) cv) _ (spC D.log n) (spD D.log n) W' ((VV.out.below_ B39.out).below_ hb').reads (OW.out.below_ hb').reads (spD_valid H1.out)).mono fun e w' (hh : _ ∧ _) => (⟨hh.1, hb'.trans (hh.2.mono hb'.size)⟩ : e = .returned (.bool true) ∧ Below w9.heap.size w9 w')
                  have BF : Hid (Below w.heap.size w w9) := Lib.hid (B3.out.trans (B39.out.mono B3.out.size))
                  go_wp2_with fail
                  with_reducible refine (SM.out _ (by first | exact Below.refl _ _ | exact below_drewN (Below.refl _ _) _)).mono ?_
                  rintro e w11 ⟨rfl, hb11⟩
                  have B11 : Hid (Below w.heap.size w w11) := Lib.hid (BF.out.trans (hb11.mono BF.out.size))
                  clear hb11
                  go_wp2
                  go_ret
                  exact ⟨rfl, B11.out⟩
              · have hnsp : ¬ IsSp (D.log m) q m := fun h => hnt (told_is h)
                have B9 : Hid (Below wr.heap.size wr w5) := Lib.hid (B4.out.trans (hb5.mono B4.out.size))
                have B39 : Hid (Below w3.heap.size w3 w5) := Lib.hid (H3.out.trans (B9.out.mono H3.out.size))
                have OW := Lib.hid (H2.out.below_ B9.out)
                clear hnt hb5 RD
                go_wp2
                go_quiet (fail)
                obtain rfl : n = m := till_of TN.out.1 TN.out.2.1 TN.out.2.2 H1.out hm (fun _ => hnsp)
                have SM := Lib.hid fun W' (hb' : Below w5.heap.size w5 W') => (same_any (.slice Av (spC D.log n) cv) _ (spC D.log n) (spD D.log n) W' ((VV.out.below_ B39.out).below_ hb').reads (OW.out.below_ hb').reads (spD_valid H1.out)).mono fun e w' (hh : _ ∧ _) => (⟨hh.1, hb'.trans (hh.2.mono hb'.size)⟩ : e = .returned (.bool true) ∧ Below w5.heap.size w5 w')
                have BF : Hid (Below w.heap.size w w5) := Lib.hid (B3.out.trans (B39.out.mono B3.out.size))
                go_wp2_with fail
                with_reducible refine (SM.out _ (by first | exact Below.refl _ _ | exact below_drewN (Below.refl _ _) _)).mono ?_
                rintro e w11 ⟨rfl, hb11⟩
                have B11 : Hid (Below w.heap.size w w11) := Lib.hid (BF.out.trans (hb11.mono BF.out.size))
                clear hb11
                go_wp2
                go_ret
                exact ⟨rfl, B11.out⟩
            · have OW := Lib.hid H2.out
              obtain rfl : n = m := till_of TN.out.1 TN.out.2.1 TN.out.2.2 H1.out hm (fun h => absurd h hk)
              have SM := Lib.hid fun W' (hb' : Below wr.heap.size wr W') => (same_any (.slice Av (spC D.log n) cv) _ (spC D.log n) (spD D.log n) W' ((VV.out.below_ H3.out).below_ hb').reads (OW.out.below_ hb').reads (spD_valid H1.out)).mono fun e w' (hh : _ ∧ _) => (⟨hh.1, hb'.trans (hh.2.mono hb'.size)⟩ : e = .returned (.bool true) ∧ Below wr.heap.size wr w')
              have BF : Hid (Below w.heap.size w wr) := Lib.hid (B3.out.trans (H3.out.mono B3.out.size))
              go_wp2_with fail
              with_reducible refine (SM.out _ (by first | exact Below.refl _ _ | exact below_drewN (Below.refl _ _) _)).mono ?_
              rintro e w11 ⟨rfl, hb11⟩
              have B11 : Hid (Below w.heap.size w w11) := Lib.hid (BF.out.trans (hb11.mono BF.out.size))
              clear hb11
              go_wp2
              go_ret
              exact ⟨rfl, B11.out⟩
      · have LA := Lib.hid (spLoad_arg g s wr hq)
        by_cases hs1 : s < 1
        · have ds1 : decide (s < 1) = true := by simp; omega
          clear hq
          rcases HC.out with ⟨k1, rfl⟩ | k1
          all_goals
            go_wp2_with fail
            with_reducible refine LA.out.mono ?_
            rintro e w3 ⟨rfl, rfl⟩
            go_wp2
            go_ret
            exact ⟨rfl, BW.out⟩
        · have ds1 : decide (s < 1) = false := by simp; omega
          have ds2 : decide ((1073741824 : Int) < s) = true := by simp; omega
          clear hq
          rcases HC.out with ⟨k1, rfl⟩ | k1
          all_goals
            go_wp2_with fail
            with_reducible refine LA.out.mono ?_
            rintro e w3 ⟨rfl, rfl⟩
            go_wp2
            go_ret
            exact ⟨rfl, BW.out⟩

set_option linter.unusedVariables false in
theorem walk (w : World) (A0 : Option Addr) (n0 c0 : Nat) (L0 : Nat → Nat) (F0 : Nat → Nat → Nat) (s0 : ReadsP w (.slice A0 n0 c0) n0 L0 F0) (a1 : Int) (w1 : (Lit.int .i64 a1).wf = true) :
    Calls Try.prog 3 #[.slice A0 n0 c0, .int .i64 a1] w (Fresh (.bool true) w) := by
  exact text _ _ _ _ _ _ w s0

/-! ### the law's end -/
set_option linter.unusedVariables false
theorem own : ownKnob Try.prog.godebug = none := by kernel_rfl
theorem laidOut : laidOutB Try.prog = true := by kernel_rfl
set_option maxRecDepth 100000 in

theorem lifted (os : Os) (started : os.Started) (H : Type) (enc : TypeId × Value → H) :
    ReturnsInHanded {} Try.checked os 3 .any (Rows.spoolLoadsSpec.pre6 enc Try.prog Try.f3 Rows.spoolLoadsRow.domain false) (Rows.spoolLoadsSpec.post enc Try.prog Try.f3 false true false false) := by
  refine returnsInHanded_of_change_sized (C := Try.checked) own started (by kernel_rfl) Try.func3
    (ChangeSpec.witness6 (enc := enc) (C := Try.checked) false ⟨#[], #[.slice none 0 0, .int .i64 0], []⟩ 8 (by kernel_rfl) (by kernel_rfl) (by kernel_rfl) (by kernel_rfl)) ?_
  intro W base args ds gs before hval0 hW _ hsz0 _
  have hsz : (DataW.weightsEach Try.prog (Try.f3.params.toList ++ Rows.spoolLoadsSpec.plain.varTypes Try.prog) (ds ++ gs)).all (· ≤ reachBytes) = true := hsz0
  clear hsz0
  have hval : ∀ (j : Nat) t v, Try.f3.params[j]? = some t → args[j]? = some v → Value.okWide Try.prog W .any base t v := hval0
  have hW' := hW
  obtain ⟨p, q, hA0, hV, rfl, _, _⟩ := hW
  have hA : DataW.TrodAll enc Try.prog W 0 (fun _ => true) true Try.f3.params.toList args.toList ds p := hA0
  rw [Try.params3] at hA hval hsz
  obtain ⟨v0, vs0, d0, ds0, p0, q0, hargs, rfl, rfl, h0, u0⟩ := trodAll_cons hA
  obtain ⟨v1, vs1, d1, ds1, p1, q1, rfl, rfl, rfl, h1, u1⟩ := trodAll_cons u0
  obtain ⟨rfl, rfl, rfl⟩ := trodAll_nil u1
  obtain rfl : args = #[v0, v1] := by cases args; simp_all
  obtain ⟨rfl, rfl⟩ := trodVars_none hV
  clear hA0 hval0
  obtain ⟨A0, n0, c0, rfl⟩ := okWide_slice Try.underlying22 (hval 0 22 v0 rfl rfl)
  have k0 := h0
  obtain ⟨L0, F0, s0⟩ := view_pages Try.underlying22 Try.underlying28 Try.underlying5 (by kernel_rfl) (by kernel_rfl) h0
  have k1 := h1
  obtain ⟨a1, rfl, rfl, rfl, w1⟩ := open_int Try.underlying3 (hval 1 3 v1 rfl rfl) h1
  simp only [List.append_nil] at hW'
  have hlt : ∀ x ∈ p0, x.block < W.heap.size := fun x hx => by simpa using hW'.lt x (by simpa using hx)
  refine (walk W A0 n0 c0 L0 F0 s0 a1 w1).mono fun e W' ⟨he, hb⟩ => ?_
  subst he
  exact ⟨_, rfl, _, _, _, [], _, [], hW', (trodAll_cons_mk (shut_bool Try.underlying4 _) trodAll_mk0), (trodAll_cons_mk (Below.trod laidOut (by kernel_rfl) (of_decide_eq_true (by kernel_rfl)) k0 hb (fun x hx => hlt x (by simp [hx]))) (trodAll_cons_mk (Below.trod laidOut (by kernel_rfl) (of_decide_eq_true (by kernel_rfl)) k1 hb (fun x hx => (by cases hx))) trodAll_mk0)), rfl, hb.frame _, fun h => by cases h⟩

theorem over : Rows.spoolLoadsRow.holds Try.pinned (OpenSpec.ofChange Rows.spoolLoadsSpec) :=
  OpenClaim.holds_of_wide 3 Try.f3 rfl rfl rfl rfl rfl rfl rfl ⟨rfl, rfl, rfl, rfl, rfl⟩ rfl rfl rfl rfl rfl (by kernel_rfl) Try.func3 (by kernel_rfl)
    (of_decide_eq_true (by kernel_rfl)) (by unfold Func.isWrapper; first | (rw [if_pos (by decide +kernel)]; kernel_rfl) | (rw [if_neg (by decide +kernel)]; exact ⟨rfl, rfl⟩))
    (fun os started H enc _ => lifted os started H enc)

theorem proved : Rows.SpoolLoadsSaid := over
#print axioms proved
end Go.Proofs.Ytmgeifolgdgapaa.spoolLoads
