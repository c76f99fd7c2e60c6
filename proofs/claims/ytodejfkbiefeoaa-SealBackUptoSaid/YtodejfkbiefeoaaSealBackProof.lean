/- What was sealed is opened, with 0 behind; a text may be summed in two parts. For every input of bulk at most 1048576. -/
import Derived.Test.YtodejfkbiefeoaaSealRef
import Derived.Test.YtodejfkbiefeoaaCalm
import Derived.Deep.CondSized
import Derived.Test.YtodejfkbiefeoaaBulk
namespace Go.Proofs.Ytodejfkbiefeoaa.sealBack
open Go.ChangeShapes Go.WideShapes Go.ChangeAt Go.RowKit

/-- The two texts, one behind the other: what the two appends leave. -/
theorem both_appends (w : World) (A B : Option Addr) (n c m d : Nat) (f g : Nat → Nat) (h : BytesAt w A n f) (hbare : A = none → c = 0) (hs : BytesAt w B m g) (hbare2 : B = none → d = 0) (hn : n + m ≤ 140737488355328) :
    ∃ v1 w1 v2 w2, (Builtin.append_ #[23, 23] 23 #[.slice (some ⟨w.heap.size, 0, none⟩) 0 0, .slice A n c]).run Try.prog (w.alloc (.cells #[] 5)) = .ok v1 w1 ∧
      (Builtin.append_ #[23, 23] 23 #[v1, .slice B m d]).run Try.prog w1 = .ok v2 w2 ∧
      (∃ x cap, v2 = .slice (some ⟨x, 0, none⟩) (n + m) cap ∧ BytesAt w2 (some ⟨x, 0, none⟩) (n + m) (behind f n g)) ∧ Below w.heap.size w w2 := by
  have hb0 : Below w.heap.size w (w.alloc (.cells #[] 5)) := (Below.refl _ _).alloc (Nat.le_refl _) _
  obtain ⟨v1, w1, r1, o1, n1, g1⟩ := run_bytes (c := c) 23 (own_new w f) (by intro e; cases e) (h.below hb0) hbare (by omega) hb0.size
  have hb1 : Below w.heap.size w w1 := (own_new w f).grown_below hb0 (Nat.le_refl _) hb0.size g1
  rw [Nat.zero_add] at o1
  have o1' : Own w1 w.heap.size v1 n f := o1.congr fun i _ => by unfold behind; rw [if_neg (by omega)]; rfl
  obtain ⟨v2, w2, r2, o2, n2, g2⟩ := run_bytes (c := d) 23 o1' n1 (hs.below hb1) hbare2 (by omega) hb1.size
  have hb2 : Below w.heap.size w w2 := o1'.grown_below hb1 (Nat.le_refl _) hb1.size g2
  obtain ⟨x, cap, hv, _, _, _, _, hby⟩ := (o2.row n2).bytes (Nat.le_refl _) (fun i hi => by
    unfold behind
    by_cases h1 : i < n
    · rw [if_pos h1]; exact h.small i h1
    · rw [if_neg h1]; exact hs.small _ (by omega))
  exact ⟨v1, w1, v2, w2, r1, r2, ⟨x, cap, hv, hby⟩, hb2⟩

theorem text (A B : Option Addr) (n c m d : Nat) (f g : Nat → Nat) (w : World) (h : BytesAt w A n f) (hbare : A = none → c = 0) (hs : BytesAt w B m g) (hbare2 : B = none → d = 0)
    (hn : n + m ≤ 140737488355328) :
    Calls Try.prog 5 #[.slice A n c, .slice B m d] w (Fresh (.bool true) w) := by
  obtain ⟨v1, w1, v2, w2, r1, r2, ⟨x, cap, hv, hby⟩, hb⟩ := both_appends w A B n c m d f g h hbare hs hbare2 hn
  subst hv
  have R1 := Lib.hid r1
  have R2 := Lib.hid r2
  have B2 := Lib.hid hb
  have Y2 := Lib.hid hby
  have H := Lib.hid h
  have HS := Lib.hid hs
  have H2 := Lib.hid (h.below hb)
  obtain ⟨s, es⟩ : ∃ s, s = crc f n := ⟨_, rfl⟩
  obtain ⟨t, et⟩ : ∃ t, t = crc (behind f n g) (n + m) := ⟨_, rfl⟩
  have ES := Lib.hid es
  have ET := Lib.hid et
  clear r1 r2 hb hby h hs es et
  go_enter Try.func5, Try.ntmps5
  go_wp2_with fail
  with_reducible refine (sum_any A n c f _ (by omega) H.out).mono ?_
  rintro e w' ⟨rfl, rfl⟩
  rw [← ES.out]
  go_wp2_with fail
  with_reducible refine (more_any s B m d g _ (by omega) HS.out).mono ?_
  rintro e w' ⟨rfl, rfl⟩
  rw [ES.out, crc_behind, ← ET.out]
  go_wp2_with (first
    | (at_builtin; refine Lib.wpList_append_run _ rfl (.tmp 14) (.tmp 15) _ _ rfl _ _ rfl rfl _ _ R1.out ?_)
    | (at_builtin; refine Lib.wpList_append_run _ rfl (.tmp 16) (.tmp 17) _ _ rfl _ _ rfl rfl _ _ R2.out ?_))
  with_reducible refine (sum_any (some ⟨x, 0, none⟩) (n + m) cap (behind f n g) _ (by omega) Y2.out).mono ?_
  rintro e w' ⟨rfl, rfl⟩
  rw [← ET.out]
  by_cases hl : 60 < n
  · have hd : decide (60 < (n : Int)) = true := by simp; omega
    go_wp2_with fail
    with_reducible refine (close_long A n c _ (by omega) hl).mono ?_
    rintro e w' ⟨rfl, rfl⟩
    go_wp2_with fail
    refine (awake_any _).mono ?_
    rintro e w3 ⟨rfl, hb3⟩
    go_wp2
    go_ret
    exact ⟨rfl, B2.out.trans (hb3.mono B2.out.size)⟩
  · have F := Lib.hid (fun i => sec_lt H.out.small i)
    go_wp2_with fail
    with_reducible refine (close_any A n c f _ (by omega) H2.out).mono ?_
    rintro e w3 ⟨v, rfl, hr, hb3⟩
    obtain ⟨gx, cx, rfl, _, _, hcx, hcx2, hx⟩ := hr.bytes (Nat.le_refl _) (fun i _ => F.out i)
    have X3 := Lib.hid hx
    have H3 := Lib.hid (H2.out.below hb3)
    have B3 : Hid (Below w.heap.size w w3) := Lib.hid (B2.out.trans (hb3.mono B2.out.size))
    clear hr hx hb3
    go_wp2_with fail
    with_reducible refine (open_ok ⟨gx, 0, none⟩ cx _ w3 hcx hcx2 X3.out (fun i _ => sec_sealed f n i)).mono ?_
    rintro e w4 ⟨v4, rfl, hr4, hb4⟩
    obtain ⟨go, co, rfl, _, hgo, hco, hco2, ho⟩ := hr4.bytes (Nat.le_refl _) (fun i _ => F.out i)
    have O4 := Lib.hid ho
    have H4 := Lib.hid (H3.out.below hb4)
    have B4 : Hid (Below w.heap.size w w4) := Lib.hid (B3.out.trans (hb4.mono B3.out.size))
    obtain ⟨S, eS⟩ : ∃ S, S = str f n := ⟨_, rfl⟩
    have k1 : ∀ z : Later w4, (convert 23 9 (.slice (some ⟨go, 0, none⟩) n co)).run Try.prog z.val = .ok (.string S) z.val := fun z => by
      rw [eS, ← str_congr (f := sec f n) (fun i hi => by rw [sec_low (by omega)]; unfold pad; rw [if_pos hi])]
      exact conv_str co ((O4.out.first (by omega)).below z.ext)
    have k2 : ∀ z : Later w4, (convert 23 9 (.slice A n c)).run Try.prog z.val = .ok (.string S) z.val := fun z => by
      rw [eS]
      exact conv_str c (H4.out.below z.ext)
    clear hr4 ho hb4 eS
    go_wp2
    refine region_later (by kernel_rfl) (by kernel_rfl) ?_
    repeat (go_big_quiet_step (first
      | (go_at_call 9; exact later_fresh (fun W => awake_any W))))
    refine wpQuiet_nil ?_
    rintro w9 ⟨⟨w5, hb5⟩, hw9⟩
    obtain rfl : w9 = w5 := hw9
    have O5 := Lib.hid (O4.out.below hb5)
    have B5 : Hid (Below w.heap.size w w9) := Lib.hid (B4.out.trans (hb5.mono B4.out.size))
    clear k1 k2 hb5 O4 H4 B4
    have hn60 : n ≤ 60 := by omega
    go_wp2
    go_loop [9] (fun v => ∃ i : Nat, n ≤ i ∧ i ≤ 60 ∧ v = .int .i64 (i : Int)) (fun v => 60 - (intOf v).toNat)
    case atStart => exact ⟨n, Nat.le_refl _, hn60, rfl⟩
    case round =>
      obtain ⟨i, hi, h60, rfl⟩ := hrel
      by_cases hlt : i < 60
      · have hz : sec f n i = 0 := by rw [sec_low hlt]; unfold pad; rw [if_neg (by omega)]
        have hc := O5.out.at_ hlt
        rw [hz, add_nil] at hc
        clear hz
        go_wp2
        go_round
        case rel => exact ⟨i + 1, by omega, by omega, by go_num⟩
        case measure => simp [intOf]; omega
      · obtain rfl : i = 60 := by omega
        go_wp2
        go_ret
        exact ⟨rfl, B5.out⟩

set_option linter.unusedVariables false in
theorem walk (w : World) (A0 : Option Addr) (n0 c0 : Nat) (Z0 : List Int) (s0 : IntsIn w .u8 A0 n0 c0 Z0) (r0 : n0 * 1 ≤ 140737488351232) (u0 : n0 ≤ 1048576) (A1 : Option Addr) (n1 c1 : Nat) (Z1 : List Int) (s1 : IntsIn w .u8 A1 n1 c1 Z1) (r1 : n1 * 1 ≤ 140737488351232) (u1 : n1 ≤ 1048576) :
    Calls Try.prog 5 #[.slice A0 n0 c0, .slice A1 n1 c1] w (Fresh (.bool true) w) := by
  exact text A0 A1 n0 c0 n1 c1 _ _ w (bytes_in s0) (bare_of s0) (bytes_in s1) (bare_of s1) (by omega)

/-! ### the law's end -/
set_option linter.unusedVariables false
theorem own : ownKnob Try.prog.godebug = none := by kernel_rfl
theorem laidOut : laidOutB Try.prog = true := by kernel_rfl
set_option maxRecDepth 100000 in

theorem lifted (os : Os) (started : os.Started) (H : Type) (enc : TypeId × Value → H) (F : Stop.Interp) :
    ReturnsInHanded {} Try.checked os 5 .any ((Rows.OpenSpec.upto Rows.sealBackSpec).pre6 enc Try.prog Try.f5 Rows.sealBackUptoRow.domain false) (((Rows.OpenSpec.upto Rows.sealBackSpec).at F).post enc Try.prog Try.f5 false true false false) := by
  refine returnsInHanded_of_cond_sized (C := Try.checked) (s := Rows.OpenSpec.upto Rows.sealBackSpec) (k := Rows.uptoSmall) rfl own started (by kernel_rfl) Try.func5
    (OpenSpec.witness (enc := enc) (C := Try.checked) (s := Rows.OpenSpec.upto Rows.sealBackSpec) (k := Rows.uptoSmall) rfl false ⟨#[], #[.slice none 0 0, .slice none 0 0], []⟩ 8 (by kernel_rfl) (by kernel_rfl) (by kernel_rfl)
      (x := ([.nil, .nil], [], [])) (by kernel_rfl) rfl (by kernel_rfl)) ?_
  intro W base args ds gs before hval0 hW _ hk hsz0 _
  have hsz : (DataW.weightsEach Try.prog (Try.f5.params.toList ++ Rows.sealBackSpec.plain.varTypes Try.prog) (ds ++ gs)).all (· ≤ reachBytes) = true := hsz0
  clear hsz0
  have hval : ∀ (j : Nat) t v, Try.f5.params[j]? = some t → args[j]? = some v → Value.okWide Try.prog W .any base t v := hval0
  have hW' := hW
  obtain ⟨p, q, hA0, hV, rfl, _, _⟩ := hW
  have hA : DataW.TrodAll enc Try.prog W 0 (fun _ => true) true Try.f5.params.toList args.toList ds p := hA0
  rw [Try.params5] at hA hval hsz
  obtain ⟨v0, vs0, d0, ds0, p0, q0, hargs, rfl, rfl, h0, u0⟩ := trodAll_cons hA
  obtain ⟨v1, vs1, d1, ds1, p1, q1, rfl, rfl, rfl, h1, u1⟩ := trodAll_cons u0
  obtain ⟨rfl, rfl, rfl⟩ := trodAll_nil u1
  obtain rfl : args = #[v0, v1] := by cases args; simp_all
  obtain ⟨rfl, rfl⟩ := trodVars_none hV
  clear hA0 hval0
  obtain ⟨A0, n0, c0, rfl⟩ := okWide_slice Try.underlying23 (hval 0 23 v0 rfl rfl)
  have k0 := h0
  obtain ⟨Z0, s0, z0⟩ := view_ints Try.underlying23 Try.underlying5 (by kernel_rfl) h0
  have r0 := reach_of (b := 1) hsz (j := 0) (t := 23) (e := 5) rfl rfl Try.underlying23 (by kernel_rfl) z0
  have bk0 := bulk_len hk (d := d0) (by simp) z0
  obtain ⟨A1, n1, c1, rfl⟩ := okWide_slice Try.underlying23 (hval 1 23 v1 rfl rfl)
  have k1 := h1
  obtain ⟨Z1, s1, z1⟩ := view_ints Try.underlying23 Try.underlying5 (by kernel_rfl) h1
  have r1 := reach_of (b := 1) hsz (j := 1) (t := 23) (e := 5) rfl rfl Try.underlying23 (by kernel_rfl) z1
  have bk1 := bulk_len hk (d := d1) (by simp) z1
  simp only [List.append_nil] at hW'
  have hlt : ∀ x ∈ p0 ++ p1, x.block < W.heap.size := fun x hx => by simpa using hW'.lt x (by simpa using hx)
  refine (walk W A0 n0 c0 Z0 s0 r0 bk0 A1 n1 c1 Z1 s1 r1 bk1).mono fun e W' ⟨he, hb⟩ => ?_
  subst he
  exact ⟨_, rfl, _, _, _, [], _, [], hW', (trodAll_cons_mk (shut_bool Try.underlying4 _) trodAll_mk0), (trodAll_cons_mk (Below.trod laidOut (by kernel_rfl) (of_decide_eq_true (by kernel_rfl)) k0 hb (fun x hx => hlt x (by simp [hx]))) (trodAll_cons_mk (Below.trod laidOut (by kernel_rfl) (of_decide_eq_true (by kernel_rfl)) k1 hb (fun x hx => hlt x (by simp [hx]))) trodAll_mk0)), rfl, hb.frame _, fun h => by cases h⟩

theorem over : Rows.sealBackUptoRow.holds Try.pinned (Rows.OpenSpec.upto Rows.sealBackSpec) :=
  OpenClaim.holds_of_cond 5 Try.f5 rfl rfl rfl rfl rfl rfl rfl ⟨rfl, rfl, rfl, rfl, rfl⟩ rfl rfl rfl rfl rfl (by kernel_rfl) Try.func5 (by kernel_rfl)
    (of_decide_eq_true (by kernel_rfl)) (by unfold Func.isWrapper; first | (rw [if_pos (by decide +kernel)]; kernel_rfl) | (rw [if_neg (by decide +kernel)]; exact ⟨rfl, rfl⟩))
    (fun os started H enc _ F => lifted os started H enc F)

theorem proved : Rows.SealBackUptoSaid := over
#print axioms proved
end Go.Proofs.Ytodejfkbiefeoaa.sealBack
