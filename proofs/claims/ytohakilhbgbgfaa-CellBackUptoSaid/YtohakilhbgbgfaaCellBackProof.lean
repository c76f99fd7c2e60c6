/- What was put is got, wherever it stands. For every input of bulk at most 1048576. -/
import Derived.Test.YtohakilhbgbgfaaCellAwake
import Derived.Test.YtohakilhbgbgfaaCalm
import Derived.Deep.CondSized
import Derived.Test.YtohakilhbgbgfaaBulk
namespace Go.Proofs.Ytohakilhbgbgfaa.cellBack
open Go.ChangeShapes Go.WideShapes Go.ChangeAt Go.RowKit

/-- The two texts, one behind the other: what the two appends leave. -/
theorem both_appends (w : World) (A B : Option Addr) (n c m d : Nat) (f g : Nat → Nat) (h : BytesAt w A n f) (hbare : A = none → c = 0) (hs : BytesAt w B m g) (hbare2 : B = none → d = 0) (hn : n + m ≤ 140737488355328) :
    ∃ v1 w1 v2 w2, (Builtin.append_ #[22, 22] 22 #[.slice (some ⟨w.heap.size, 0, none⟩) 0 0, .slice A n c]).run Try.prog (w.alloc (.cells #[] 5)) = .ok v1 w1 ∧
      (Builtin.append_ #[22, 22] 22 #[v1, .slice B m d]).run Try.prog w1 = .ok v2 w2 ∧ Reads w2 v2 (n + m) (behind f n g) ∧ Below w.heap.size w w2 := by
  have hb0 : Below w.heap.size w (w.alloc (.cells #[] 5)) := (Below.refl _ _).alloc (Nat.le_refl _) _
  obtain ⟨v1, w1, r1, o1, _, g1⟩ := run_bytes (c := c) 22 (own_new w f) (h.below hb0) hbare (by omega) hb0.size
  have hb1 : Below w.heap.size w w1 := (own_new w f).grown_below hb0 (Nat.le_refl _) hb0.size g1
  rw [Nat.zero_add] at o1
  have o1' : Own w1 w.heap.size v1 n f := o1.congr fun i _ => by unfold behind; rw [if_neg (by omega)]; rfl
  obtain ⟨v2, w2, r2, o2, _, g2⟩ := run_bytes (c := d) 22 o1' (hs.below hb1) hbare2 (by omega) hb1.size
  have hb2 : Below w.heap.size w w2 := o1'.grown_below hb1 (Nat.le_refl _) hb1.size g2
  exact ⟨v1, w1, v2, w2, r1, r2, o2.reads (behind_lt h.small hs.small), hb2⟩

theorem got (f g : Nat → Nat) {m N k : Nat} (hN : N < 256 ^ k) : val (fun j => behind (behind f m (dig N k)) (m + k) g (m + j)) k = N := by
  rw [val_congr (g := dig N k) fun j hj => by rw [behind_low (by omega), behind_high (by omega)]; congr 1; omega]
  exact val_dig hN

theorem text (A0 A1 : Option Addr) (n0 c0 n1 c1 : Nat) (f g : Nat → Nat) (a2 a3 : Int) (w : World) (z2 : 0 ≤ a2 ∧ a2 ≤ 255) (z3 : -9223372036854775808 ≤ a3 ∧ a3 ≤ 9223372036854775807)
    (s0 : Reads w (.slice A0 n0 c0) n0 f) (s1 : Reads w (.slice A1 n1 c1) n1 g) (hn : n0 + n1 + 4 ≤ 140737488355328) :
    Calls Try.prog 6 #[.slice A0 n0 c0, .slice A1 n1 c1, .int .u8 a2, .int .i64 a3] w (Fresh (.bool true) w) := by
  obtain ⟨k, hk⟩ : ∃ k : Nat, 1 + a2 % 4 = (k : Int) := ⟨(1 + a2 % 4).toNat, by omega⟩
  have k1 : 1 ≤ k := by omega
  have k4 : k ≤ 4 := by omega
  have S0 := Lib.hid s0
  have S1 := Lib.hid s1
  obtain ⟨A0', c0', e0, p0, q0, _, r0⟩ := s0
  obtain ⟨rfl, -, rfl⟩ : A0 = A0' ∧ n0 = n0 ∧ c0 = c0' := by simpa using e0
  obtain ⟨A1', c1', e1, p1, q1, b1, r1⟩ := s1
  obtain ⟨rfl, -, rfl⟩ : A1 = A1' ∧ n1 = n1 ∧ c1 = c1' := by simpa using e1
  have R0 := Lib.hid r0
  have R1 := Lib.hid r1
  clear e0 e1 r0 r1
  by_cases hN : 0 ≤ a3 ∧ a3 < ((256 ^ k : Nat) : Int)
  · obtain ⟨N, rfl⟩ := Int.eq_ofNat_of_zero_le hN.1
    have HN : Hid (N < 256 ^ k) := Lib.hid (by omega)
    clear hN
    go_enter Try.func6, Try.ntmps6
    go_wp2_with fail
    with_reducible refine (put_ok (.slice A0 n0 c0) n0 f k N _ k1 k4 HN.out S0.out (by omega)).mono ?_
    rintro e w1 ⟨v1, rfl, hr1, hb1⟩
    obtain ⟨Ab, cb, rfl, pb, qb, bb, rb⟩ := hr1
    obtain ⟨ad, rfl⟩ := rb.addr (by omega)
    have B1 := Lib.hid hb1
    have T1 := Lib.hid rb
    clear hb1 rb bb
    go_wp2_with fail
    refine (awake_any _).mono ?_
    rintro e w2 ⟨rfl, hb2⟩
    have B2 : Hid (Below w.heap.size w w2) := Lib.hid (B1.out.trans (hb2.mono B1.out.size))
    have T2 := Lib.hid (T1.out.below hb2)
    clear hb2
    obtain ⟨v3, w3, v4, w4, r3, r4, hr4, hb4⟩ := both_appends w2 (some ad) A1 (n0 + k) cb n1 c1 _ g T2.out (by intro e; cases e) (R1.out.below B2.out) b1 (by omega)
    obtain ⟨A4, c4, rfl, p4, q4, _, t4⟩ := hr4
    have R3 := Lib.hid r3
    have R4 := Lib.hid r4
    have T4 := Lib.hid t4
    have U4 := Lib.hid (T2.out.below hb4)
    have B4 : Hid (Below w.heap.size w w4) := Lib.hid (B2.out.trans (hb4.mono B2.out.size))
    clear r3 r4 t4 hb4
    go_wp2_with (first
      | (at_builtin; refine Lib.wpList_append_run _ rfl (.tmp 37) (.tmp 38) _ _ rfl _ _ rfl rfl _ _ R3.out ?_)
      | (at_builtin; refine Lib.wpList_append_run _ rfl (.tmp 39) (.tmp 40) _ _ rfl _ _ rfl rfl _ _ R4.out ?_))
    with_reducible refine (get_ok A4 (n0 + k + n1) c4 _ n0 k w4 p4 q4 k1 k4 (by omega) T4.out).mono ?_
    rintro e w' ⟨rfl, rfl⟩
    rw [got f g HN.out]
    obtain ⟨S, eS⟩ : ∃ S, S = str f n0 := ⟨_, rfl⟩
    have cv1 : ∀ z : Later w4, (convert 22 9 (.slice (some ad) n0 cb)).run Try.prog z.val = .ok (.string S) z.val := fun z => by
      rw [eS, ← str_congr (f := behind f n0 (dig N k)) (fun i hi => behind_low hi)]
      exact conv_str cb ((U4.out.first (by omega)).below z.ext)
    have cv2 : ∀ z : Later w4, (convert 22 9 (.slice A0 n0 c0)).run Try.prog z.val = .ok (.string S) z.val := fun z => by
      rw [eS]
      exact conv_str c0 ((R0.out.below B4.out).below z.ext)
    clear eS
    go_wp2
    refine region_later (by kernel_rfl) (by kernel_rfl) ?_
    repeat (go_big_quiet_step (fail))
    refine wpQuiet_nil ?_
    rintro w9 ⟨⟨w5, hb5⟩, hw9⟩
    obtain rfl : w9 = w5 := hw9
    have B5 : Hid (Below w.heap.size w w9) := Lib.hid (B4.out.trans (hb5.mono B4.out.size))
    clear cv1 cv2 hb5
    go_wp2
    go_ret
    exact ⟨rfl, B5.out⟩
  · go_enter Try.func6, Try.ntmps6
    have HN := Lib.hid hN
    clear hN
    go_wp2_with fail
    with_reducible refine (put_range (.slice A0 n0 c0) k a3 _ k1 k4 z3 HN.out).mono ?_
    rintro e w1 ⟨rfl, hb1⟩
    have B1 := Lib.hid hb1
    clear hb1
    go_wp2_with fail
    refine (awake_any _).mono ?_
    rintro e w2 ⟨rfl, hb2⟩
    have B2 : Hid (Below w.heap.size w w2) := Lib.hid (B1.out.trans (hb2.mono B1.out.size))
    clear hb2
    go_wp2_with fail
    refine (awake_any _).mono ?_
    rintro e w3 ⟨rfl, hb3⟩
    have B3 : Hid (Below w.heap.size w w3) := Lib.hid (B2.out.trans (hb3.mono B2.out.size))
    clear hb3
    go_wp2
    go_ret
    exact ⟨rfl, B3.out⟩

set_option linter.unusedVariables false in
theorem walk (w : World) (A0 : Option Addr) (n0 c0 : Nat) (Z0 : List Int) (s0 : IntsIn w .u8 A0 n0 c0 Z0) (r0 : n0 * 1 ≤ 140737488351232) (u0 : n0 ≤ 1048576) (A1 : Option Addr) (n1 c1 : Nat) (Z1 : List Int) (s1 : IntsIn w .u8 A1 n1 c1 Z1) (r1 : n1 * 1 ≤ 140737488351232) (u1 : n1 ≤ 1048576) (a2 : Int) (w2 : (Lit.int .u8 a2).wf = true) (a3 : Int) (w3 : (Lit.int .i64 a3).wf = true) :
    Calls Try.prog 6 #[.slice A0 n0 c0, .slice A1 n1 c1, .int .u8 a2, .int .i64 a3] w (Fresh (.bool true) w) := by
  exact text A0 A1 n0 c0 n1 c1 _ _ a2 a3 w (u8_in w2) (i64_in w3) (reads_in s0) (reads_in s1) (by omega)

/-! ### the law's end -/
set_option linter.unusedVariables false
theorem own : ownKnob Try.prog.godebug = none := by kernel_rfl
theorem laidOut : laidOutB Try.prog = true := by kernel_rfl
set_option maxRecDepth 100000 in

theorem lifted (os : Os) (started : os.Started) (H : Type) (enc : TypeId × Value → H) (F : Stop.Interp) :
    ReturnsInHanded {} Try.checked os 6 .any ((Rows.OpenSpec.upto Rows.cellBackSpec).pre6 enc Try.prog Try.f6 Rows.cellBackUptoRow.domain false) (((Rows.OpenSpec.upto Rows.cellBackSpec).at F).post enc Try.prog Try.f6 false true false false) := by
  refine returnsInHanded_of_cond_sized (C := Try.checked) (s := Rows.OpenSpec.upto Rows.cellBackSpec) (k := Rows.uptoSmall) rfl own started (by kernel_rfl) Try.func6
    (OpenSpec.witness (enc := enc) (C := Try.checked) (s := Rows.OpenSpec.upto Rows.cellBackSpec) (k := Rows.uptoSmall) rfl false ⟨#[], #[.slice none 0 0, .slice none 0 0, .int .u8 0, .int .i64 0], []⟩ 8 (by kernel_rfl) (by kernel_rfl) (by kernel_rfl)
      (x := ([.nil, .nil, .lit (.int .u8 0), .lit (.int .i64 0)], [], [])) (by kernel_rfl) rfl (by kernel_rfl)) ?_
  intro W base args ds gs before hval0 hW _ hk hsz0 _
  have hsz : (DataW.weightsEach Try.prog (Try.f6.params.toList ++ Rows.cellBackSpec.plain.varTypes Try.prog) (ds ++ gs)).all (· ≤ reachBytes) = true := hsz0
  clear hsz0
  have hval : ∀ (j : Nat) t v, Try.f6.params[j]? = some t → args[j]? = some v → Value.okWide Try.prog W .any base t v := hval0
  have hW' := hW
  obtain ⟨p, q, hA0, hV, rfl, _, _⟩ := hW
  have hA : DataW.TrodAll enc Try.prog W 0 (fun _ => true) true Try.f6.params.toList args.toList ds p := hA0
  rw [Try.params6] at hA hval hsz
  obtain ⟨v0, vs0, d0, ds0, p0, q0, hargs, rfl, rfl, h0, u0⟩ := trodAll_cons hA
  obtain ⟨v1, vs1, d1, ds1, p1, q1, rfl, rfl, rfl, h1, u1⟩ := trodAll_cons u0
  obtain ⟨v2, vs2, d2, ds2, p2, q2, rfl, rfl, rfl, h2, u2⟩ := trodAll_cons u1
  obtain ⟨v3, vs3, d3, ds3, p3, q3, rfl, rfl, rfl, h3, u3⟩ := trodAll_cons u2
  obtain ⟨rfl, rfl, rfl⟩ := trodAll_nil u3
  obtain rfl : args = #[v0, v1, v2, v3] := by cases args; simp_all
  obtain ⟨rfl, rfl⟩ := trodVars_none hV
  clear hA0 hval0
  obtain ⟨A0, n0, c0, rfl⟩ := okWide_slice Try.underlying22 (hval 0 22 v0 rfl rfl)
  have k0 := h0
  obtain ⟨Z0, s0, z0⟩ := view_ints Try.underlying22 Try.underlying5 (by kernel_rfl) h0
  have r0 := reach_of (b := 1) hsz (j := 0) (t := 22) (e := 5) rfl rfl Try.underlying22 (by kernel_rfl) z0
  have bk0 := bulk_len hk (d := d0) (by simp) z0
  obtain ⟨A1, n1, c1, rfl⟩ := okWide_slice Try.underlying22 (hval 1 22 v1 rfl rfl)
  have k1 := h1
  obtain ⟨Z1, s1, z1⟩ := view_ints Try.underlying22 Try.underlying5 (by kernel_rfl) h1
  have r1 := reach_of (b := 1) hsz (j := 1) (t := 22) (e := 5) rfl rfl Try.underlying22 (by kernel_rfl) z1
  have bk1 := bulk_len hk (d := d1) (by simp) z1
  have k2 := h2
  obtain ⟨a2, rfl, rfl, rfl, w2⟩ := open_int Try.underlying5 (hval 2 5 v2 rfl rfl) h2
  have k3 := h3
  obtain ⟨a3, rfl, rfl, rfl, w3⟩ := open_int Try.underlying3 (hval 3 3 v3 rfl rfl) h3
  simp only [List.append_nil] at hW'
  have hlt : ∀ x ∈ p0 ++ p1, x.block < W.heap.size := fun x hx => by simpa using hW'.lt x (by simpa using hx)
  refine (walk W A0 n0 c0 Z0 s0 r0 bk0 A1 n1 c1 Z1 s1 r1 bk1 a2 w2 a3 w3).mono fun e W' ⟨he, hb⟩ => ?_
  subst he
  exact ⟨_, rfl, _, _, _, [], _, [], hW', (trodAll_cons_mk (shut_bool Try.underlying4 _) trodAll_mk0), (trodAll_cons_mk (Below.trod laidOut (by kernel_rfl) (of_decide_eq_true (by kernel_rfl)) k0 hb (fun x hx => hlt x (by simp [hx]))) (trodAll_cons_mk (Below.trod laidOut (by kernel_rfl) (of_decide_eq_true (by kernel_rfl)) k1 hb (fun x hx => hlt x (by simp [hx]))) (trodAll_cons_mk (Below.trod laidOut (by kernel_rfl) (of_decide_eq_true (by kernel_rfl)) k2 hb (fun x hx => (by cases hx))) (trodAll_cons_mk (Below.trod laidOut (by kernel_rfl) (of_decide_eq_true (by kernel_rfl)) k3 hb (fun x hx => (by cases hx))) trodAll_mk0)))), rfl, hb.frame _, fun h => by cases h⟩

theorem over : Rows.cellBackUptoRow.holds Try.pinned (Rows.OpenSpec.upto Rows.cellBackSpec) :=
  OpenClaim.holds_of_cond 6 Try.f6 rfl rfl rfl rfl rfl rfl rfl ⟨rfl, rfl, rfl, rfl, rfl⟩ rfl rfl rfl rfl rfl (by kernel_rfl) Try.func6 (by kernel_rfl)
    (of_decide_eq_true (by kernel_rfl)) (by unfold Func.isWrapper; first | (rw [if_pos (by decide +kernel)]; kernel_rfl) | (rw [if_neg (by decide +kernel)]; exact ⟨rfl, rfl⟩))
    (fun os started H enc _ F => lifted os started H enc F)

theorem proved : Rows.CellBackUptoSaid := over
#print axioms proved
end Go.Proofs.Ytohakilhbgbgfaa.cellBack
