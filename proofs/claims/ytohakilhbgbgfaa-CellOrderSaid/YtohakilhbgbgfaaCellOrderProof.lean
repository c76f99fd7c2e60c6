/- Of one size a greater number has greater bytes. For every input, no condition. -/
import Derived.Test.YtohakilhbgbgfaaCellAwake
namespace Go.Proofs.Ytohakilhbgbgfaa.cellOrder
open Go.ChangeShapes Go.WideShapes Go.ChangeAt Go.RowKit

/-- What Put answers of any number, in a size that may be, behind nothing. -/
theorem put_cases (k : Nat) (a : Int) (w : World) (h1 : 1 ≤ k) (h4 : k ≤ 4) (hz : -9223372036854775808 ≤ a ∧ a ≤ 9223372036854775807) :
    (∃ N : Nat, a = (N : Int) ∧ N < 256 ^ k ∧ ∀ W, Below w.heap.size w W → Calls Try.prog 10 #[.slice none 0 0, .int .i64 (k : Int), .int .i64 a] W (Bears k (dig N k) W)) ∨
      (∀ W, Below w.heap.size w W → Calls Try.prog 10 #[.slice none 0 0, .int .i64 (k : Int), .int .i64 a] W fun e w' => e = .returned (.tuple #[.slice none 0 0, .int .i64 5]) ∧ Below W.heap.size W w') := by
  by_cases hn : 0 ≤ a ∧ a < ((256 ^ k : Nat) : Int)
  · obtain ⟨N, rfl⟩ := Int.eq_ofNat_of_zero_le hn.1
    exact .inl ⟨N, rfl, by omega, fun W _ => (put_ok (.slice none 0 0) 0 (fun _ => 0) k N W h1 h4 (by omega) (reads_none _ _) (by omega)).mono fun _ _ he => put_bears he⟩
  · exact .inr fun W _ => put_range _ k a W h1 h4 hz hn

theorem less_at : ∀ (i : Nat) (x y : List UInt8) (a b : UInt8), x[i]? = some a → y[i]? = some b → (∀ j, j < i → x[j]? = y[j]?) → a ≠ b → Op.bytesLess x y = decide (a < b) := by
  intro i
  induction i with
  | zero =>
    intro x y a b hx hy _ hne
    cases x with
    | nil => simp at hx
    | cons c x =>
      cases y with
      | nil => simp at hy
      | cons d y =>
        simp at hx hy
        subst hx
        subst hy
        simp [Op.bytesLess, hne]
  | succ i ih =>
    intro x y a b hx hy hl hne
    cases x with
    | nil => simp at hx
    | cons c x =>
      cases y with
      | nil => simp at hy
      | cons d y =>
        have h0 := hl 0 (by omega)
        simp at h0
        subst h0
        have := ih x y a b (by simpa using hx) (by simpa using hy) (fun j hj => by simpa using hl (j + 1) (by omega)) hne
        simp [Op.bytesLess, this]
theorem less_self (x : List UInt8) : Op.bytesLess x x = false := by
  induction x with
  | nil => rfl
  | cons a x ih => simp [Op.bytesLess, ih]
theorem byte_lt {a b : Nat} (ha : a < 256) (hb : b < 256) : decide (UInt8.ofNat a < UInt8.ofNat b) = decide (a < b) := by
  rw [decide_eq_decide, UInt8.lt_iff_toNat_lt]
  simp
  omega

theorem less_bytes {N M k : Nat} (hN : N < 256 ^ k) (hM : M < 256 ^ k) : Op.bytesLess (str (dig N k) k).toList (str (dig M k) k).toList = decide ((N : Int) < (M : Int)) := by
  rcases Nat.lt_trichotomy N M with h | h | h
  · obtain ⟨i, hi, hl, hlt⟩ := dig_first hN hM h
    rw [less_at i _ _ _ _ (str_at _ hi) (str_at _ hi) (fun j hj => by rw [str_at _ (by omega), str_at _ (by omega), hl j hj]) (fun e => by have := byte_inj (dig_lt _ _ _) (dig_lt _ _ _) e; omega), byte_lt (dig_lt _ _ _) (dig_lt _ _ _)]
    rw [decide_eq_true hlt, decide_eq_true (by omega)]
  · subst h
    rw [less_self]
    simp
  · obtain ⟨i, hi, hl, hlt⟩ := dig_first hM hN h
    rw [less_at i _ _ _ _ (str_at _ hi) (str_at _ hi) (fun j hj => by rw [str_at _ (by omega), str_at _ (by omega), hl j hj]) (fun e => by have := byte_inj (dig_lt _ _ _) (dig_lt _ _ _) e; omega), byte_lt (dig_lt _ _ _) (dig_lt _ _ _)]
    rw [decide_eq_false (by omega), decide_eq_false (by omega)]
theorem same_bytes {N M k : Nat} (hN : N < 256 ^ k) (hM : M < 256 ^ k) : ((str (dig N k) k).toList == (str (dig M k) k).toList) = ((N : Int) == (M : Int)) := by
  by_cases h : N = M
  · subst h; simp
  · have h2 : ((N : Int) == (M : Int)) = false := by simp; omega
    rw [h2]
    cases e : ((str (dig N k) k).toList == (str (dig M k) k).toList) with
    | false => rfl
    | true => exact absurd (dig_inj hN hM (str_inj (fun _ _ => dig_lt _ _ _) (fun _ _ => dig_lt _ _ _) e)) h

set_option linter.unusedVariables false in
theorem walk (w : World) (a0 : Int) (w0 : (Lit.int .u8 a0).wf = true) (a1 : Int) (w1 : (Lit.int .i64 a1).wf = true) (a2 : Int) (w2 : (Lit.int .i64 a2).wf = true) :
    Calls Try.prog 8 #[.int .u8 a0, .int .i64 a1, .int .i64 a2] w (Fresh (.bool true) w) := by
  have z0 := u8_in w0
  obtain ⟨k, hk⟩ : ∃ k : Nat, 1 + a0 % 4 = (k : Int) := ⟨(1 + a0 % 4).toNat, by omega⟩
  have k1 : 1 ≤ k := by omega
  have k4 : k ≤ 4 := by omega
  rcases put_cases k a1 w k1 k4 (i64_in w1) with ⟨N, rfl, hN, hx⟩ | hx
  · rcases put_cases k a2 w k1 k4 (i64_in w2) with ⟨M, rfl, hM, hy⟩ | hy
    · have X := Lib.hid hx
      have Y := Lib.hid hy
      obtain ⟨S, eS⟩ : ∃ S, S = str (dig N k) k := ⟨_, rfl⟩
      obtain ⟨T, eT⟩ : ∃ T, T = str (dig M k) k := ⟨_, rfl⟩
      have q1 := less_bytes hN hM
      have q2 := same_bytes hN hM
      rw [← eS, ← eT] at q1 q2
      have ES := Lib.hid eS
      have ET := Lib.hid eT
      clear hx hy eS eT hN hM
      go_enter Try.func8, Try.ntmps8
      go_wp2_with fail
      with_reducible refine (X.out _ (Below.refl _ _)).mono ?_
      rintro e w1 ⟨v1, rfl, ht1, hb1⟩
      have B1 := Lib.hid hb1
      have T1 := Lib.hid ht1
      clear hb1 ht1
      go_wp2_with fail
      with_reducible refine (Y.out _ B1.out).mono ?_
      rintro e w2 ⟨v2, rfl, ht2, hb2⟩
      have B2 : Hid (Below w.heap.size w w2) := Lib.hid (B1.out.trans (hb2.mono B1.out.size))
      have T2 := Lib.hid ht2
      have T1' := Lib.hid (T1.out.below hb2)
      clear hb2 ht2
      go_wp2_with fail
      refine (awake_any _).mono ?_
      rintro e w3 ⟨rfl, hb3⟩
      have c1 : (convert 22 9 v1).run Try.prog w3 = .ok (.string S) w3 := by rw [ES.out]; exact (T1'.out.below hb3).conv
      have c2 : (convert 22 9 v2).run Try.prog w3 = .ok (.string T) w3 := by rw [ET.out]; exact (T2.out.below hb3).conv
      have B3 : Hid (Below w.heap.size w w3) := Lib.hid (B2.out.trans (hb3.mono B2.out.size))
      clear hb3
      go_wp2
      go_ret
      exact ⟨rfl, B3.out⟩
    · have X := Lib.hid hx
      have Y := Lib.hid hy
      clear hx hy hN
      go_enter Try.func8, Try.ntmps8
      go_wp2_with fail
      with_reducible refine (X.out _ (Below.refl _ _)).mono ?_
      rintro e w1 ⟨v1, rfl, _, hb1⟩
      have B1 := Lib.hid hb1
      clear hb1
      go_wp2_with fail
      with_reducible refine (Y.out _ B1.out).mono ?_
      rintro e w2 ⟨rfl, hb2⟩
      have B2 : Hid (Below w.heap.size w w2) := Lib.hid (B1.out.trans (hb2.mono B1.out.size))
      clear hb2
      go_wp2_with fail
      refine (awake_any _).mono ?_
      rintro e w3 ⟨rfl, hb3⟩
      have B3 : Hid (Below w.heap.size w w3) := Lib.hid (B2.out.trans (hb3.mono B2.out.size))
      clear hb3
      go_wp2_with fail
      refine (awake_any _).mono ?_
      rintro e w4 ⟨rfl, hb4⟩
      have B4 : Hid (Below w.heap.size w w4) := Lib.hid (B3.out.trans (hb4.mono B3.out.size))
      clear hb4
      go_wp2
      go_ret
      exact ⟨rfl, B4.out⟩
  · have X := Lib.hid hx
    clear hx
    have hy : ∃ x, ∀ W, Below w.heap.size w W → Calls Try.prog 10 #[.slice none 0 0, .int .i64 (k : Int), .int .i64 a2] W fun e w' => ∃ v, e = .returned (.tuple #[v, .int .i64 x]) ∧ Below W.heap.size W w' := by
      rcases put_cases k a2 w k1 k4 (i64_in w2) with ⟨M, rfl, _, hy⟩ | hy
      · exact ⟨0, fun W hW => (hy W hW).mono fun _ _ ⟨v, he, _, hb⟩ => ⟨v, he, hb⟩⟩
      · exact ⟨5, fun W hW => (hy W hW).mono fun _ _ ⟨he, hb⟩ => ⟨_, he, hb⟩⟩
    obtain ⟨x, hy⟩ := hy
    have Y := Lib.hid hy
    clear hy
    go_enter Try.func8, Try.ntmps8
    go_wp2_with fail
    with_reducible refine (X.out _ (Below.refl _ _)).mono ?_
    rintro e w1 ⟨rfl, hb1⟩
    have B1 := Lib.hid hb1
    clear hb1
    go_wp2_with fail
    with_reducible refine (Y.out _ B1.out).mono ?_
    rintro e w2 ⟨v2, rfl, hb2⟩
    have B2 : Hid (Below w.heap.size w w2) := Lib.hid (B1.out.trans (hb2.mono B1.out.size))
    clear hb2
    go_wp2_with fail
    refine (awake_any _).mono ?_
    rintro e w3 ⟨rfl, hb3⟩
    have B3 : Hid (Below w.heap.size w w3) := Lib.hid (B2.out.trans (hb3.mono B2.out.size))
    clear hb3
    go_wp2_with fail
    refine (awake_any _).mono ?_
    rintro e w4 ⟨rfl, hb4⟩
    have B4 : Hid (Below w.heap.size w w4) := Lib.hid (B3.out.trans (hb4.mono B3.out.size))
    clear hb4
    go_wp2
    go_ret
    exact ⟨rfl, B4.out⟩

/-! ### the law's end -/
set_option linter.unusedVariables false
theorem own : ownKnob Try.prog.godebug = none := by kernel_rfl
theorem laidOut : laidOutB Try.prog = true := by kernel_rfl
set_option maxRecDepth 100000 in

theorem lifted (os : Os) (started : os.Started) (H : Type) (enc : TypeId × Value → H) :
    ReturnsInHanded {} Try.checked os 8 .any (Rows.cellOrderSpec.pre6 enc Try.prog Try.f8 Rows.cellOrderRow.domain false) (Rows.cellOrderSpec.post enc Try.prog Try.f8 false true false false) := by
  refine returnsInHanded_of_change_sized (C := Try.checked) own started (by kernel_rfl) Try.func8
    (ChangeSpec.witness6 (enc := enc) (C := Try.checked) false ⟨#[], #[.int .u8 0, .int .i64 0, .int .i64 0], []⟩ 8 (by kernel_rfl) (by kernel_rfl) (by kernel_rfl) (by kernel_rfl)) ?_
  intro W base args ds gs before hval0 hW _ hsz0 _
  have hsz : (DataW.weightsEach Try.prog (Try.f8.params.toList ++ Rows.cellOrderSpec.plain.varTypes Try.prog) (ds ++ gs)).all (· ≤ reachBytes) = true := hsz0
  clear hsz0
  have hval : ∀ (j : Nat) t v, Try.f8.params[j]? = some t → args[j]? = some v → Value.okWide Try.prog W .any base t v := hval0
  have hW' := hW
  obtain ⟨p, q, hA0, hV, rfl, _, _⟩ := hW
  have hA : DataW.TrodAll enc Try.prog W 0 (fun _ => true) true Try.f8.params.toList args.toList ds p := hA0
  rw [Try.params8] at hA hval hsz
  obtain ⟨v0, vs0, d0, ds0, p0, q0, hargs, rfl, rfl, h0, u0⟩ := trodAll_cons hA
  obtain ⟨v1, vs1, d1, ds1, p1, q1, rfl, rfl, rfl, h1, u1⟩ := trodAll_cons u0
  obtain ⟨v2, vs2, d2, ds2, p2, q2, rfl, rfl, rfl, h2, u2⟩ := trodAll_cons u1
  obtain ⟨rfl, rfl, rfl⟩ := trodAll_nil u2
  obtain rfl : args = #[v0, v1, v2] := by cases args; simp_all
  obtain ⟨rfl, rfl⟩ := trodVars_none hV
  clear hA0 hval0
  have k0 := h0
  obtain ⟨a0, rfl, rfl, rfl, w0⟩ := open_int Try.underlying5 (hval 0 5 v0 rfl rfl) h0
  have k1 := h1
  obtain ⟨a1, rfl, rfl, rfl, w1⟩ := open_int Try.underlying3 (hval 1 3 v1 rfl rfl) h1
  have k2 := h2
  obtain ⟨a2, rfl, rfl, rfl, w2⟩ := open_int Try.underlying3 (hval 2 3 v2 rfl rfl) h2
  simp only [List.append_nil] at hW'
  refine (walk W a0 w0 a1 w1 a2 w2).mono fun e W' ⟨he, hb⟩ => ?_
  subst he
  exact ⟨_, rfl, _, _, _, [], _, [], hW', (trodAll_cons_mk (shut_bool Try.underlying4 _) trodAll_mk0), (trodAll_cons_mk (Below.trod laidOut (by kernel_rfl) (of_decide_eq_true (by kernel_rfl)) k0 hb (fun x hx => (by cases hx))) (trodAll_cons_mk (Below.trod laidOut (by kernel_rfl) (of_decide_eq_true (by kernel_rfl)) k1 hb (fun x hx => (by cases hx))) (trodAll_cons_mk (Below.trod laidOut (by kernel_rfl) (of_decide_eq_true (by kernel_rfl)) k2 hb (fun x hx => (by cases hx))) trodAll_mk0))), rfl, hb.frame _, fun h => by cases h⟩

theorem over : Rows.cellOrderRow.holds Try.pinned (OpenSpec.ofChange Rows.cellOrderSpec) :=
  OpenClaim.holds_of_wide 8 Try.f8 rfl rfl rfl rfl rfl rfl rfl ⟨rfl, rfl, rfl, rfl, rfl⟩ rfl rfl rfl rfl rfl (by kernel_rfl) Try.func8 (by kernel_rfl)
    (of_decide_eq_true (by kernel_rfl)) (by unfold Func.isWrapper; first | (rw [if_pos (by decide +kernel)]; kernel_rfl) | (rw [if_neg (by decide +kernel)]; exact ⟨rfl, rfl⟩))
    (fun os started H enc _ => lifted os started H enc)

theorem proved : Rows.CellOrderSaid := over
#print axioms proved
end Go.Proofs.Ytohakilhbgbgfaa.cellOrder
