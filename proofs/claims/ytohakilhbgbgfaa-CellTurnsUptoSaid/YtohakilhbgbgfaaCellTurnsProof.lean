/- Rows are numbers and numbers rows, one to one. For every input of bulk at most 1048576. -/
import Derived.Test.YtohakilhbgbgfaaCellAwake
import Derived.Deep.CondSized
import Derived.Test.YtohakilhbgbgfaaBulk
namespace Go.Proofs.Ytohakilhbgbgfaa.cellTurns
open Go.ChangeShapes Go.WideShapes Go.ChangeAt Go.RowKit

theorem quo_mul {n k : Nat} (h : n % k = 0) : n = n / k * k := by
  have := Nat.div_add_mod n k
  rw [Nat.mul_comm] at this
  omega
theorem turned {f : Nat → Nat} {k n : Nat} (hk : 0 < k) (hf : ∀ i, i < n → f i < 256) (h : n % k = 0) : str (rowB (rowN f k) k) (n / k * k) = str f n := by
  rw [← quo_mul h]
  exact str_congr fun t ht => rowB_rowN hk hf h ht

set_option linter.unusedVariables false in
theorem text_ok_len (A1 A2 : Option Addr) (n1 c1 n2 c2 k : Nat) (g : Nat → Int) (f : Nat → Nat) (a0 : Int) (w : World) (z0 : 0 ≤ a0 ∧ a0 ≤ 255) (hk : 1 + a0 % 4 = (k : Int)) (k1 : 1 ≤ k) (k4 : k ≤ 4)
    (p1 : n1 ≤ c1) (q1 : c1 ≤ 9223372036854775807) (b1 : A1 = none → c1 = 0) (s1 : IntsAt w A1 n1 g) (p2 : n2 ≤ c2) (q2 : c2 ≤ 9223372036854775807) (s2 : BytesAt w A2 n2 f)
    (u1 : n1 ≤ 1048576) (u2 : n2 ≤ 1048576) (G : Nat → Nat) (hG : ∀ i, i < n1 → G i < 256 ^ k) (hI : IntsAt w A1 n1 (fun i => (G i : Int))) (hl : n2 % k ≠ 0) :
    Calls Try.prog 7 #[.int .u8 a0, .slice A1 n1 c1, .slice A2 n2 c2] w (Fresh (.bool true) w) := by
  have R1 := Lib.hid s1
  have R2' := Lib.hid s2
  clear s1 s2
  have HR : Hid (n1 * k ≤ 140737488355328) := Lib.hid (Nat.le_trans (Nat.mul_le_mul u1 k4) (by omega))
  have HG := Lib.hid hG
  have I1 := Lib.hid hI
  clear hG hI
  go_enter Try.func7, Try.ntmps7
  go_wp2_with fail
  with_reducible refine (row_ok k A1 n1 c1 G _ k1 k4 (by omega) HR.out HG.out I1.out).mono ?_
  rintro e w1 ⟨v1, rfl, hr1, hb1⟩
  obtain ⟨Ax, cx, rfl, px, qx, _, rx⟩ := hr1
  have B1 := Lib.hid hb1
  have T1 := Lib.hid rx
  clear hb1 rx
  obtain ⟨p, ep⟩ : ∃ p, p = n1 * k := ⟨_, rfl⟩
  have hp : (k : Int) * (n1 : Int) = (p : Int) := by rw [ep, Int.natCast_mul, Int.mul_comm]
  rw [← ep] at px T1
  rw [← ep]
  have EP := Lib.hid ep
  clear ep
  go_wp2_with fail
  with_reducible refine (unrow_ok Ax p n1 cx k (rowB G k) w1 EP.out px qx (by omega) k1 k4 T1.out).mono ?_
  rintro e w2 ⟨v2, rfl, hr2, hb2⟩
  have B2 : Hid (Below w.heap.size w w2) := Lib.hid (B1.out.trans (hb2.mono B1.out.size))
  have R2 : Hid (ReadsI w2 v2 n1 (fun i => (G i : Int))) := Lib.hid (hr2.congr fun i hi => by rw [rowN_rowB (HG.out i hi)])
  have J2 : Hid (ReadsI w2 (.slice A1 n1 c1) n1 (fun i => (G i : Int))) := Lib.hid ⟨A1, c1, rfl, p1, q1, b1, I1.out.below B2.out⟩
  clear hr2 hb2
  go_wp2_with fail
  with_reducible refine (ints_reads v2 (.slice A1 n1 c1) n1 _ w2 R2.out J2.out).mono ?_
  rintro e w3 ⟨nq, rfl, rfl⟩
  have C : Hid (Below w.heap.size w (w2.drewN nq)) := Lib.hid (below_drewN B2.out nq)
  obtain ⟨wc, ewc⟩ : ∃ wc, wc = w2.drewN nq := ⟨_, rfl⟩
  rw [← ewc] at C
  rw [← ewc]
  clear ewc R2 J2
  go_wp2_with fail
  with_reducible refine (unrow_len A2 n2 c2 k _ (by omega) k1 k4 hl).mono ?_
  rintro e w' ⟨rfl, rfl⟩
  have hr : ((n2 : Int) % (k : Int) != 0) = true := by
    have : (n2 : Int) % (k : Int) ≠ 0 := by omega
    simp [this]
  go_wp2_with fail
  refine (awake_any _).mono ?_
  rintro e w5 ⟨rfl, hb5⟩
  have B5 : Hid (Below w.heap.size w w5) := Lib.hid (C.out.trans (hb5.mono C.out.size))
  clear hb5
  go_wp2
  go_ret
  exact ⟨rfl, B5.out⟩

set_option linter.unusedVariables false in
theorem text_ok_quo (A1 A2 : Option Addr) (n1 c1 n2 c2 k : Nat) (g : Nat → Int) (f : Nat → Nat) (a0 : Int) (w : World) (z0 : 0 ≤ a0 ∧ a0 ≤ 255) (hk : 1 + a0 % 4 = (k : Int)) (k1 : 1 ≤ k) (k4 : k ≤ 4)
    (p1 : n1 ≤ c1) (q1 : c1 ≤ 9223372036854775807) (b1 : A1 = none → c1 = 0) (s1 : IntsAt w A1 n1 g) (p2 : n2 ≤ c2) (q2 : c2 ≤ 9223372036854775807) (s2 : BytesAt w A2 n2 f)
    (u1 : n1 ≤ 1048576) (u2 : n2 ≤ 1048576) (G : Nat → Nat) (hG : ∀ i, i < n1 → G i < 256 ^ k) (hI : IntsAt w A1 n1 (fun i => (G i : Int))) (hl : n2 % k = 0) :
    Calls Try.prog 7 #[.int .u8 a0, .slice A1 n1 c1, .slice A2 n2 c2] w (Fresh (.bool true) w) := by
  have R1 := Lib.hid s1
  have R2' := Lib.hid s2
  clear s1 s2
  have HR : Hid (n1 * k ≤ 140737488355328) := Lib.hid (Nat.le_trans (Nat.mul_le_mul u1 k4) (by omega))
  have HG := Lib.hid hG
  have I1 := Lib.hid hI
  clear hG hI
  go_enter Try.func7, Try.ntmps7
  go_wp2_with fail
  with_reducible refine (row_ok k A1 n1 c1 G _ k1 k4 (by omega) HR.out HG.out I1.out).mono ?_
  rintro e w1 ⟨v1, rfl, hr1, hb1⟩
  obtain ⟨Ax, cx, rfl, px, qx, _, rx⟩ := hr1
  have B1 := Lib.hid hb1
  have T1 := Lib.hid rx
  clear hb1 rx
  obtain ⟨p, ep⟩ : ∃ p, p = n1 * k := ⟨_, rfl⟩
  have hp : (k : Int) * (n1 : Int) = (p : Int) := by rw [ep, Int.natCast_mul, Int.mul_comm]
  rw [← ep] at px T1
  rw [← ep]
  have EP := Lib.hid ep
  clear ep
  go_wp2_with fail
  with_reducible refine (unrow_ok Ax p n1 cx k (rowB G k) w1 EP.out px qx (by omega) k1 k4 T1.out).mono ?_
  rintro e w2 ⟨v2, rfl, hr2, hb2⟩
  have B2 : Hid (Below w.heap.size w w2) := Lib.hid (B1.out.trans (hb2.mono B1.out.size))
  have R2 : Hid (ReadsI w2 v2 n1 (fun i => (G i : Int))) := Lib.hid (hr2.congr fun i hi => by rw [rowN_rowB (HG.out i hi)])
  have J2 : Hid (ReadsI w2 (.slice A1 n1 c1) n1 (fun i => (G i : Int))) := Lib.hid ⟨A1, c1, rfl, p1, q1, b1, I1.out.below B2.out⟩
  clear hr2 hb2
  go_wp2_with fail
  with_reducible refine (ints_reads v2 (.slice A1 n1 c1) n1 _ w2 R2.out J2.out).mono ?_
  rintro e w3 ⟨nq, rfl, rfl⟩
  have C : Hid (Below w.heap.size w (w2.drewN nq)) := Lib.hid (below_drewN B2.out nq)
  obtain ⟨wc, ewc⟩ : ∃ wc, wc = w2.drewN nq := ⟨_, rfl⟩
  rw [← ewc] at C
  rw [← ewc]
  clear ewc R2 J2
  obtain ⟨q, eq⟩ : ∃ q, q = n2 / k := ⟨_, rfl⟩
  have eq2 : n2 = q * k := by rw [eq]; exact quo_mul hl
  have hqn : q ≤ n2 := by rw [eq]; exact Nat.div_le_self _ _
  have EQ := Lib.hid eq
  have EQ2 := Lib.hid eq2
  have HL := Lib.hid hl
  clear eq eq2 hl
  go_wp2_with fail
  with_reducible refine (unrow_ok A2 n2 q c2 k f _ EQ2.out p2 q2 (by omega) k1 k4 (R2'.out.below C.out)).mono ?_
  rintro e w6 ⟨v6, rfl, hr6, hb6⟩
  obtain ⟨A6, c6, rfl, p6, q6, _, r6⟩ := hr6
  have B6 : Hid (Below w.heap.size w w6) := Lib.hid (C.out.trans (hb6.mono C.out.size))
  have T6 := Lib.hid r6
  clear r6 hb6
  go_wp2_with fail
  with_reducible refine (row_ok k A6 q c6 (rowN f k) _ k1 k4 (by omega) (by rw [← EQ2.out]; omega) (fun i hi => rowN_lt fun j hj => R2'.out.small _ (by
    have h6 : (i + 1) * k ≤ q * k := Nat.mul_le_mul_right k (by omega)
    rw [EQ2.out]
    rw [Nat.add_mul, Nat.one_mul] at h6
    omega)) T6.out).mono ?_
  rintro e w7 ⟨v7, rfl, hr7, hb7⟩
  have B7 : Hid (Below w.heap.size w w7) := Lib.hid (B6.out.trans (hb7.mono B6.out.size))
  have T7 := Lib.hid hr7
  clear hr7 hb7
  go_wp2_with fail
  refine (awake_any _).mono ?_
  rintro e w8 ⟨rfl, hb8⟩
  have B8 : Hid (Below w.heap.size w w8) := Lib.hid (B7.out.trans (hb8.mono B7.out.size))
  obtain ⟨S, eS⟩ : ∃ S, S = str f n2 := ⟨_, rfl⟩
  have cv1 : (convert 22 9 v7).run Try.prog w8 = .ok (.string S) w8 := by
    rw [eS, ← turned (by omega) R2'.out.small HL.out, ← EQ.out]
    exact (T7.out.below hb8).conv
  have cv2 : (convert 22 9 (.slice A2 n2 c2)).run Try.prog w8 = .ok (.string S) w8 := by
    rw [eS]
    exact conv_str c2 (R2'.out.below B8.out)
  clear hb8 eS
  go_wp2
  go_ret
  exact ⟨rfl, B8.out⟩

set_option linter.unusedVariables false in
theorem text_bad_len (A1 A2 : Option Addr) (n1 c1 n2 c2 k : Nat) (g : Nat → Int) (f : Nat → Nat) (a0 : Int) (w : World) (z0 : 0 ≤ a0 ∧ a0 ≤ 255) (hk : 1 + a0 % 4 = (k : Int)) (k1 : 1 ≤ k) (k4 : k ≤ 4)
    (p1 : n1 ≤ c1) (q1 : c1 ≤ 9223372036854775807)  (s1 : IntsAt w A1 n1 g) (p2 : n2 ≤ c2) (q2 : c2 ≤ 9223372036854775807) (s2 : BytesAt w A2 n2 f)
    (u1 : n1 ≤ 1048576) (u2 : n2 ≤ 1048576) (j : Nat) (hj : j < n1) (jl : ∀ i, i < j → 0 ≤ g i ∧ g i < ((256 ^ k : Nat) : Int)) (jb : ¬ (0 ≤ g j ∧ g j < ((256 ^ k : Nat) : Int))) (hl : n2 % k ≠ 0) :
    Calls Try.prog 7 #[.int .u8 a0, .slice A1 n1 c1, .slice A2 n2 c2] w (Fresh (.bool true) w) := by
  have R1 := Lib.hid s1
  have R2' := Lib.hid s2
  clear s1 s2
  have JL := Lib.hid jl
  have JB := Lib.hid jb
  clear jl jb
  go_enter Try.func7, Try.ntmps7
  go_wp2_with fail
  with_reducible refine (row_range k A1 n1 c1 g _ k1 k4 (by omega) R1.out j hj JL.out JB.out).mono ?_
  rintro e w' ⟨rfl, rfl⟩
  have C : Hid (Below w.heap.size w w) := Lib.hid (Below.refl _ _)
  go_wp2_with fail
  with_reducible refine (unrow_len A2 n2 c2 k _ (by omega) k1 k4 hl).mono ?_
  rintro e w' ⟨rfl, rfl⟩
  have hr : ((n2 : Int) % (k : Int) != 0) = true := by
    have : (n2 : Int) % (k : Int) ≠ 0 := by omega
    simp [this]
  go_wp2_with fail
  refine (awake_any _).mono ?_
  rintro e w5 ⟨rfl, hb5⟩
  have B5 : Hid (Below w.heap.size w w5) := Lib.hid (C.out.trans (hb5.mono C.out.size))
  clear hb5
  go_wp2
  go_ret
  exact ⟨rfl, B5.out⟩

set_option linter.unusedVariables false in
theorem text_bad_quo (A1 A2 : Option Addr) (n1 c1 n2 c2 k : Nat) (g : Nat → Int) (f : Nat → Nat) (a0 : Int) (w : World) (z0 : 0 ≤ a0 ∧ a0 ≤ 255) (hk : 1 + a0 % 4 = (k : Int)) (k1 : 1 ≤ k) (k4 : k ≤ 4)
    (p1 : n1 ≤ c1) (q1 : c1 ≤ 9223372036854775807)  (s1 : IntsAt w A1 n1 g) (p2 : n2 ≤ c2) (q2 : c2 ≤ 9223372036854775807) (s2 : BytesAt w A2 n2 f)
    (u1 : n1 ≤ 1048576) (u2 : n2 ≤ 1048576) (j : Nat) (hj : j < n1) (jl : ∀ i, i < j → 0 ≤ g i ∧ g i < ((256 ^ k : Nat) : Int)) (jb : ¬ (0 ≤ g j ∧ g j < ((256 ^ k : Nat) : Int))) (hl : n2 % k = 0) :
    Calls Try.prog 7 #[.int .u8 a0, .slice A1 n1 c1, .slice A2 n2 c2] w (Fresh (.bool true) w) := by
  have R1 := Lib.hid s1
  have R2' := Lib.hid s2
  clear s1 s2
  have JL := Lib.hid jl
  have JB := Lib.hid jb
  clear jl jb
  go_enter Try.func7, Try.ntmps7
  go_wp2_with fail
  with_reducible refine (row_range k A1 n1 c1 g _ k1 k4 (by omega) R1.out j hj JL.out JB.out).mono ?_
  rintro e w' ⟨rfl, rfl⟩
  have C : Hid (Below w.heap.size w w) := Lib.hid (Below.refl _ _)
  obtain ⟨q, eq⟩ : ∃ q, q = n2 / k := ⟨_, rfl⟩
  have eq2 : n2 = q * k := by rw [eq]; exact quo_mul hl
  have hqn : q ≤ n2 := by rw [eq]; exact Nat.div_le_self _ _
  have EQ := Lib.hid eq
  have EQ2 := Lib.hid eq2
  have HL := Lib.hid hl
  clear eq eq2 hl
  go_wp2_with fail
  with_reducible refine (unrow_ok A2 n2 q c2 k f _ EQ2.out p2 q2 (by omega) k1 k4 (R2'.out.below C.out)).mono ?_
  rintro e w6 ⟨v6, rfl, hr6, hb6⟩
  obtain ⟨A6, c6, rfl, p6, q6, _, r6⟩ := hr6
  have B6 : Hid (Below w.heap.size w w6) := Lib.hid (C.out.trans (hb6.mono C.out.size))
  have T6 := Lib.hid r6
  clear r6 hb6
  go_wp2_with fail
  with_reducible refine (row_ok k A6 q c6 (rowN f k) _ k1 k4 (by omega) (by rw [← EQ2.out]; omega) (fun i hi => rowN_lt fun j hj => R2'.out.small _ (by
    have h6 : (i + 1) * k ≤ q * k := Nat.mul_le_mul_right k (by omega)
    rw [EQ2.out]
    rw [Nat.add_mul, Nat.one_mul] at h6
    omega)) T6.out).mono ?_
  rintro e w7 ⟨v7, rfl, hr7, hb7⟩
  have B7 : Hid (Below w.heap.size w w7) := Lib.hid (B6.out.trans (hb7.mono B6.out.size))
  have T7 := Lib.hid hr7
  clear hr7 hb7
  go_wp2_with fail
  refine (awake_any _).mono ?_
  rintro e w8 ⟨rfl, hb8⟩
  have B8 : Hid (Below w.heap.size w w8) := Lib.hid (B7.out.trans (hb8.mono B7.out.size))
  obtain ⟨S, eS⟩ : ∃ S, S = str f n2 := ⟨_, rfl⟩
  have cv1 : (convert 22 9 v7).run Try.prog w8 = .ok (.string S) w8 := by
    rw [eS, ← turned (by omega) R2'.out.small HL.out, ← EQ.out]
    exact (T7.out.below hb8).conv
  have cv2 : (convert 22 9 (.slice A2 n2 c2)).run Try.prog w8 = .ok (.string S) w8 := by
    rw [eS]
    exact conv_str c2 (R2'.out.below B8.out)
  clear hb8 eS
  go_wp2
  go_ret
  exact ⟨rfl, B8.out⟩

set_option linter.unusedVariables false in
theorem walk (w : World) (a0 : Int) (w0 : (Lit.int .u8 a0).wf = true) (A1 : Option Addr) (n1 c1 : Nat) (Z1 : List Int) (s1 : IntsIn w .i64 A1 n1 c1 Z1) (r1 : n1 * 8 ≤ 140737488351232) (u1 : n1 ≤ 1048576) (A2 : Option Addr) (n2 c2 : Nat) (Z2 : List Int) (s2 : IntsIn w .u8 A2 n2 c2 Z2) (r2 : n2 * 1 ≤ 140737488351232) (u2 : n2 ≤ 1048576) :
    Calls Try.prog 7 #[.int .u8 a0, .slice A1 n1 c1, .slice A2 n2 c2] w (Fresh (.bool true) w) := by
  have z0 := u8_in w0
  obtain ⟨k, hk⟩ : ∃ k : Nat, 1 + a0 % 4 = (k : Int) := ⟨(1 + a0 % 4).toNat, by omega⟩
  have k1 : 1 ≤ k := by omega
  have k4 : k ≤ 4 := by omega
  rcases row_cases k (ints_in s1) with ⟨G, hG, _, hI⟩ | ⟨j, hj, jl, jb⟩
  · by_cases hl : n2 % k = 0
    · exact text_ok_quo A1 A2 n1 c1 n2 c2 k _ _ a0 w z0 hk k1 k4 s1.cap s1.most (fun e => (s1.bare e).2) (ints_in s1) s2.cap s2.most (bytes_in s2) u1 u2 G hG hI hl
    · exact text_ok_len A1 A2 n1 c1 n2 c2 k _ _ a0 w z0 hk k1 k4 s1.cap s1.most (fun e => (s1.bare e).2) (ints_in s1) s2.cap s2.most (bytes_in s2) u1 u2 G hG hI hl
  · by_cases hl : n2 % k = 0
    · exact text_bad_quo A1 A2 n1 c1 n2 c2 k _ _ a0 w z0 hk k1 k4 s1.cap s1.most (ints_in s1) s2.cap s2.most (bytes_in s2) u1 u2 j hj jl jb hl
    · exact text_bad_len A1 A2 n1 c1 n2 c2 k _ _ a0 w z0 hk k1 k4 s1.cap s1.most (ints_in s1) s2.cap s2.most (bytes_in s2) u1 u2 j hj jl jb hl

/-! ### the law's end -/
set_option linter.unusedVariables false
theorem own : ownKnob Try.prog.godebug = none := by kernel_rfl
theorem laidOut : laidOutB Try.prog = true := by kernel_rfl
set_option maxRecDepth 100000 in

theorem lifted (os : Os) (started : os.Started) (H : Type) (enc : TypeId × Value → H) (F : Stop.Interp) :
    ReturnsInHanded {} Try.checked os 7 .any ((Rows.OpenSpec.upto Rows.cellTurnsSpec).pre6 enc Try.prog Try.f7 Rows.cellTurnsUptoRow.domain false) (((Rows.OpenSpec.upto Rows.cellTurnsSpec).at F).post enc Try.prog Try.f7 false true false false) := by
  refine returnsInHanded_of_cond_sized (C := Try.checked) (s := Rows.OpenSpec.upto Rows.cellTurnsSpec) (k := Rows.uptoSmall) rfl own started (by kernel_rfl) Try.func7
    (OpenSpec.witness (enc := enc) (C := Try.checked) (s := Rows.OpenSpec.upto Rows.cellTurnsSpec) (k := Rows.uptoSmall) rfl false ⟨#[], #[.int .u8 0, .slice none 0 0, .slice none 0 0], []⟩ 8 (by kernel_rfl) (by kernel_rfl) (by kernel_rfl)
      (x := ([.lit (.int .u8 0), .nil, .nil], [], [])) (by kernel_rfl) rfl (by kernel_rfl)) ?_
  intro W base args ds gs before hval0 hW _ hk hsz0 _
  have hsz : (DataW.weightsEach Try.prog (Try.f7.params.toList ++ Rows.cellTurnsSpec.plain.varTypes Try.prog) (ds ++ gs)).all (· ≤ reachBytes) = true := hsz0
  clear hsz0
  have hval : ∀ (j : Nat) t v, Try.f7.params[j]? = some t → args[j]? = some v → Value.okWide Try.prog W .any base t v := hval0
  have hW' := hW
  obtain ⟨p, q, hA0, hV, rfl, _, _⟩ := hW
  have hA : DataW.TrodAll enc Try.prog W 0 (fun _ => true) true Try.f7.params.toList args.toList ds p := hA0
  rw [Try.params7] at hA hval hsz
  obtain ⟨v0, vs0, d0, ds0, p0, q0, hargs, rfl, rfl, h0, u0⟩ := trodAll_cons hA
  obtain ⟨v1, vs1, d1, ds1, p1, q1, rfl, rfl, rfl, h1, u1⟩ := trodAll_cons u0
  obtain ⟨v2, vs2, d2, ds2, p2, q2, rfl, rfl, rfl, h2, u2⟩ := trodAll_cons u1
  obtain ⟨rfl, rfl, rfl⟩ := trodAll_nil u2
  obtain rfl : args = #[v0, v1, v2] := by cases args; simp_all
  obtain ⟨rfl, rfl⟩ := trodVars_none hV
  clear hA0 hval0
  have k0 := h0
  obtain ⟨a0, rfl, rfl, rfl, w0⟩ := open_int Try.underlying5 (hval 0 5 v0 rfl rfl) h0
  obtain ⟨A1, n1, c1, rfl⟩ := okWide_slice Try.underlying30 (hval 1 30 v1 rfl rfl)
  have k1 := h1
  obtain ⟨Z1, s1, z1⟩ := view_ints Try.underlying30 Try.underlying3 (by kernel_rfl) h1
  have r1 := reach_of (b := 8) hsz (j := 1) (t := 30) (e := 3) rfl rfl Try.underlying30 (by kernel_rfl) z1
  have bk1 := bulk_len hk (d := d1) (by simp) z1
  obtain ⟨A2, n2, c2, rfl⟩ := okWide_slice Try.underlying22 (hval 2 22 v2 rfl rfl)
  have k2 := h2
  obtain ⟨Z2, s2, z2⟩ := view_ints Try.underlying22 Try.underlying5 (by kernel_rfl) h2
  have r2 := reach_of (b := 1) hsz (j := 2) (t := 22) (e := 5) rfl rfl Try.underlying22 (by kernel_rfl) z2
  have bk2 := bulk_len hk (d := d2) (by simp) z2
  simp only [List.append_nil] at hW'
  have hlt : ∀ x ∈ p1 ++ p2, x.block < W.heap.size := fun x hx => by simpa using hW'.lt x (by simpa using hx)
  refine (walk W a0 w0 A1 n1 c1 Z1 s1 r1 bk1 A2 n2 c2 Z2 s2 r2 bk2).mono fun e W' ⟨he, hb⟩ => ?_
  subst he
  exact ⟨_, rfl, _, _, _, [], _, [], hW', (trodAll_cons_mk (shut_bool Try.underlying4 _) trodAll_mk0), (trodAll_cons_mk (Below.trod laidOut (by kernel_rfl) (of_decide_eq_true (by kernel_rfl)) k0 hb (fun x hx => (by cases hx))) (trodAll_cons_mk (Below.trod laidOut (by kernel_rfl) (of_decide_eq_true (by kernel_rfl)) k1 hb (fun x hx => hlt x (by simp [hx]))) (trodAll_cons_mk (Below.trod laidOut (by kernel_rfl) (of_decide_eq_true (by kernel_rfl)) k2 hb (fun x hx => hlt x (by simp [hx]))) trodAll_mk0))), rfl, hb.frame _, fun h => by cases h⟩

theorem over : Rows.cellTurnsUptoRow.holds Try.pinned (Rows.OpenSpec.upto Rows.cellTurnsSpec) :=
  OpenClaim.holds_of_cond 7 Try.f7 rfl rfl rfl rfl rfl rfl rfl ⟨rfl, rfl, rfl, rfl, rfl⟩ rfl rfl rfl rfl rfl (by kernel_rfl) Try.func7 (by kernel_rfl)
    (of_decide_eq_true (by kernel_rfl)) (by unfold Func.isWrapper; first | (rw [if_pos (by decide +kernel)]; kernel_rfl) | (rw [if_neg (by decide +kernel)]; exact ⟨rfl, rfl⟩))
    (fun os started H enc _ F => lifted os started H enc F)

theorem proved : Rows.CellTurnsUptoSaid := over
#print axioms proved
end Go.Proofs.Ytohakilhbgbgfaa.cellTurns
