/- A number in more bytes is it in fewer, with 0 ahead. For every input, no condition. -/
import Derived.Test.YtohakilhbgbgfaaCellAwake
import Derived.RegionTactic
import Derived.BigRegion
namespace Go.Proofs.Ytohakilhbgbgfaa.cellWide
open Go.ChangeShapes Go.WideShapes Go.ChangeAt Go.RowKit

theorem wide_text {N k d : Nat} (hN : N < 256 ^ k) : str (dig N (d + k)) (d + k) = str (fun _ => 0) d ++ str (dig N k) k := by
  apply ByteArray.ext
  apply Array.ext'
  rw [ByteArray.data_append, Array.toList_append]
  apply List.ext_getElem?
  intro i
  have hl : ∀ (f : Nat → Nat) (n : Nat), (str f n).data.toList = (List.range n).map fun i => UInt8.ofNat (f i) := fun f n => by simp [str]
  rw [hl, hl, hl]
  by_cases hd : i < d
  · rw [List.getElem?_append_left (by simpa using hd)]
    simp [List.getElem?_range hd, List.getElem?_range (show i < d + k by omega)]
    rw [dig_wide hN, if_pos hd]
    rfl
  · rw [List.getElem?_append_right (by simp; omega)]
    by_cases hk : i < d + k
    · simp [List.getElem?_range hk, List.getElem?_range (show i - d < k by omega)]
      rw [dig_wide hN, if_neg hd]
    · rw [List.getElem?_eq_none (by simp; omega), List.getElem?_eq_none (by simp; omega)]

theorem text (a0 a1 a2 : Int) (w : World) (z0 : 0 ≤ a0 ∧ a0 ≤ 255) (z1 : 0 ≤ a1 ∧ a1 ≤ 255) (z2 : -9223372036854775808 ≤ a2 ∧ a2 ≤ 9223372036854775807) :
    Calls Try.prog 9 #[.int .u8 a0, .int .u8 a1, .int .i64 a2] w (Fresh (.bool true) w) := by
  obtain ⟨k, hk⟩ : ∃ k : Nat, 1 + a0 % 4 = (k : Int) := ⟨(1 + a0 % 4).toNat, by omega⟩
  have k1 : 1 ≤ k := by omega
  have k4 : k ≤ 4 := by omega
  have hm0 : 0 ≤ a1 % (5 - (k : Int)) := Int.emod_nonneg _ (by omega)
  have hm1 : a1 % (5 - (k : Int)) < 5 - (k : Int) := Int.emod_lt_of_pos _ (by omega)
  obtain ⟨d, hd⟩ : ∃ d : Nat, a1 % (5 - (k : Int)) = (d : Int) := ⟨(a1 % (5 - (k : Int))).toNat, by omega⟩
  have hdk : d + k ≤ 4 := by omega
  clear hm0 hm1
  obtain ⟨m, em⟩ : ∃ m, m = d + k := ⟨_, rfl⟩
  have hm : (k : Int) + (d : Int) = (m : Int) := by omega
  have hm2 : (m : Int) - (k : Int) = (d : Int) := by omega
  have m1 : 1 ≤ m := by omega
  have m4 : m ≤ 4 := by omega
  have EM := Lib.hid em
  have km : k ≤ m := by omega
  clear em
  have n0 : ¬ (5 - (k : Int)) = 0 := by omega
  have hmk : ∀ u : World, (Instr.makeSlice 22 (.int .i64 0) (.int .i64 0)).run Try.prog u = .ok (.slice (some ⟨u.heap.size, 0, none⟩) 0 0) (u.alloc (.cells (cellsOf (fun _ => 0) 0).toArray 5)) := make_bytes 0 (by omega)
  by_cases hN : 0 ≤ a2 ∧ a2 < ((256 ^ k : Nat) : Int)
  · obtain ⟨N, rfl⟩ := Int.eq_ofNat_of_zero_le hN.1
    have HN : Hid (N < 256 ^ k) := Lib.hid (by omega)
    clear hN
    go_enter Try.func9, Try.ntmps9
    go_wp2_with fail
    with_reducible refine (put_ok (.slice none 0 0) 0 (fun _ => 0) k N _ k1 k4 HN.out (reads_none _ _) (by omega)).mono ?_
    rintro e w1 h7
    obtain ⟨v1, rfl, hr1, hb1⟩ := put_bears h7
    have B1 := Lib.hid hb1
    have T1 := Lib.hid hr1
    clear hb1 hr1 h7
    go_wp2_with fail
    have HM : Hid (N < 256 ^ m) := Lib.hid (Nat.lt_of_lt_of_le HN.out (Nat.pow_le_pow_right (by omega) (by omega)))
    have bx : Below w.heap.size w (w1.alloc (.cells (cellsOf (fun _ => 0) 0).toArray 5)) := B1.out.alloc B1.out.size _
    have rx : Reads (w1.alloc (.cells (cellsOf (fun _ => 0) 0).toArray 5)) (.slice (some ⟨w1.heap.size, 0, none⟩) 0 0) 0 (fun _ => 0) := ⟨_, 0, rfl, Nat.le_refl _, by omega, (by intro e; cases e), ⟨fun i hi => absurd hi (by omega), fun i hi => absurd hi (by omega)⟩⟩
    refine (put_ok (.slice (some ⟨w1.heap.size, 0, none⟩) 0 0) 0 (fun _ => 0) m N _ m1 m4 HM.out rx (by omega)).mono ?_
    rintro e w2 h7
    obtain ⟨v2, rfl, hr2, hb2⟩ := put_bears h7
    have B2 : Hid (Below w.heap.size w w2) := Lib.hid (bx.trans (hb2.mono bx.size))
    have T2 := Lib.hid hr2
    have T1' := Lib.hid ((T1.out.below ((Below.refl _ _).alloc (Nat.le_refl _) _)).below hb2)
    clear hb2 hr2 h7 bx rx hmk
    go_wp2_with fail
    refine (awake_any _).mono ?_
    rintro e w3 ⟨rfl, hb3⟩
    have B3 : Hid (Below w.heap.size w w3) := Lib.hid (B2.out.trans (hb3.mono B2.out.size))
    have U1 := Lib.hid (T1'.out.below hb3)
    have U2 := Lib.hid (T2.out.below hb3)
    clear hb3
    have hmk2 := make_bytes d (by omega)
    obtain ⟨S, eS⟩ : ∃ S, S = str (dig N k) k := ⟨_, rfl⟩
    obtain ⟨Z, eZ⟩ : ∃ Z, Z = str (fun _ => 0) d := ⟨_, rfl⟩
    obtain ⟨T, eT⟩ : ∃ T, T = str (dig N m) m := ⟨_, rfl⟩
    have hT : T = Z ++ S := by rw [eT, eZ, eS, EM.out]; exact wide_text HN.out
    have q0 : Below w3.heap.size w3 w3.drew := (Below.refl _ _).drew
    have q1 : Below w3.heap.size w3 (w3.alloc (.cells (cellsOf (fun _ => 0) d).toArray 5)).drew := ((Below.refl _ _).alloc (Nat.le_refl _) _).drew
    have c1 : (convert 22 9 v1).run Try.prog w3.drew = .ok (.string S) w3.drew := by rw [eS]; exact (U1.out.below q0).conv
    have c2 : (convert 22 9 v1).run Try.prog (w3.alloc (.cells (cellsOf (fun _ => 0) d).toArray 5)).drew = .ok (.string S) (w3.alloc (.cells (cellsOf (fun _ => 0) d).toArray 5)).drew := by rw [eS]; exact (U1.out.below q1).conv
    have c3 : (convert 22 9 (.slice (some ⟨w3.heap.size, 0, none⟩) d d)).run Try.prog (w3.alloc (.cells (cellsOf (fun _ => 0) d).toArray 5)).drew = .ok (.string Z) (w3.alloc (.cells (cellsOf (fun _ => 0) d).toArray 5)).drew := by
      rw [eZ]
      exact conv_str d (Lies.bytes (w := (w3.alloc (.cells (cellsOf (fun _ => 0) d).toArray 5)).drew) (made_lies w3 d) (Nat.le_refl _) (fun _ _ => by show 0 < 256; omega))
    have c4 : (convert 22 9 v2).run Try.prog (w3.alloc (.cells (cellsOf (fun _ => 0) d).toArray 5)).drew = .ok (.string (Z ++ S)) (w3.alloc (.cells (cellsOf (fun _ => 0) d).toArray 5)).drew := by rw [← hT, eT]; exact (U2.out.below q1).conv
    have hs1 : S.size = k := by rw [eS]; simp [str, ByteArray.size]
    have hs2 : Z.size = d := by rw [eZ]; simp [str, ByteArray.size]
    have Q1 := Lib.hid q1
    clear eS eZ eT q0 q1 hT
    go_wp2
    go_region
    all_goals
      go_wp2
      go_ret
      exact ⟨rfl, B3.out.trans (Q1.out.mono B3.out.size)⟩
  · have HN := Lib.hid hN
    clear hN
    go_enter Try.func9, Try.ntmps9
    go_wp2_with fail
    with_reducible refine (put_range (.slice none 0 0) k a2 _ k1 k4 z2 HN.out).mono ?_
    rintro e w1 ⟨rfl, hb1⟩
    have B1 := Lib.hid hb1
    clear hb1
    have bx : Below w.heap.size w (w1.alloc (.cells (cellsOf (fun _ => 0) 0).toArray 5)) := B1.out.alloc B1.out.size _
    have rx : Reads (w1.alloc (.cells (cellsOf (fun _ => 0) 0).toArray 5)) (.slice (some ⟨w1.heap.size, 0, none⟩) 0 0) 0 (fun _ => 0) := ⟨_, 0, rfl, Nat.le_refl _, by omega, (by intro e; cases e), ⟨fun i hi => absurd hi (by omega), fun i hi => absurd hi (by omega)⟩⟩
    obtain ⟨x, q, h, hx, _⟩ := puts (.slice (some ⟨w1.heap.size, 0, none⟩) 0 0) 0 (fun _ => 0) (m : Int) a2 _ z2 rx (by omega)
    have X := Lib.hid (hx _ (Below.refl _ _))
    have BX := Lib.hid bx
    clear hx bx rx
    go_wp2_with fail
    with_reducible refine X.out.mono ?_
    rintro e w2 ⟨v2, rfl, _, hb2⟩
    have B2 : Hid (Below w.heap.size w w2) := Lib.hid (BX.out.trans (hb2.mono BX.out.size))
    clear hb2
    go_wp2_with fail
    refine (awake_any _).mono ?_
    rintro e w3 ⟨rfl, hb3⟩
    have B3 : Hid (Below w.heap.size w w3) := Lib.hid (B2.out.trans (hb3.mono B2.out.size))
    clear hb3
    go_wp2_with fail
    refine (awake_any _).mono ?_
    rintro e w4 ⟨rfl, hb4⟩
    have B4 : Hid (Below w.heap.size w w4) := Lib.hid (B3.out.trans (hb4.mono B3.out.size))
    clear hb4
    go_wp2
    go_ret
    exact ⟨rfl, B4.out⟩

set_option linter.unusedVariables false in
theorem walk (w : World) (a0 : Int) (w0 : (Lit.int .u8 a0).wf = true) (a1 : Int) (w1 : (Lit.int .u8 a1).wf = true) (a2 : Int) (w2 : (Lit.int .i64 a2).wf = true) :
    Calls Try.prog 9 #[.int .u8 a0, .int .u8 a1, .int .i64 a2] w (Fresh (.bool true) w) := by
  exact text a0 a1 a2 w (u8_in w0) (u8_in w1) (i64_in w2)

/-! ### the law's end -/
set_option linter.unusedVariables false
theorem own : ownKnob Try.prog.godebug = none := by kernel_rfl
theorem laidOut : laidOutB Try.prog = true := by kernel_rfl
set_option maxRecDepth 100000 in

theorem lifted (os : Os) (started : os.Started) (H : Type) (enc : TypeId × Value → H) :
    ReturnsInHanded {} Try.checked os 9 .any (Rows.cellWideSpec.pre6 enc Try.prog Try.f9 Rows.cellWideRow.domain false) (Rows.cellWideSpec.post enc Try.prog Try.f9 false true false false) := by
  refine returnsInHanded_of_change_sized (C := Try.checked) own started (by kernel_rfl) Try.func9
    (ChangeSpec.witness6 (enc := enc) (C := Try.checked) false ⟨#[], #[.int .u8 0, .int .u8 0, .int .i64 0], []⟩ 8 (by kernel_rfl) (by kernel_rfl) (by kernel_rfl) (by kernel_rfl)) ?_
  intro W base args ds gs before hval0 hW _ hsz0 _
  have hsz : (DataW.weightsEach Try.prog (Try.f9.params.toList ++ Rows.cellWideSpec.plain.varTypes Try.prog) (ds ++ gs)).all (· ≤ reachBytes) = true := hsz0
  clear hsz0
  have hval : ∀ (j : Nat) t v, Try.f9.params[j]? = some t → args[j]? = some v → Value.okWide Try.prog W .any base t v := hval0
  have hW' := hW
  obtain ⟨p, q, hA0, hV, rfl, _, _⟩ := hW
  have hA : DataW.TrodAll enc Try.prog W 0 (fun _ => true) true Try.f9.params.toList args.toList ds p := hA0
  rw [Try.params9] at hA hval hsz
  obtain ⟨v0, vs0, d0, ds0, p0, q0, hargs, rfl, rfl, h0, u0⟩ := trodAll_cons hA
  obtain ⟨v1, vs1, d1, ds1, p1, q1, rfl, rfl, rfl, h1, u1⟩ := trodAll_cons u0
  obtain ⟨v2, vs2, d2, ds2, p2, q2, rfl, rfl, rfl, h2, u2⟩ := trodAll_cons u1
  obtain ⟨rfl, rfl, rfl⟩ := trodAll_nil u2
  obtain rfl : args = #[v0, v1, v2] := by cases args; simp_all
  obtain ⟨rfl, rfl⟩ := trodVars_none hV
  clear hA0 hval0
  have k0 := h0
  obtain ⟨a0, rfl, rfl, rfl, w0⟩ := open_int Try.underlying5 (hval 0 5 v0 rfl rfl) h0
  have k1 := h1
  obtain ⟨a1, rfl, rfl, rfl, w1⟩ := open_int Try.underlying5 (hval 1 5 v1 rfl rfl) h1
  have k2 := h2
  obtain ⟨a2, rfl, rfl, rfl, w2⟩ := open_int Try.underlying3 (hval 2 3 v2 rfl rfl) h2
  simp only [List.append_nil] at hW'
  refine (walk W a0 w0 a1 w1 a2 w2).mono fun e W' ⟨he, hb⟩ => ?_
  subst he
  exact ⟨_, rfl, _, _, _, [], _, [], hW', (trodAll_cons_mk (shut_bool Try.underlying4 _) trodAll_mk0), (trodAll_cons_mk (Below.trod laidOut (by kernel_rfl) (of_decide_eq_true (by kernel_rfl)) k0 hb (fun x hx => (by cases hx))) (trodAll_cons_mk (Below.trod laidOut (by kernel_rfl) (of_decide_eq_true (by kernel_rfl)) k1 hb (fun x hx => (by cases hx))) (trodAll_cons_mk (Below.trod laidOut (by kernel_rfl) (of_decide_eq_true (by kernel_rfl)) k2 hb (fun x hx => (by cases hx))) trodAll_mk0))), rfl, hb.frame _, fun h => by cases h⟩

theorem over : Rows.cellWideRow.holds Try.pinned (OpenSpec.ofChange Rows.cellWideSpec) :=
  OpenClaim.holds_of_wide 9 Try.f9 rfl rfl rfl rfl rfl rfl rfl ⟨rfl, rfl, rfl, rfl, rfl⟩ rfl rfl rfl rfl rfl (by kernel_rfl) Try.func9 (by kernel_rfl)
    (of_decide_eq_true (by kernel_rfl)) (by unfold Func.isWrapper; first | (rw [if_pos (by decide +kernel)]; kernel_rfl) | (rw [if_neg (by decide +kernel)]; exact ⟨rfl, rfl⟩))
    (fun os started H enc _ => lifted os started H enc)

theorem proved : Rows.CellWideSaid := over
#print axioms proved
end Go.Proofs.Ytohakilhbgbgfaa.cellWide
