/- Any bytes as a sealed sector, and whether any bytes are one, is what the document says. For every input, no condition. -/
import Derived.Test.YtodejfkbiefeoaaSealRef
namespace Go.Proofs.Ytodejfkbiefeoaa.sealSectors
open Go.ChangeShapes Go.WideShapes Go.ChangeAt Go.RowKit

/-- The value is a slice of bytes that reads so. -/
def Text (w : World) (v : Value) (S : ByteArray) : Prop := ∃ A n c f, v = .slice A n c ∧ BytesAt w A n f ∧ S = str f n
theorem Text.below {w w' : World} {v : Value} {S : ByteArray} (h : Text w v S) (hb : Below w.heap.size w w') : Text w' v S := by
  obtain ⟨A, n, c, f, e, hs, hS⟩ := h
  exact ⟨A, n, c, f, e, hs.below hb, hS⟩
theorem Text.conv {w : World} {v : Value} {S : ByteArray} (h : Text w v S) : (convert 23 9 v).run Try.prog w = .ok (.string S) w := by
  obtain ⟨A, n, c, f, rfl, hs, rfl⟩ := h
  exact conv_str c hs
theorem text_none (w : World) : Text w (.slice none 0 0) (str (fun _ => 0) 0) := ⟨none, 0, 0, _, rfl, ⟨fun i hi => absurd hi (by omega), fun i hi => absurd hi (by omega)⟩, rfl⟩
theorem text_row {B : Nat} {w : World} {v : Value} {n : Nat} {f : Nat → Nat} (h : Row B w v n f) (hf : ∀ i, i < n → f i < 256) : Text w v (str f n) := by
  obtain ⟨g, cap, e, _, _, _, _, hs⟩ := h.bytes (Nat.le_refl _) hf
  exact ⟨_, _, _, _, e, hs, rfl⟩

/-- The answer: a slice that reads as S, and an error's number. -/
def Told (x : Int) (S : ByteArray) (w : World) (e : Ending) (w' : World) : Prop :=
  ∃ v, e = .returned (.tuple #[v, .int .i64 x]) ∧ Text w' v S ∧ Below w.heap.size w w'

theorem told_gives {n : Nat} {f : Nat → Nat} {w : World} {e : Ending} {w' : World} (h : Gives n f w e w') (hf : ∀ i, i < n → f i < 256) : Told 0 (str f n) w e w' := by
  obtain ⟨v, he, hr, hb⟩ := h
  exact ⟨v, he, text_row hr hf, hb⟩
theorem told_same {x : Int} {w : World} {e : Ending} {w' : World} (h : e = .returned (.tuple #[.slice none 0 0, .int .i64 x]) ∧ w = w') : Told x (str (fun _ => 0) 0) w e w' := by
  obtain ⟨he, rfl⟩ := h
  exact ⟨_, he, text_none _, Below.refl _ _⟩
theorem told_below {x : Int} {w : World} {e : Ending} {w' : World} (h : e = .returned (.tuple #[.slice none 0 0, .int .i64 x]) ∧ Below w.heap.size w w') : Told x (str (fun _ => 0) 0) w e w' :=
  ⟨_, h.1, text_none _, h.2⟩
theorem told_drawn {x : Int} {w : World} {e : Ending} {w' : World} (h : Drawn (.tuple #[.slice none 0 0, .int .i64 x]) w e w') : Told x (str (fun _ => 0) 0) w e w' := by
  obtain ⟨k, he, rfl⟩ := h
  exact ⟨_, he, text_none _, below_drewN (Below.refl _ _) k⟩

theorem closes (A : Option Addr) (n c : Nat) (f : Nat → Nat) (w : World) (hn : n ≤ 9223372036854775807) (h : BytesAt w A n f) (hbare : A = none → c = 0) :
    ∃ x S, (∀ W, Below w.heap.size w W → Calls Try.prog 14 #[.slice A n c] W (Told x S W)) ∧
      (∀ W, Below w.heap.size w W → Calls Try.prog 15 #[.slice A n c] W (Told x S W)) := by
  by_cases hl : 60 < n
  · exact ⟨6, _, fun W _ => (close_long A n c W hn hl).mono fun _ _ he => told_same he, fun W _ => (refClose_long A n c W hn hl).mono fun _ _ he => told_same he⟩
  · have hf : ∀ i, i < 64 → sec f n i < 256 := fun i _ => sec_lt h.small i
    exact ⟨0, _, fun W hW => (close_any A n c f W (by omega) (h.below hW)).mono fun _ _ he => told_gives he hf, fun W hW => (refClose_any A n c f W (by omega) (h.below hW) hbare).mono fun _ _ he => told_gives he hf⟩

theorem opens (A : Option Addr) (n c : Nat) (f : Nat → Nat) (w : World) (hc : n ≤ c) (hm : c ≤ 9223372036854775807) (h : BytesAt w A n f) :
    ∃ x S, (∀ W, Below w.heap.size w W → Calls Try.prog 16 #[.slice A n c] W (Told x S W)) ∧
      (∀ W, Below w.heap.size w W → Calls Try.prog 17 #[.slice A n c] W (Told x S W)) := by
  by_cases hl : n = 64
  · subst hl
    obtain ⟨ad, rfl⟩ := h.addr (by omega)
    by_cases hs : ∀ i, i < 4 → f (60 + i) = sumB (crc f 60) i
    · have hf : ∀ i, i < 60 → f i < 256 := fun i hi => h.small i (by omega)
      exact ⟨0, _, fun W hW => (open_ok ad c f W hc hm (h.below hW) hs).mono fun _ _ he => told_gives he hf, fun W hW => (refOpen_ok ad c f W hc hm (h.below hW) hs).mono fun _ _ he => told_gives he hf⟩
    · obtain ⟨j, hj, he, hne⟩ := first_bad f _ hs
      exact ⟨2, _, fun W hW => (open_bad ad c f W hc hm (h.below hW) j hj he hne).mono fun _ _ he => told_drawn he, fun W hW => (refOpen_bad ad c f W hc hm (h.below hW) hs).mono fun _ _ he => told_below he⟩
  · exact ⟨6, _, fun W _ => (open_len A n c W hl).mono fun _ _ he => told_same he, fun W _ => (refOpen_len A n c W hl).mono fun _ _ he => told_same he⟩

set_option linter.unusedVariables false in
theorem walk (w : World) (A0 : Option Addr) (n0 c0 : Nat) (Z0 : List Int) (s0 : IntsIn w .u8 A0 n0 c0 Z0) (r0 : n0 * 1 ≤ 140737488351232) (A1 : Option Addr) (n1 c1 : Nat) (Z1 : List Int) (s1 : IntsIn w .u8 A1 n1 c1 Z1) (r1 : n1 * 1 ≤ 140737488351232) :
    Calls Try.prog 4 #[.slice A0 n0 c0, .slice A1 n1 c1] w (Fresh (.bool true) w) := by
  have b1 := s0.cap
  have b2 := s0.most
  obtain ⟨x, S, hx1, hx2⟩ := closes A0 n0 c0 _ w (by omega) (bytes_in s0) (bare_of s0)
  obtain ⟨y, T, hy1, hy2⟩ := opens A1 n1 c1 _ w s1.cap s1.most (bytes_in s1)
  have X1 := Lib.hid hx1
  have X2 := Lib.hid hx2
  have Y1 := Lib.hid hy1
  have Y2 := Lib.hid hy2
  clear hx1 hx2 hy1 hy2 s0 s1 r0 r1
  go_enter Try.func4, Try.ntmps4
  go_wp2_with fail
  with_reducible refine (X1.out _ (Below.refl _ _)).mono ?_
  rintro e w1 ⟨v1, rfl, ht1, hb1⟩
  have B1 := Lib.hid hb1
  have T1 := Lib.hid ht1
  clear hb1 ht1
  go_wp2_with fail
  with_reducible refine (X2.out _ B1.out).mono ?_
  rintro e w2 ⟨v2, rfl, ht2, hb2⟩
  have B2 : Hid (Below w.heap.size w w2) := Lib.hid (B1.out.trans (hb2.mono B1.out.size))
  have T2 := Lib.hid ht2
  have T1' := Lib.hid (T1.out.below hb2)
  clear hb2 ht2
  go_wp2_with fail
  with_reducible refine (Y1.out _ B2.out).mono ?_
  rintro e w3 ⟨v3, rfl, ht3, hb3⟩
  have B3 : Hid (Below w.heap.size w w3) := Lib.hid (B2.out.trans (hb3.mono B2.out.size))
  have T3 := Lib.hid ht3
  have T1'' := Lib.hid (T1'.out.below hb3)
  have T2' := Lib.hid (T2.out.below hb3)
  clear hb3 ht3
  go_wp2_with fail
  with_reducible refine (Y2.out _ B3.out).mono ?_
  rintro e w4 ⟨v4, rfl, ht4, hb4⟩
  have B4 : Hid (Below w.heap.size w w4) := Lib.hid (B3.out.trans (hb4.mono B3.out.size))
  have T4 := Lib.hid ht4
  have U1 := Lib.hid (T1''.out.below hb4)
  have U2 := Lib.hid (T2'.out.below hb4)
  have U3 := Lib.hid (T3.out.below hb4)
  clear hb4 ht4
  go_wp2_with fail
  refine (awake_any _).mono ?_
  rintro e w5 ⟨rfl, hb5⟩
  have k1 := (U1.out.below hb5).conv
  have k2 := (U2.out.below hb5).conv
  have k3 := (U3.out.below hb5).conv
  have k4 := (T4.out.below hb5).conv
  have B5 : Hid (Below w.heap.size w w5) := Lib.hid (B4.out.trans (hb5.mono B4.out.size))
  clear hb5
  go_wp2
  go_ret
  exact ⟨rfl, B5.out⟩

/-! ### the law's end -/
set_option linter.unusedVariables false
theorem own : ownKnob Try.prog.godebug = none := by kernel_rfl
theorem laidOut : laidOutB Try.prog = true := by kernel_rfl
set_option maxRecDepth 100000 in
theorem lifted (os : Os) (started : os.Started) (H : Type) (enc : TypeId × Value → H) :
    ReturnsInHanded {} Try.checked os 4 .any (Rows.sealSectorsSpec.pre6 enc Try.prog Try.f4 Rows.sealSectorsRow.domain false) (Rows.sealSectorsSpec.post enc Try.prog Try.f4 false true false false) := by
  refine returnsInHanded_of_change_sized (C := Try.checked) own started (by kernel_rfl) Try.func4
    (ChangeSpec.witness6 (enc := enc) (C := Try.checked) false ⟨#[], #[.slice none 0 0, .slice none 0 0], []⟩ 8 (by kernel_rfl) (by kernel_rfl) (by kernel_rfl) (by kernel_rfl)) ?_
  intro W base args ds gs before hval0 hW _ hsz0 _
  have hsz : (DataW.weightsEach Try.prog (Try.f4.params.toList ++ Rows.sealSectorsSpec.plain.varTypes Try.prog) (ds ++ gs)).all (· ≤ reachBytes) = true := hsz0
  clear hsz0
  have hval : ∀ (j : Nat) t v, Try.f4.params[j]? = some t → args[j]? = some v → Value.okWide Try.prog W .any base t v := hval0
  have hW' := hW
  obtain ⟨p, q, hA0, hV, rfl, _, _⟩ := hW
  have hA : DataW.TrodAll enc Try.prog W 0 (fun _ => true) true Try.f4.params.toList args.toList ds p := hA0
  rw [Try.params4] at hA hval hsz
  obtain ⟨v0, vs0, d0, ds0, p0, q0, hargs, rfl, rfl, h0, u0⟩ := trodAll_cons hA
  obtain ⟨v1, vs1, d1, ds1, p1, q1, rfl, rfl, rfl, h1, u1⟩ := trodAll_cons u0
  obtain ⟨rfl, rfl, rfl⟩ := trodAll_nil u1
  obtain rfl : args = #[v0, v1] := by cases args; simp_all
  obtain ⟨rfl, rfl⟩ := trodVars_none hV
  clear hA0 hval0
  obtain ⟨A0, n0, c0, rfl⟩ := okWide_slice Try.underlying23 (hval 0 23 v0 rfl rfl)
  have k0 := h0
  obtain ⟨Z0, s0, z0⟩ := view_ints Try.underlying23 Try.underlying5 (by kernel_rfl) h0
  have r0 := reach_of (b := 1) hsz (j := 0) (t := 23) (e := 5) rfl rfl Try.underlying23 (by kernel_rfl) z0
  obtain ⟨A1, n1, c1, rfl⟩ := okWide_slice Try.underlying23 (hval 1 23 v1 rfl rfl)
  have k1 := h1
  obtain ⟨Z1, s1, z1⟩ := view_ints Try.underlying23 Try.underlying5 (by kernel_rfl) h1
  have r1 := reach_of (b := 1) hsz (j := 1) (t := 23) (e := 5) rfl rfl Try.underlying23 (by kernel_rfl) z1
  simp only [List.append_nil] at hW'
  have hlt : ∀ x ∈ p0 ++ p1, x.block < W.heap.size := fun x hx => by simpa using hW'.lt x (by simpa using hx)
  refine (walk W A0 n0 c0 Z0 s0 r0 A1 n1 c1 Z1 s1 r1).mono fun e W' ⟨he, hb⟩ => ?_
  subst he
  exact ⟨_, rfl, _, _, _, [], _, [], hW', (trodAll_cons_mk (shut_bool Try.underlying4 _) trodAll_mk0), (trodAll_cons_mk (Below.trod laidOut (by kernel_rfl) (of_decide_eq_true (by kernel_rfl)) k0 hb (fun x hx => hlt x (by simp [hx]))) (trodAll_cons_mk (Below.trod laidOut (by kernel_rfl) (of_decide_eq_true (by kernel_rfl)) k1 hb (fun x hx => hlt x (by simp [hx]))) trodAll_mk0)), rfl, hb.frame _, fun h => by cases h⟩

theorem over : Rows.sealSectorsRow.holds Try.pinned (OpenSpec.ofChange Rows.sealSectorsSpec) :=
  OpenClaim.holds_of_wide 4 Try.f4 rfl rfl rfl rfl rfl rfl rfl ⟨rfl, rfl, rfl, rfl, rfl⟩ rfl rfl rfl rfl rfl (by kernel_rfl) Try.func4 (by kernel_rfl)
    (of_decide_eq_true (by kernel_rfl)) (by unfold Func.isWrapper; first | (rw [if_pos (by decide +kernel)]; kernel_rfl) | (rw [if_neg (by decide +kernel)]; exact ⟨rfl, rfl⟩))
    (fun os started H enc _ => lifted os started H enc)

theorem proved : Rows.SealSectorsSaid := over
#print axioms proved
end Go.Proofs.Ytodejfkbiefeoaa.sealSectors
