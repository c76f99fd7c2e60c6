/- Of three texts of one length, added bit by bit, the sum is the three sums, added. For every input, no condition. -/
import Derived.Test.YtodejfkbiefeoaaSealAwake
import Derived.RegionTactic
import Derived.BigRegion
import Derived.Test.YtodejfkbiefeoaaCalm
namespace Go.Proofs.Ytodejfkbiefeoaa.sealThree
open Go.ChangeShapes Go.WideShapes Go.ChangeAt Go.RowKit

/-- The three texts, added, as far as k. -/
def mix (f g h : Nat → Nat) (k i : Nat) : Nat := if i < k then f i ^^^ g i ^^^ h i else 0
def MixLoop (f g h : Nat → Nat) (n b : Nat) (w : World) (v : Value) (wr : World) : Prop :=
  ∃ k : Nat, k ≤ n ∧ v = .int .i64 (k : Int) ∧ Lies wr b (mix f g h k) n ∧ Below b w wr

theorem mix_next {f g h : Nat → Nat} {k i : Nat} (hi : i ≠ k) : mix f g h k i = mix f g h (k + 1) i := by
  unfold mix
  by_cases h1 : i < k
  · rw [if_pos h1, if_pos (by omega)]
  · rw [if_neg h1, if_neg (by omega)]
theorem mix_crc (f g h : Nat → Nat) (n : Nat) : crc (mix f g h n) n = crc f n ^^^ crc g n ^^^ crc h n := by
  rw [← crc_three]
  exact crc_congr fun i hi => by unfold mix; rw [if_pos hi]
theorem sum_as {s : BitVec 32} {f : Nat → Nat} {n : Nat} (hs : s = crc f n) (A : Option Addr) (c : Nat) (w : World) (hn : n ≤ 9223372036854775807) (h : BytesAt w A n f) :
    Calls Try.prog 10 #[.slice A n c] w fun e w' => e = .returned (.int .u32 (num s)) ∧ w = w' := by
  rw [hs]
  exact sum_any A n c f w hn h
theorem xor_u8 {a b x : Nat} (hx : x = a ^^^ b) (ha : a < 256) (hb : b < 256) : bits .xor .u8 (a : Int) (b : Int) = (x : Int) := by
  rw [u8_xor_nat a b ha hb, hx]
theorem xor_lt {a b : Nat} (ha : a < 256) (hb : b < 256) : a ^^^ b < 256 := Nat.xor_lt_two_pow (n := 8) ha hb

theorem mix_lt {f g h : Nat → Nat} {n : Nat} (hf : ∀ i, i < n → f i < 256) (hg : ∀ i, i < n → g i < 256) (hh : ∀ i, i < n → h i < 256) (i : Nat) (hi : i < n) : mix f g h n i < 256 := by
  unfold mix
  rw [if_pos hi]
  exact xor_lt (xor_lt (hf i hi) (hg i hi)) (hh i hi)
theorem undrew {w w1 : World} (h : Below w.drew.heap.size w.drew w1) : Below w.heap.size w w1 := ⟨h.os, h.tape, h.output, h.size, h.block⟩
theorem ilt {k n m : Nat} (h : k < n) (l : n ≤ m) : (k : Int) < (m : Int) := by omega

theorem ways (n0 n1 n2 : Nat) : ∃ n : Nat,
    (decide (n1 < n0) = true ∧ decide (n2 < n1) = true ∧ n ≤ n0 ∧ n ≤ n1 ∧ n = n2) ∨ (decide (n1 < n0) = true ∧ decide (n2 < n1) = false ∧ n ≤ n0 ∧ n ≤ n2 ∧ n = n1) ∨
    (decide (n1 < n0) = false ∧ decide (n2 < n0) = true ∧ n ≤ n0 ∧ n ≤ n1 ∧ n = n2) ∨ (decide (n1 < n0) = false ∧ decide (n2 < n0) = false ∧ n ≤ n1 ∧ n ≤ n2 ∧ n = n0) := by
  by_cases h1 : n1 < n0
  · by_cases h2 : n2 < n1
    · exact ⟨n2, .inl ⟨by simp; omega, by simp; omega, by omega, by omega, rfl⟩⟩
    · exact ⟨n1, .inr (.inl ⟨by simp; omega, by simp; omega, by omega, by omega, rfl⟩)⟩
  · by_cases h2 : n2 < n0
    · exact ⟨n2, .inr (.inr (.inl ⟨by simp; omega, by simp; omega, by omega, by omega, rfl⟩))⟩
    · exact ⟨n0, .inr (.inr (.inr ⟨by simp; omega, by simp; omega, by omega, by omega, rfl⟩))⟩

theorem text (A0 A1 A2 : Option Addr) (n0 n1 n2 c0 c1 c2 : Nat) (f0 f1 f2 : Nat → Nat) (w : World) (k0 : n0 ≤ c0) (k1 : n1 ≤ c1) (k2 : n2 ≤ c2)
    (_m0 : c0 ≤ 9223372036854775807) (m1 : c1 ≤ 9223372036854775807) (_m2 : c2 ≤ 9223372036854775807) (r0 : n0 ≤ 140737488351232)
    (s0 : BytesAt w A0 n0 f0) (s1 : BytesAt w A1 n1 f1) (s2 : BytesAt w A2 n2 f2) :
    Calls Try.prog 7 #[.slice A0 n0 c0, .slice A1 n1 c1, .slice A2 n2 c2] w (Fresh (.bool true) w) := by
  have S0 := Lib.hid s0
  have S1 := Lib.hid s1
  have S2 := Lib.hid s2
  clear s0 s1 s2
  obtain ⟨n, ⟨d1, d2, l1, l2, e⟩ | ⟨d1, d2, l1, l2, e⟩ | ⟨d1, d2, l1, l2, e⟩ | ⟨d1, d2, l1, l2, e⟩⟩ := ways n0 n1 n2
  all_goals
    subst e
    have hmk := make_bytes n (by omega)
    go_enter Try.func7, Try.ntmps7
    go_wp2
    clear hmk d1 d2
    go_loopw [9] (fun k wr => MixLoop f0 f1 f2 n w.heap.size w k wr) (fun k _ => n - (intOf k).toNat)
    case atStart => exact ⟨0, by omega, rfl, made_lies w n, (Below.refl _ _).alloc (Nat.le_refl _) _⟩
    case round =>
      obtain ⟨k, hk, rfl, hl, hb⟩ := hrel
      have HL := Lib.hid hl
      have HB := Lib.hid hb
      clear hl hb
      have T0 : Hid (BytesAt wr A0 n f0) := Lib.hid ((S0.out.first (by omega)).below HB.out)
      have T1 : Hid (BytesAt wr A1 n f1) := Lib.hid ((S1.out.first (by omega)).below HB.out)
      have T2 : Hid (BytesAt wr A2 n f2) := Lib.hid ((S2.out.first (by omega)).below HB.out)
      by_cases hkn : k < n
      · obtain ⟨a0, rfl⟩ := T0.out.addr (by omega)
        obtain ⟨a1, rfl⟩ := T1.out.addr (by omega)
        obtain ⟨a2, rfl⟩ := T2.out.addr (by omega)
        have q0 := T0.out.at_ hkn
        have q1 := T1.out.at_ hkn
        have q2 := T2.out.at_ hkn
        have q3 := HL.out.cell (i := k) hkn
        have q4 := HL.out.free k
        have z0 := T0.out.small k hkn
        have z1 := T1.out.small k hkn
        have z2 := T2.out.small k hkn
        obtain ⟨y0, e0⟩ : ∃ y, y = f0 k := ⟨_, rfl⟩
        obtain ⟨y1, e1⟩ : ∃ y, y = f1 k := ⟨_, rfl⟩
        obtain ⟨y2, e2⟩ : ∃ y, y = f2 k := ⟨_, rfl⟩
        rw [← e0] at q0 z0
        rw [← e1] at q1 z1
        rw [← e2] at q2 z2
        obtain ⟨x, ex⟩ : ∃ x, x = y0 ^^^ y1 := ⟨_, rfl⟩
        obtain ⟨y, ey⟩ : ∃ y, y = x ^^^ y2 := ⟨_, rfl⟩
        have p0 := xor_u8 ex z0 z1
        have p1 := xor_u8 ey (by rw [ex]; exact xor_lt z0 z1) z2
        have HY : Hid (y = mix f0 f1 f2 (k + 1) k) := Lib.hid (by unfold mix; rw [if_pos (by omega), ey, ex, e0, e1, e2])
        clear e0 e1 e2 ex ey
        have i0 : (0 : Int) ≤ (k : Int) := by omega
        have i1 : (k : Int) < (n : Int) := by omega
        have i2 := ilt hkn l1
        have i3 := ilt hkn l2
        clear T0 T1 T2
        go_wp2
        go_region
        all_goals
          clear q0 q1 q2 q3 q4 p0 p1
          go_wp2
          go_roundw
          case rel => exact ⟨k + 1, by omega, by go_num, Lies.drewN (HL.out.set_ hkn (by rw [HY.out]) (fun i hi => mix_next hi)) 1, (HB.out.setCell (Nat.le_refl _) _).drew⟩
          case measure => simp [intOf]; omega
      · obtain rfl : n = k := by omega
        have HS := Lib.hid (HB.out.size)
        have HT := Lib.hid HL.out.lt
        obtain ⟨t0, g0⟩ : ∃ t, t = crc f0 n := ⟨_, rfl⟩
        obtain ⟨t1, g1⟩ : ∃ t, t = crc f1 n := ⟨_, rfl⟩
        obtain ⟨t2, g2⟩ : ∃ t, t = crc f2 n := ⟨_, rfl⟩
        obtain ⟨t3, g3⟩ : ∃ t, t = t0 ^^^ t1 := ⟨_, rfl⟩
        obtain ⟨t4, g4⟩ : ∃ t, t = t3 ^^^ t2 := ⟨_, rfl⟩
        have x3 : bits .xor .u32 (num t0) (num t1) = num t3 := by rw [num_xor, g3]
        have x4 : bits .xor .u32 (num t3) (num t2) = num t4 := by rw [num_xor, g4]
        have G0 := Lib.hid g0
        have G1 := Lib.hid g1
        have G2 := Lib.hid g2
        have G4 : Hid (t4 = crc (mix f0 f1 f2 n) n) := Lib.hid (by rw [g4, g3, g0, g1, g2, mix_crc])
        have L := Lib.hid (mix_lt (fun i hi => T0.out.small i hi) (fun i hi => T1.out.small i hi) (fun i hi => T2.out.small i hi))
        clear g0 g1 g2 g3 g4
        have V0 : Hid (∀ W, Below wr.heap.size wr W → Calls Try.prog 10 #[.slice A0 n c0] W fun e w' => e = .returned (.int .u32 (num t0)) ∧ W = w') := Lib.hid fun W hW => sum_as G0.out A0 _ W (by omega) (T0.out.below hW)
        have V1 : Hid (∀ W, Below wr.heap.size wr W → Calls Try.prog 10 #[.slice A1 n c1] W fun e w' => e = .returned (.int .u32 (num t1)) ∧ W = w') := Lib.hid fun W hW => sum_as G1.out A1 _ W (by omega) (T1.out.below hW)
        have V2 : Hid (∀ W, Below wr.heap.size wr W → Calls Try.prog 10 #[.slice A2 n c2] W fun e w' => e = .returned (.int .u32 (num t2)) ∧ W = w') := Lib.hid fun W hW => sum_as G2.out A2 _ W (by omega) (T2.out.below hW)
        have V3 : Hid (∀ W, Below wr.heap.size wr W → Calls Try.prog 10 #[.slice (some ⟨w.heap.size, 0, none⟩) n n] W fun e w' => e = .returned (.int .u32 (num t4)) ∧ W = w') := Lib.hid fun W hW => sum_as G4.out _ _ W (by omega) ((HL.out.below hW HT.out).bytes (Nat.le_refl _) L.out)
        go_wp2
        refine region_later (by kernel_rfl) (by kernel_rfl) ?_
        repeat (go_big_quiet_step (first
          | (go_at_call 9; exact later_fresh (fun W => awake_any W))
          | (go_at_call 10; with_reducible exact later_same V3.out)
          | (go_at_call 10; with_reducible exact later_same V0.out)
          | (go_at_call 10; with_reducible exact later_same V1.out)
          | (go_at_call 10; with_reducible exact later_same V2.out)))
        refine wpQuiet_nil ?_
        rintro w9 ⟨⟨w1, hb1⟩, hw9⟩
        obtain rfl : w9 = w1 := hw9
        go_wp2
        go_ret
        exact ⟨rfl, HB.out.trans (hb1.mono HS.out)⟩

set_option linter.unusedVariables false in
theorem walk (w : World) (A0 : Option Addr) (n0 c0 : Nat) (Z0 : List Int) (s0 : IntsIn w .u8 A0 n0 c0 Z0) (r0 : n0 * 1 ≤ 140737488351232) (A1 : Option Addr) (n1 c1 : Nat) (Z1 : List Int) (s1 : IntsIn w .u8 A1 n1 c1 Z1) (r1 : n1 * 1 ≤ 140737488351232) (A2 : Option Addr) (n2 c2 : Nat) (Z2 : List Int) (s2 : IntsIn w .u8 A2 n2 c2 Z2) (r2 : n2 * 1 ≤ 140737488351232) :
    Calls Try.prog 7 #[.slice A0 n0 c0, .slice A1 n1 c1, .slice A2 n2 c2] w (Fresh (.bool true) w) := by
  exact text A0 A1 A2 n0 n1 n2 c0 c1 c2 _ _ _ w s0.cap s1.cap s2.cap s0.most s1.most s2.most (by omega) (bytes_in s0) (bytes_in s1) (bytes_in s2)

/-! ### the law's end -/
set_option linter.unusedVariables false
theorem own : ownKnob Try.prog.godebug = none := by kernel_rfl
theorem laidOut : laidOutB Try.prog = true := by kernel_rfl
set_option maxRecDepth 100000 in
theorem lifted (os : Os) (started : os.Started) (H : Type) (enc : TypeId × Value → H) :
    ReturnsInHanded {} Try.checked os 7 .any (Rows.sealThreeSpec.pre6 enc Try.prog Try.f7 Rows.sealThreeRow.domain false) (Rows.sealThreeSpec.post enc Try.prog Try.f7 false true false false) := by
  refine returnsInHanded_of_change_sized (C := Try.checked) own started (by kernel_rfl) Try.func7
    (ChangeSpec.witness6 (enc := enc) (C := Try.checked) false ⟨#[], #[.slice none 0 0, .slice none 0 0, .slice none 0 0], []⟩ 8 (by kernel_rfl) (by kernel_rfl) (by kernel_rfl) (by kernel_rfl)) ?_
  intro W base args ds gs before hval0 hW _ hsz0 _
  have hsz : (DataW.weightsEach Try.prog (Try.f7.params.toList ++ Rows.sealThreeSpec.plain.varTypes Try.prog) (ds ++ gs)).all (· ≤ reachBytes) = true := hsz0
  clear hsz0
  have hval : ∀ (j : Nat) t v, Try.f7.params[j]? = some t → args[j]? = some v → Value.okWide Try.prog W .any base t v := hval0
  have hW' := hW
  obtain ⟨p, q, hA0, hV, rfl, _, _⟩ := hW
  have hA : DataW.TrodAll enc Try.prog W 0 (fun _ => true) true Try.f7.params.toList args.toList ds p := hA0
  rw [Try.params7] at hA hval hsz
  obtain ⟨v0, vs0, d0, ds0, p0, q0, hargs, rfl, rfl, h0, u0⟩ := trodAll_cons hA
  obtain ⟨v1, vs1, d1, ds1, p1, q1, rfl, rfl, rfl, h1, u1⟩ := trodAll_cons u0
  obtain ⟨v2, vs2, d2, ds2, p2, q2, rfl, rfl, rfl, h2, u2⟩ := trodAll_cons u1
  obtain ⟨rfl, rfl, rfl⟩ := trodAll_nil u2
  obtain rfl : args = #[v0, v1, v2] := by cases args; simp_all
  obtain ⟨rfl, rfl⟩ := trodVars_none hV
  clear hA0 hval0
  obtain ⟨A0, n0, c0, rfl⟩ := okWide_slice Try.underlying23 (hval 0 23 v0 rfl rfl)
  have k0 := h0
  obtain ⟨Z0, s0, z0⟩ := view_ints Try.underlying23 Try.underlying5 (by kernel_rfl) h0
  have r0 := reach_of (b := 1) hsz (j := 0) (t := 23) (e := 5) rfl rfl Try.underlying23 (by kernel_rfl) z0
  obtain ⟨A1, n1, c1, rfl⟩ := okWide_slice Try.underlying23 (hval 1 23 v1 rfl rfl)
  have k1 := h1
  obtain ⟨Z1, s1, z1⟩ := view_ints Try.underlying23 Try.underlying5 (by kernel_rfl) h1
  have r1 := reach_of (b := 1) hsz (j := 1) (t := 23) (e := 5) rfl rfl Try.underlying23 (by kernel_rfl) z1
  obtain ⟨A2, n2, c2, rfl⟩ := okWide_slice Try.underlying23 (hval 2 23 v2 rfl rfl)
  have k2 := h2
  obtain ⟨Z2, s2, z2⟩ := view_ints Try.underlying23 Try.underlying5 (by kernel_rfl) h2
  have r2 := reach_of (b := 1) hsz (j := 2) (t := 23) (e := 5) rfl rfl Try.underlying23 (by kernel_rfl) z2
  simp only [List.append_nil] at hW'
  have hlt : ∀ x ∈ p0 ++ p1 ++ p2, x.block < W.heap.size := fun x hx => by simpa using hW'.lt x (by simpa using hx)
  refine (walk W A0 n0 c0 Z0 s0 r0 A1 n1 c1 Z1 s1 r1 A2 n2 c2 Z2 s2 r2).mono fun e W' ⟨he, hb⟩ => ?_
  subst he
  exact ⟨_, rfl, _, _, _, [], _, [], hW', (trodAll_cons_mk (shut_bool Try.underlying4 _) trodAll_mk0), (trodAll_cons_mk (Below.trod laidOut (by kernel_rfl) (of_decide_eq_true (by kernel_rfl)) k0 hb (fun x hx => hlt x (by simp [hx]))) (trodAll_cons_mk (Below.trod laidOut (by kernel_rfl) (of_decide_eq_true (by kernel_rfl)) k1 hb (fun x hx => hlt x (by simp [hx]))) (trodAll_cons_mk (Below.trod laidOut (by kernel_rfl) (of_decide_eq_true (by kernel_rfl)) k2 hb (fun x hx => hlt x (by simp [hx]))) trodAll_mk0))), rfl, hb.frame _, fun h => by cases h⟩

theorem over : Rows.sealThreeRow.holds Try.pinned (OpenSpec.ofChange Rows.sealThreeSpec) :=
  OpenClaim.holds_of_wide 7 Try.f7 rfl rfl rfl rfl rfl rfl rfl ⟨rfl, rfl, rfl, rfl, rfl⟩ rfl rfl rfl rfl rfl (by kernel_rfl) Try.func7 (by kernel_rfl)
    (of_decide_eq_true (by kernel_rfl)) (by unfold Func.isWrapper; first | (rw [if_pos (by decide +kernel)]; kernel_rfl) | (rw [if_neg (by decide +kernel)]; exact ⟨rfl, rfl⟩))
    (fun os started H enc _ => lifted os started H enc)

theorem proved : Rows.SealThreeSaid := over
#print axioms proved
end Go.Proofs.Ytodejfkbiefeoaa.sealThree
