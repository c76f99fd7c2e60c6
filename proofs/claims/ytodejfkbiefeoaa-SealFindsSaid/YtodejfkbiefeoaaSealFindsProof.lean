/- A sealed sector of which a burst of up to 32 bits is turned is none. For every input, no condition. -/
import Derived.Test.YtodejfkbiefeoaaSealAwake
import Derived.RegionTactic
import Derived.BigRegion
namespace Go.Proofs.Ytodejfkbiefeoaa.sealFinds
open Go.ChangeShapes Go.WideShapes Go.ChangeAt Go.RowKit

/-- A sector of which k bytes of a burst are turned. -/
def turned (f : Nat → Nat) (t : BitVec 32) (p k i : Nat) : Nat := f i ^^^ (if p ≤ i ∧ i < p + k then sumB t (i - p) else 0)

theorem turned_lt {f : Nat → Nat} (hf : ∀ i, f i < 256) (t : BitVec 32) (p k i : Nat) : turned f t p k i < 256 := by
  unfold turned
  refine Nat.xor_lt_two_pow (n := 8) (hf i) ?_
  split
  · exact sumB_lt _ _
  · omega
theorem turned_zero (f : Nat → Nat) (t : BitVec 32) (p i : Nat) : turned f t p 0 i = f i := by
  unfold turned
  rw [if_neg (by omega), Nat.xor_zero]
theorem turned_here (f : Nat → Nat) (t : BitVec 32) (p k : Nat) : turned f t p k (p + k) = f (p + k) := by
  unfold turned
  rw [if_neg (by omega), Nat.xor_zero]
theorem turned_next (f : Nat → Nat) (t : BitVec 32) (p k : Nat) : turned f t p (k + 1) (p + k) = f (p + k) ^^^ sumB t k := by
  unfold turned
  rw [if_pos (by omega)]
  congr 2
  omega
theorem turned_other {f : Nat → Nat} {t : BitVec 32} {p k i : Nat} (h : i ≠ p + k) : turned f t p k i = turned f t p (k + 1) i := by
  unfold turned
  by_cases h1 : p ≤ i ∧ i < p + k
  · rw [if_pos h1, if_pos (by omega)]
  · rw [if_neg h1, if_neg (by omega)]
theorem turned_bad (f : Nat → Nat) (n : Nat) (t : BitVec 32) (p : Nat) (hp : p ≤ 60) (ht : t ≠ 0#32) :
    ∃ j, j < 4 ∧ (∀ i, i < j → turned (sec f n) t p 4 (60 + i) = sumB (crc (turned (sec f n) t p 4) 60) i) ∧ turned (sec f n) t p 4 (60 + j) ≠ sumB (crc (turned (sec f n) t p 4) 60) j :=
  first_bad _ _ (burst_found (sec f n) t p hp ht (fun i _ => sec_sealed f n i))

/-- Block g begins with these bytes, and may be written. -/
def Holds (w : World) (g : Nat) (f : Nat → Nat) (n : Nat) : Prop := ∃ cur, w.heap[g]? = some (.cells cur 5 (0, 0)) ∧ ∀ i, i < n → cur[i]? = some (.int .u8 (f i : Int))
theorem Holds.cell {w : World} {g n i : Nat} {f : Nat → Nat} (h : Holds w g f n) (hi : i < n) : w.cell? ⟨g, i, none⟩ = some (.int .u8 (f i : Int)) := by
  obtain ⟨cur, hg, hc⟩ := h
  rw [cell_of_row w g i _ _ _ hg]
  exact hc i hi
theorem Holds.free {w : World} {g n : Nat} {f : Nat → Nat} (h : Holds w g f n) (i : Nat) : w.frozen? ⟨g, i, none⟩ = false := by
  obtain ⟨cur, hg, _⟩ := h
  simp [World.frozen?, hg]
theorem Holds.below {w w' : World} {g n : Nat} {f : Nat → Nat} (h : Holds w g f n) (hb : Below w.heap.size w w') : Holds w' g f n := by
  obtain ⟨cur, hg, hc⟩ := h
  exact ⟨cur, (hb.block g (Array.getElem?_eq_some_iff.1 hg).1).trans hg, hc⟩
theorem Holds.drew {w : World} {g n : Nat} {f : Nat → Nat} (h : Holds w g f n) : Holds w.drew g f n := h
theorem Holds.set_ {w : World} {g n k : Nat} {f f' : Nat → Nat} {z : Int} (h : Holds w g f n) (hz : z = (f' k : Int)) (he : ∀ i, i ≠ k → f i = f' i) :
    Holds (w.setCell ⟨g, k, none⟩ (.int .u8 z)) g f' n := by
  obtain ⟨cur, hg, hc⟩ := h
  refine ⟨cur.setIfInBounds k (.int .u8 z), ?_, fun i hi => ?_⟩
  · rw [setCell_eq_setRow w g k _ _ _ _ hg]
    exact setRow_heap w g _ _ _ _ hg
  · by_cases hik : k = i
    · subst hik
      have hl : k < cur.size := by
        have := (Array.getElem?_eq_some_iff.1 (hc k hi)).1
        exact this
      rw [Array.getElem?_setIfInBounds, if_pos rfl, if_pos hl, hz]
    · rw [Array.getElem?_setIfInBounds, if_neg hik, hc i hi, he i (Ne.symm hik)]
theorem Holds.bytes {w : World} {g n : Nat} {f : Nat → Nat} (h : Holds w g f n) (hf : ∀ i, f i < 256) : BytesAt w (some ⟨g, 0, none⟩) n f :=
  ⟨fun i _ => hf i, fun i hi => ⟨_, rfl, by rw [add_nil]; exact h.cell hi⟩⟩
theorem Row.holds {B : Nat} {w : World} {v : Value} {n : Nat} {f : Nat → Nat} (h : Row B w v n f) :
    ∃ g cap, v = .slice (some ⟨g, 0, none⟩) n cap ∧ B ≤ g ∧ n ≤ cap ∧ cap ≤ 9223372036854775807 ∧ Holds w g f n := by
  obtain ⟨g, cap, cur, hv, hB, hn, hc, hg, hf⟩ := h
  exact ⟨g, cap, hv, hB, hn, hc, cur, hg, hf⟩

def TurnLoop (f : Nat → Nat) (t : BitVec 32) (p g : Nat) (w : World) (v : Value) (wr : World) : Prop :=
  ∃ k : Nat, k ≤ 4 ∧ v = .int .i64 (k : Int) ∧ Holds wr g (turned f t p k) 64 ∧ Below w.heap.size w wr

theorem xor_u8 {a b x : Nat} (hx : x = a ^^^ b) (ha : a < 256) (hb : b < 256) : bits .xor .u8 (a : Int) (b : Int) = (x : Int) := by
  rw [u8_xor_nat a b ha hb, hx]
theorem turn_byte (t : BitVec 32) {k : Nat} (hk : k < 4) : num t / 2 ^ (24 - 8 * (k : Int)).toNat % 256 = (sumB t k : Int) := by
  rw [← sumB_num t k hk]
  congr 3
  omega
theorem turn_byte' (t : BitVec 32) {k : Nat} (hk : k < 4) : num t / 2 ^ (24 - 8 * k) % 256 = (sumB t k : Int) := by
  rw [← turn_byte t hk]
  congr 3
  omega

theorem text_long (A : Option Addr) (n c : Nat) (p : Int) (t : Int) (w : World) (hn : n ≤ 9223372036854775807) (h : 60 < n) :
    Calls Try.prog 6 #[.slice A n c, .int .u8 p, .int .u32 t] w (Fresh (.bool true) w) := by
  go_enter Try.func6, Try.ntmps6
  go_wp2_with fail
  with_reducible refine (close_long A n c _ hn h).mono ?_
  rintro e w' ⟨rfl, rfl⟩
  go_wp2_with fail
  refine (awake_any _).mono ?_
  rintro e w1 ⟨rfl, hb⟩
  have HB := Lib.hid hb
  clear hb
  go_wp2_with fail
  refine (awake_any _).mono ?_
  rintro e w2 ⟨rfl, hb2⟩
  go_wp2
  go_ret
  exact ⟨rfl, HB.out.trans (hb2.mono HB.out.size)⟩

theorem text_none (A : Option Addr) (n c : Nat) (f : Nat → Nat) (p : Int) (w : World) (hn : n ≤ 60) (h : BytesAt w A n f) :
    Calls Try.prog 6 #[.slice A n c, .int .u8 p, .int .u32 0] w (Fresh (.bool true) w) := by
  go_enter Try.func6, Try.ntmps6
  go_wp2_with fail
  with_reducible refine (close_any A n c f _ hn h).mono ?_
  rintro e w0 ⟨v, rfl, hr, hb0⟩
  have HB0 := Lib.hid hb0
  clear hb0 hr
  go_wp2_with fail
  refine (awake_any _).mono ?_
  rintro e w1 ⟨rfl, hb⟩
  have HB := Lib.hid hb
  clear hb
  go_wp2_with fail
  refine (awake_any _).mono ?_
  rintro e w2 ⟨rfl, hb2⟩
  go_wp2
  go_ret
  exact ⟨rfl, HB0.out.trans ((HB.out.trans (hb2.mono HB.out.size)).mono HB0.out.size)⟩

theorem text (A : Option Addr) (n c : Nat) (f : Nat → Nat) (q : Int) (t : BitVec 32) (w : World) (hn : n ≤ 60) (h : BytesAt w A n f) (q0 : 0 ≤ q) (q1 : q ≤ 255) (ht : t ≠ 0#32) :
    Calls Try.prog 6 #[.slice A n c, .int .u8 q, .int .u32 (num t)] w (Fresh (.bool true) w) := by
  obtain ⟨p, hp⟩ : ∃ p : Nat, q % 61 = (p : Int) := ⟨(q % 61).toNat, by omega⟩
  have p60 : p ≤ 60 := by omega
  obtain ⟨l0, l1⟩ := num_lt t
  have e0 : (num t == 0) = false := by
    have := num_ne (r := t) (s := 0#32) ht
    simpa [num] using this
  have H := Lib.hid h
  have HT := Lib.hid ht
  have F := Lib.hid (fun i => sec_lt h.small i)
  clear h ht
  go_enter Try.func6, Try.ntmps6
  go_wp2_with fail
  with_reducible refine (close_any A n c f _ hn H.out).mono ?_
  rintro e w0 ⟨v, rfl, hr, hb0⟩
  obtain ⟨g, cap, rfl, hg, hcap, hcap2, hh⟩ := Row.holds hr
  have HG := Lib.hid hg
  have HB0 := Lib.hid hb0
  have HH := Lib.hid hh
  clear hb0 hr hg hh H
  go_wp2_with fail
  refine (awake_any _).mono ?_
  rintro e w1 ⟨rfl, hb⟩
  have HB : Hid (Below w.heap.size w w1) := Lib.hid (HB0.out.trans (hb.mono HB0.out.size))
  have HH1 := Lib.hid (HH.out.below hb)
  clear hb HH HB0
  go_wp2
  clear hp
  go_loopw [10] (fun k wr => TurnLoop (sec f n) t p g w k wr) (fun k _ => 4 - (intOf k).toNat)
  case atStart => exact ⟨0, by omega, rfl, by obtain ⟨cur, x, y⟩ := HH1.out; exact ⟨cur, x, fun i hi => by rw [turned_zero]; exact y i hi⟩, HB.out⟩
  case round =>
    clear HH1 HB
    obtain ⟨k, hk, rfl, hl, hb⟩ := hrel
    have HL := Lib.hid hl
    have HB := Lib.hid hb
    clear hl hb
    by_cases k4 : k < 4
    · have hc := HL.out.cell (i := p + k) (by omega)
      have hz := HL.out.free (p + k)
      rw [turned_here] at hc
      obtain ⟨y, ey⟩ : ∃ y, y = sec f n (p + k) := ⟨_, rfl⟩
      rw [← ey] at hc
      obtain ⟨x, ex⟩ : ∃ x, x = y ^^^ sumB t k := ⟨_, rfl⟩
      have p1 := xor_u8 ex (by rw [ey]; exact F.out _) (sumB_lt t k)
      have HX : Hid (x = turned (sec f n) t p (k + 1) (p + k)) := Lib.hid (by rw [turned_next, ex, ey])
      clear ex ey
      have b1 := turn_byte t k4
      have b2 := turn_byte' t k4
      have i1 : IntKind.i64.wrap ((p : Int) + (k : Int)) = (p : Int) + (k : Int) := IntWalk.i64_in _ (by omega)
      have i2 : 0 ≤ (p : Int) + (k : Int) := by omega
      have i3 : (p : Int) + (k : Int) < 64 := by omega
      go_wp2
      go_region
      all_goals
        clear hc hz p1 b1 b2 i1 i2 i3
        go_wp2
        go_roundw
        case rel => exact ⟨k + 1, by omega, by go_num, (HL.out.set_ (by rw [HX.out]) (fun i hi => turned_other hi)).drew, (HB.out.setCell HG.out _).drew⟩
        case measure => simp [intOf]; omega
    · obtain rfl : k = 4 := by omega
      obtain ⟨j, hj, he, hne⟩ := turned_bad f n t p p60 HT.out
      have HE := Lib.hid he
      have HN := Lib.hid hne
      have HC := Lib.hid (HL.out.bytes (fun i => turned_lt F.out t p 4 i))
      clear he hne
      go_wp2_with fail
      with_reducible refine (open_bad ⟨g, 0, none⟩ cap _ _ hcap hcap2 HC.out j hj HE.out HN.out).mono ?_
      rintro e w' ⟨m, rfl, rfl⟩
      go_wp2
      go_ret
      exact ⟨rfl, below_drewN HB.out m⟩

set_option linter.unusedVariables false in
theorem walk (w : World) (A0 : Option Addr) (n0 c0 : Nat) (Z0 : List Int) (s0 : IntsIn w .u8 A0 n0 c0 Z0) (r0 : n0 * 1 ≤ 140737488351232) (a1 : Int) (w1 : (Lit.int .u8 a1).wf = true) (a2 : Int) (w2 : (Lit.int .u32 a2).wf = true) :
    Calls Try.prog 6 #[.slice A0 n0 c0, .int .u8 a1, .int .u32 a2] w (Fresh (.bool true) w) := by
  have b1 := s0.cap
  have b2 := s0.most
  have h1 : IntKind.u8.min ≤ a1 ∧ a1 ≤ IntKind.u8.max := by simpa [Lit.wf] using w1
  have h2 : IntKind.u32.min ≤ a2 ∧ a2 ≤ IntKind.u32.max := by simpa [Lit.wf] using w2
  obtain ⟨t, rfl⟩ := num_of a2 h2.1 h2.2
  by_cases hn : 60 < n0
  · exact text_long A0 n0 c0 a1 (num t) w (by omega) hn
  · by_cases ht : t = 0#32
    · subst ht
      exact text_none A0 n0 c0 _ a1 w (by omega) (bytes_in s0)
    · exact text A0 n0 c0 _ a1 t w (by omega) (bytes_in s0) h1.1 h1.2 ht

/-! ### the law's end -/
set_option linter.unusedVariables false
theorem own : ownKnob Try.prog.godebug = none := by kernel_rfl
theorem laidOut : laidOutB Try.prog = true := by kernel_rfl
set_option maxRecDepth 100000 in
theorem lifted (os : Os) (started : os.Started) (H : Type) (enc : TypeId × Value → H) :
    ReturnsInHanded {} Try.checked os 6 .any (Rows.sealFindsSpec.pre6 enc Try.prog Try.f6 Rows.sealFindsRow.domain false) (Rows.sealFindsSpec.post enc Try.prog Try.f6 false true false false) := by
  refine returnsInHanded_of_change_sized (C := Try.checked) own started (by kernel_rfl) Try.func6
    (ChangeSpec.witness6 (enc := enc) (C := Try.checked) false ⟨#[], #[.slice none 0 0, .int .u8 0, .int .u32 0], []⟩ 8 (by kernel_rfl) (by kernel_rfl) (by kernel_rfl) (by kernel_rfl)) ?_
  intro W base args ds gs before hval0 hW _ hsz0 _
  have hsz : (DataW.weightsEach Try.prog (Try.f6.params.toList ++ Rows.sealFindsSpec.plain.varTypes Try.prog) (ds ++ gs)).all (· ≤ reachBytes) = true := hsz0
  clear hsz0
  have hval : ∀ (j : Nat) t v, Try.f6.params[j]? = some t → args[j]? = some v → Value.okWide Try.prog W .any base t v := hval0
  have hW' := hW
  obtain ⟨p, q, hA0, hV, rfl, _, _⟩ := hW
  have hA : DataW.TrodAll enc Try.prog W 0 (fun _ => true) true Try.f6.params.toList args.toList ds p := hA0
  rw [Try.params6] at hA hval hsz
  obtain ⟨v0, vs0, d0, ds0, p0, q0, hargs, rfl, rfl, h0, u0⟩ := trodAll_cons hA
  obtain ⟨v1, vs1, d1, ds1, p1, q1, rfl, rfl, rfl, h1, u1⟩ := trodAll_cons u0
  obtain ⟨v2, vs2, d2, ds2, p2, q2, rfl, rfl, rfl, h2, u2⟩ := trodAll_cons u1
  obtain ⟨rfl, rfl, rfl⟩ := trodAll_nil u2
  obtain rfl : args = #[v0, v1, v2] := by cases args; simp_all
  obtain ⟨rfl, rfl⟩ := trodVars_none hV
  clear hA0 hval0
  obtain ⟨A0, n0, c0, rfl⟩ := okWide_slice Try.underlying23 (hval 0 23 v0 rfl rfl)
  have k0 := h0
  obtain ⟨Z0, s0, z0⟩ := view_ints Try.underlying23 Try.underlying5 (by kernel_rfl) h0
  have r0 := reach_of (b := 1) hsz (j := 0) (t := 23) (e := 5) rfl rfl Try.underlying23 (by kernel_rfl) z0
  have k1 := h1
  obtain ⟨a1, rfl, rfl, rfl, w1⟩ := open_int Try.underlying5 (hval 1 5 v1 rfl rfl) h1
  have k2 := h2
  obtain ⟨a2, rfl, rfl, rfl, w2⟩ := open_int Try.underlying22 (hval 2 22 v2 rfl rfl) h2
  simp only [List.append_nil] at hW'
  have hlt : ∀ x ∈ p0, x.block < W.heap.size := fun x hx => by simpa using hW'.lt x (by simpa using hx)
  refine (walk W A0 n0 c0 Z0 s0 r0 a1 w1 a2 w2).mono fun e W' ⟨he, hb⟩ => ?_
  subst he
  exact ⟨_, rfl, _, _, _, [], _, [], hW', (trodAll_cons_mk (shut_bool Try.underlying4 _) trodAll_mk0), (trodAll_cons_mk (Below.trod laidOut (by kernel_rfl) (of_decide_eq_true (by kernel_rfl)) k0 hb (fun x hx => hlt x (by simp [hx]))) (trodAll_cons_mk (Below.trod laidOut (by kernel_rfl) (of_decide_eq_true (by kernel_rfl)) k1 hb (fun x hx => (by cases hx))) (trodAll_cons_mk (Below.trod laidOut (by kernel_rfl) (of_decide_eq_true (by kernel_rfl)) k2 hb (fun x hx => (by cases hx))) trodAll_mk0))), rfl, hb.frame _, fun h => by cases h⟩

theorem over : Rows.sealFindsRow.holds Try.pinned (OpenSpec.ofChange Rows.sealFindsSpec) :=
  OpenClaim.holds_of_wide 6 Try.f6 rfl rfl rfl rfl rfl rfl rfl ⟨rfl, rfl, rfl, rfl, rfl⟩ rfl rfl rfl rfl rfl (by kernel_rfl) Try.func6 (by kernel_rfl)
    (of_decide_eq_true (by kernel_rfl)) (by unfold Func.isWrapper; first | (rw [if_pos (by decide +kernel)]; kernel_rfl) | (rw [if_neg (by decide +kernel)]; exact ⟨rfl, rfl⟩))
    (fun os started H enc _ => lifted os started H enc)

theorem proved : Rows.SealFindsSaid := over
#print axioms proved
end Go.Proofs.Ytodejfkbiefeoaa.sealFinds
