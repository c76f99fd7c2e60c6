/- So many writes and flushes are done, and none behind, till a crash. For every input. -/
import Derived.Test.YtcnoadikkfedaaaBasinOne
import Derived.Test.YtcnoadikkfedaaaBools
namespace Go.Proofs.Ytcnoadikkfedaaa.basinFails
open Go.ChangeShapes Go.WideShapes Go.ChangeAt Go.RowKit

/-- The device behind i writes and flushes, of which a may be done. -/
def F (a i : Nat) (D : Dev) : Prop := D.size = 4 ∧ D.loose.length ≤ i ∧ D.limited = true ∧ ((i ≤ a ∧ D.off = false ∧ D.left = (a : Int) - (i : Int)) ∨ (a < i ∧ D.off = true))

theorem F.power {a i : Nat} {D : Dev} (h : F a i D) : D.power.1 = decide (i < a) ∧ F a (i + 1) D.power.2 ∧ D.power.2.loose.length ≤ i := by
  obtain ⟨h1, h2, h3, h4⟩ := h
  obtain ⟨s1, s2, _⟩ := power_same D
  have hl : D.power.2.loose.length ≤ i := by rw [s2]; exact h2
  have hs : D.power.2.size = 4 := by rw [s1]; exact h1
  rcases h4 with ⟨h5, h6, h7⟩ | ⟨h5, h6⟩
  · by_cases h8 : i = a
    · have e : D.power = (false, { D with off := true }) := by
        unfold Dev.power
        rw [if_neg (by rw [h6]; simp), if_neg (by rw [h3]; simp), if_pos (by omega)]
      rw [e] at hl hs ⊢
      exact ⟨by simp; omega, ⟨hs, by omega, h3, .inr ⟨by omega, rfl⟩⟩, hl⟩
    · have e : D.power = (true, { D with left := D.left - 1 }) := by
        unfold Dev.power
        rw [if_neg (by rw [h6]; simp), if_neg (by rw [h3]; simp), if_neg (by omega)]
      rw [e] at hl hs ⊢
      exact ⟨by simp; omega, ⟨hs, by omega, h3, .inl ⟨by omega, h6, by show D.left - 1 = _; omega⟩⟩, hl⟩
  · have e : D.power = (false, D) := by
      unfold Dev.power
      rw [if_pos h6]
    rw [e] at hl hs ⊢
    exact ⟨by simp; omega, ⟨hs, by omega, h3, .inr ⟨by omega, h6⟩⟩, hl⟩

/-- What one of them answers. -/
def code (a i : Nat) : Int := if i < a then 0 else 10
def Done (a i : Nat) (w : World) (B g h : Nat) (e : Ending) (w' : World) : Prop := ∃ L' D', e = .returned (.int .i64 (code a i)) ∧ IsDev w' B g h L' D' ∧ F a (i + 1) D' ∧ Below B w w'

theorem flush_done {w : World} {B g h a i : Nat} {L : Value} {D : Dev} (d : IsDev w B g h L D) (hf : F a i D) (hB : B ≤ w.heap.size) :
    Calls Try.prog 16 #[.pointer (some ⟨g, 0, none⟩)] w (Done a i w B g h) := by
  refine (flush_any d).mono ?_
  rintro e w' ⟨ha, hr⟩
  obtain ⟨p1, p2, p3⟩ := hf.power
  have hb : Below B w w' := ha.below hB fun k hk hh => by
    rcases hh with rfl | rfl
    · have := d.bg; omega
    · have := d.bh; omega
  unfold Done code
  rcases hr with ⟨q, rfl, hd⟩ | ⟨q, rfl, hd⟩
  · rw [q] at p1
    rw [if_pos (by simpa using p1.symm)]
    exact ⟨_, _, rfl, hd, ⟨p2.1, by show ([] : List Wr).length ≤ _; simp, p2.2.2.1, p2.2.2.2⟩, hb⟩
  · rw [q] at p1
    rw [if_neg (by simpa using p1.symm)]
    exact ⟨_, _, rfl, hd, p2, hb⟩

theorem put_done {w : World} {B g h q b cap a i : Nat} {L : Value} {D : Dev} {f : Nat → Nat} (d : IsDev w B g h L D) (hf : F a i D) (hB : B ≤ w.heap.size) {t : Nat} (ht : t < 4) (hi : i ≤ 1000)
    (hq : w.heap[q]? = some (.cells #[.int .i64 (t : Int), .slice (some ⟨b, 0, none⟩) 64 cap] 53 (0, 0)))
    (hby : BytesAt w (some ⟨b, 0, none⟩) 64 f) (hc : 64 ≤ cap ∧ cap ≤ 9223372036854775807) (nq : ¬ foot g h L q) (nb : ¬ foot g h L b) :
    Calls Try.prog 12 #[.pointer (some ⟨g, 0, none⟩), .slice (some ⟨q, 0, none⟩) 1 1] w (Done a i w B g h) := by
  refine (put_one d hq hby hc nq nb (by rw [hf.1]; exact ht) (by have := hf.2.1; omega)).mono ?_
  rintro e w' ⟨L', rfl, hd, ha, -⟩
  obtain ⟨p1, p2, p3⟩ := hf.power
  have hb : Below B w w' := ha.below hB fun k hk hh => by have := (d.lt k hh).1; omega
  unfold Done code
  by_cases hp : D.power.1 = true
  · have e1 : D.put1 ⟨t, f⟩ = (true, { D.power.2 with loose := D.power.2.loose ++ [⟨t, f⟩] }) := by unfold Dev.put1; rw [if_pos hp]
    rw [hp] at p1
    rw [if_pos (by simpa using p1.symm)]
    refine ⟨L', _, by unfold Dev.put1Code; rw [e1]; rfl, hd, ?_, hb⟩
    rw [e1]
    exact ⟨p2.1, by show (D.power.2.loose ++ [_]).length ≤ _; simp; omega, p2.2.2.1, p2.2.2.2⟩
  · have e1 : D.put1 ⟨t, f⟩ = (false, D.power.2) := by unfold Dev.put1; rw [if_neg hp]
    have hp' : D.power.1 = false := by simpa using hp
    rw [hp'] at p1
    rw [if_neg (by simpa using p1.symm)]
    refine ⟨L', _, by unfold Dev.put1Code; rw [e1]; rfl, hd, ?_, hb⟩
    rw [e1]
    exact p2

def Failing (w : World) (g h a n : Nat) (v : Value) (wr : World) : Prop :=
  ∃ i D L, i ≤ n ∧ i ≤ 300 ∧ v = .int .i64 (i : Int) ∧ IsDev wr w.heap.size g h L D ∧ F a i D ∧ Below w.heap.size w wr

set_option maxRecDepth 100000 in
theorem text (a : Nat) (ha : a ≤ 255) (A : Option Addr) (n c : Nat) (B : Nat → Bool) (w : World) (s : BoolsIn w A n c B) :
    Calls Try.prog 5 #[.int .u8 (a : Int), .slice A n c] w (Fresh (.bool true) w) := by
  have HS := Lib.hid s
  have hn : n ≤ 9223372036854775807 := by have := s.cap; have := s.most; omega
  clear s
  go_enter Try.func5, Try.ntmps5
  go_wp2_with fail
  refine (new_ok 4 w (by omega) (by omega)).mono ?_
  rintro e w1 ⟨g, h, rfl, hd, hb⟩
  have D1 := Lib.hid hd
  have B1 := Lib.hid hb
  clear hd hb
  go_wp2_with fail
  refine (awake_any _).mono ?_
  rintro e w2 ⟨rfl, hb⟩
  have D2 := Lib.hid (D1.out.below hb)
  have B2 := Lib.hid (B1.out.trans (hb.mono B1.out.size))
  clear hb
  go_wp2_with fail
  refine (fail_any D2.out (a : Int) (by omega)).mono ?_
  rintro e w3 ⟨rfl, hd, hap⟩
  have D3 := Lib.hid hd
  have B3 : Hid (Below w.heap.size w w3) := Lib.hid (B2.out.trans (hap.below B2.out.size fun k hk e => by have := D2.out.bg; omega))
  clear hd hap
  go_wp2
  go_loopw [7] (fun v wr => Failing w g h a n v wr) (fun v _ => 300 - (intOf v).toNat)
  case atStart => exact ⟨0, _, _, Nat.zero_le _, by omega, rfl, D3.out, ⟨rfl, Nat.le_refl _, by simp, .inl ⟨Nat.zero_le _, rfl, by simp⟩⟩, B3.out⟩
  case round =>
    obtain ⟨i, D, L, hi, hi3, rfl, hd, hf, hb⟩ := hrel
    have D4 := Lib.hid hd
    have HF := Lib.hid hf
    have B4 := Lib.hid hb
    clear hd hf hb
    by_cases h0 : i < n ∧ i < 300
    · obtain ⟨h1, h2⟩ := h0
      obtain ⟨ad, rfl⟩ := HS.out.addr (by omega)
      have hc0 := cell_later B4.out (HS.out.cell ad rfl i h1)
      obtain ⟨y, hy⟩ : ∃ y, y = B i := ⟨_, rfl⟩
      rw [← hy] at hc0
      clear hy
      cases y with
      | true =>
        go_wp2_with fail
        refine (flush_done D4.out HF.out B4.out.size).mono ?_
        rintro e w5 ⟨L5, D5, rfl, hd, hf, hb⟩
        have D6 := Lib.hid hd
        have F6 := Lib.hid hf
        have B6 := Lib.hid (B4.out.trans hb)
        clear hd hf hb hc0
        by_cases hia : i < a
        · have e1 : code a i = 0 := if_pos hia
          rw [e1]
          clear e1
          go_wp2
          go_roundw
          case rel => exact ⟨i + 1, D5, L5, by omega, by omega, by go_num, D6.out, F6.out, B6.out⟩
          case measure => simp [intOf]; omega
        · have e1 : code a i = 10 := if_neg hia
          rw [e1]
          clear e1
          go_wp2
          go_roundw
          case rel => exact ⟨i + 1, D5, L5, by omega, by omega, by go_num, D6.out, F6.out, B6.out⟩
          case measure => simp [intOf]; omega
      | false =>
        go_wp2_with fail
        refine (fill_any 1 _).mono ?_
        rintro e w5 ⟨b, rfl, hly, hbw, hb⟩
        have hfd := D4.out.lt
        have hlt := hly.lt
        have LY := Lib.hid hly
        have B5 := Lib.hid hb
        obtain ⟨t, ht⟩ : ∃ t : Nat, (i : Int) % 4 = (t : Int) := ⟨i % 4, by omega⟩
        have ht4 : t < 4 := by omega
        clear hly hb hc0
        go_wp2_with fail
        have hx : Below w5.heap.size w5 (w5.alloc (.cells #[.int .i64 (t : Int), .slice (some ⟨b, 0, none⟩) 64 64] 53)) := (Below.refl _ _).alloc (Nat.le_refl _) _
        refine (put_done (q := w5.heap.size) (b := b) (cap := 64) (t := t) (f := fun _ => 1) ((D4.out.below B5.out).below hx) HF.out ?_ ht4 (by omega) (heap_alloc_new w5 _) ((LY.out.bytes (by omega) (fun _ _ => by omega)).below hx) (by omega) ?_ ?_).mono ?_
        · have := B4.out.size; have := B5.out.size; simp; omega
        · intro hh; have := (hfd _ hh).2; have := B5.out.size; omega
        · intro hh; have := (hfd _ hh).2; omega
        rintro e w6 ⟨L5, D5, rfl, hd, hf, hb⟩
        have D6 := Lib.hid hd
        have F6 := Lib.hid hf
        have B6 : Hid (Below w.heap.size w w6) := Lib.hid ((B4.out.trans ((B5.out.trans (hx.mono B5.out.size)).mono B4.out.size)).trans hb)
        clear hd hf hb hx ht hfd hlt
        by_cases hia : i < a
        · have e1 : code a i = 0 := if_pos hia
          rw [e1]
          clear e1
          go_wp2
          go_roundw
          case rel => exact ⟨i + 1, D5, L5, by omega, by omega, by go_num, D6.out, F6.out, B6.out⟩
          case measure => simp [intOf]; omega
        · have e1 : code a i = 10 := if_neg hia
          rw [e1]
          clear e1
          go_wp2
          go_roundw
          case rel => exact ⟨i + 1, D5, L5, by omega, by omega, by go_num, D6.out, F6.out, B6.out⟩
          case measure => simp [intOf]; omega
    · by_cases h1 : i < n
      · obtain rfl : i = 300 := by omega
        go_wp2_with fail
        refine (crash_any D4.out (ints_none _ .i64) (by have := HF.out.2.1; omega)).mono ?_
        rintro e w7 ⟨rfl, hd, ha7⟩
        have D7 := Lib.hid hd
        have B7 : Hid (Below w.heap.size w w7) := Lib.hid (B4.out.trans (ha7.below B4.out.size fun k hk hh => by
          rcases hh with rfl | rfl
          · have := D4.out.bg; omega
          · have := D4.out.bh; omega))
        clear hd ha7
        go_wp2_with fail
        refine (flush_any D7.out).mono ?_
        rintro e w8 ⟨ha8, hr⟩
        have B8 : Hid (Below w.heap.size w w8) := Lib.hid (B7.out.trans (ha8.below B7.out.size fun k hk hh => by
          rcases hh with rfl | rfl
          · have := D7.out.bg; omega
          · have := D7.out.bh; omega))
        have he : e = .returned (.int .i64 0) := by
          rcases hr with ⟨-, he, -⟩ | ⟨hp, -, -⟩
          · exact he
          · cases hp
        subst he
        clear ha8 hr
        go_wp2
        go_ret
        exact ⟨rfl, B8.out⟩
      · obtain rfl : i = n := by omega
        go_wp2_with fail
        refine (crash_any D4.out (ints_none _ .i64) (by have := HF.out.2.1; omega)).mono ?_
        rintro e w7 ⟨rfl, hd, ha7⟩
        have D7 := Lib.hid hd
        have B7 : Hid (Below w.heap.size w w7) := Lib.hid (B4.out.trans (ha7.below B4.out.size fun k hk hh => by
          rcases hh with rfl | rfl
          · have := D4.out.bg; omega
          · have := D4.out.bh; omega))
        clear hd ha7
        go_wp2_with fail
        refine (flush_any D7.out).mono ?_
        rintro e w8 ⟨ha8, hr⟩
        have B8 : Hid (Below w.heap.size w w8) := Lib.hid (B7.out.trans (ha8.below B7.out.size fun k hk hh => by
          rcases hh with rfl | rfl
          · have := D7.out.bg; omega
          · have := D7.out.bh; omega))
        have he : e = .returned (.int .i64 0) := by
          rcases hr with ⟨-, he, -⟩ | ⟨hp, -, -⟩
          · exact he
          · cases hp
        subst he
        clear ha8 hr
        go_wp2
        go_ret
        exact ⟨rfl, B8.out⟩
set_option linter.unusedVariables false in
theorem walk (w : World) (a0 : Int) (w0 : (Lit.int .u8 a0).wf = true) (A1 : Option Addr) (n1 c1 : Nat) (B1 : Nat → Bool) (s1 : BoolsIn w A1 n1 c1 B1) :
    Calls Try.prog 5 #[.int .u8 a0, .slice A1 n1 c1] w (Fresh (.bool true) w) := by
  obtain ⟨a, rfl⟩ : ∃ a : Nat, a0 = (a : Int) := ⟨a0.toNat, by have := u8_wf w0; omega⟩
  exact text a (by have := u8_wf w0; omega) A1 n1 c1 B1 w s1
/-! ### the law's end -/
set_option linter.unusedVariables false
theorem own : ownKnob Try.prog.godebug = none := by kernel_rfl
theorem laidOut : laidOutB Try.prog = true := by kernel_rfl
set_option maxRecDepth 100000 in

theorem lifted (os : Os) (started : os.Started) (H : Type) (enc : TypeId × Value → H) :
    ReturnsInHanded {} Try.checked os 5 .any (Rows.basinFailsSpec.pre6 enc Try.prog Try.f5 Rows.basinFailsRow.domain false) (Rows.basinFailsSpec.post enc Try.prog Try.f5 false true false false) := by
  refine returnsInHanded_of_change_sized (C := Try.checked) own started (by kernel_rfl) Try.func5
    (ChangeSpec.witness6 (enc := enc) (C := Try.checked) false ⟨#[], #[.int .u8 0, .slice none 0 0], []⟩ 8 (by kernel_rfl) (by kernel_rfl) (by kernel_rfl) (by kernel_rfl)) ?_
  intro W base args ds gs before hval0 hW _ hsz0 _
  have hsz : (DataW.weightsEach Try.prog (Try.f5.params.toList ++ Rows.basinFailsSpec.plain.varTypes Try.prog) (ds ++ gs)).all (· ≤ reachBytes) = true := hsz0
  clear hsz0
  have hval : ∀ (j : Nat) t v, Try.f5.params[j]? = some t → args[j]? = some v → Value.okWide Try.prog W .any base t v := hval0
  have hW' := hW
  obtain ⟨p, q, hA0, hV, rfl, _, _⟩ := hW
  have hA : DataW.TrodAll enc Try.prog W 0 (fun _ => true) true Try.f5.params.toList args.toList ds p := hA0
  rw [Try.params5] at hA hval hsz
  obtain ⟨v0, vs0, d0, ds0, p0, q0, hargs, rfl, rfl, h0, u0⟩ := trodAll_cons hA
  obtain ⟨v1, vs1, d1, ds1, p1, q1, rfl, rfl, rfl, h1, u1⟩ := trodAll_cons u0
  obtain ⟨rfl, rfl, rfl⟩ := trodAll_nil u1
  obtain rfl : args = #[v0, v1] := by cases args; simp_all
  obtain ⟨rfl, rfl⟩ := trodVars_none hV
  clear hA0 hval0
  have k0 := h0
  obtain ⟨a0, rfl, rfl, rfl, w0⟩ := open_int Try.underlying5 (hval 0 5 v0 rfl rfl) h0
  obtain ⟨A1, n1, c1, rfl⟩ := okWide_slice Try.underlying54 (hval 1 54 v1 rfl rfl)
  have k1 := h1
  obtain ⟨B1, s1⟩ := view_bools Try.underlying54 Try.underlying4 (by kernel_rfl) h1
  simp only [List.append_nil] at hW'
  have hlt : ∀ x ∈ p1, x.block < W.heap.size := fun x hx => by simpa using hW'.lt x (by simpa using hx)
  refine (walk W a0 w0 A1 n1 c1 B1 s1).mono fun e W' ⟨he, hb⟩ => ?_
  subst he
  exact ⟨_, rfl, _, _, _, [], _, [], hW', (trodAll_cons_mk (shut_bool Try.underlying4 _) trodAll_mk0), (trodAll_cons_mk (Below.trod laidOut (by kernel_rfl) (of_decide_eq_true (by kernel_rfl)) k0 hb (fun x hx => (by cases hx))) (trodAll_cons_mk (Below.trod laidOut (by kernel_rfl) (of_decide_eq_true (by kernel_rfl)) k1 hb (fun x hx => hlt x (by simp [hx]))) trodAll_mk0)), rfl, hb.frame _, fun h => by cases h⟩

theorem over : Rows.basinFailsRow.holds Try.pinned (OpenSpec.ofChange Rows.basinFailsSpec) :=
  OpenClaim.holds_of_wide 5 Try.f5 rfl rfl rfl rfl rfl rfl rfl ⟨rfl, rfl, rfl, rfl, rfl⟩ rfl rfl rfl rfl rfl (by kernel_rfl) Try.func5 (by kernel_rfl)
    (of_decide_eq_true (by kernel_rfl)) (by unfold Func.isWrapper; first | (rw [if_pos (by decide +kernel)]; kernel_rfl) | (rw [if_neg (by decide +kernel)]; exact ⟨rfl, rfl⟩))
    (fun os started H enc _ => lifted os started H enc)

theorem proved : Rows.BasinFailsSaid := over
#print axioms proved
end Go.Proofs.Ytcnoadikkfedaaa.basinFails
