
/- The deltas that the package reads of a device. -/
import Derived.Test.YtmgeifolgdgapaaSpDeltas
import Derived.Test.YtmgeifolgdgapaaDvFree
namespace Go.Proofs.Ytmgeifolgdgapaa
open Go.RowKit

theorem spSeq_yes (k : Nat) (w : World) (h : 1 ≤ k ∧ k ≤ 1073741824) :
    Calls Try.prog 20 #[.int .i64 (k : Int)] w fun e w' => e = .returned (.bool true) ∧ w = w' := by
  obtain ⟨h1, h2⟩ := h
  have d1 : decide ((1 : Int) ≤ (k : Int)) = true := by simp; omega
  have d2 : decide ((k : Int) ≤ 1073741824) = true := by simp; omega
  go_enter Try.func20, Try.ntmps20
  go_wp2
  go_ret
  exact ⟨rfl, rfl⟩
theorem spSeq_no (s : Int) (w : World) (h : ¬ (1 ≤ s ∧ s ≤ 1073741824)) :
    Calls Try.prog 20 #[.int .i64 s] w fun e w' => e = .returned (.bool false) ∧ w = w' := by
  by_cases h1 : 1 ≤ s
  · have d1 : decide ((1 : Int) ≤ s) = true := by simp; omega
    have d2 : decide (s ≤ 1073741824) = false := by simp; omega
    go_enter Try.func20, Try.ntmps20
    go_wp2
    go_ret
    exact ⟨rfl, rfl⟩
  · have d1 : decide ((1 : Int) ≤ s) = false := by simp; omega
    go_enter Try.func20, Try.ntmps20
    go_wp2
    go_ret
    exact ⟨rfl, rfl⟩

/-- Deltas behind deltas. -/
def behindD (f : Nat → Del) (n : Nat) (g : Nat → Del) (i : Nat) : Del := if i < n then f i else g (i - n)
theorem dcells_behind (f g : Nat → Del) (n : Nat) : ∀ m, dcells f n ++ dcells g m = dcells (behindD f n g) (n + m)
  | 0 => by
    rw [Nat.add_zero, dcells_congr (ds := behindD f n g) (es := f) fun i hi => by unfold behindD; rw [if_pos hi]]
    show dcells f n ++ [] = _
    rw [List.append_nil]
  | m + 1 => by
    rw [← dcells_next, ← List.append_assoc, dcells_behind f g n m, show n + (m + 1) = (n + m) + 1 by omega, ← dcells_next]
    congr 2
    unfold behindD
    rw [if_neg (by omega), Nat.add_sub_cancel_left]
theorem dcells_inv {ds : Nat → Del} {n j : Nat} {u : Value} (h : (dcells ds n)[j]? = some u) : j / 5 < n ∧ (ds (j / 5)).cells[j % 5]? = some u := by
  have hl : j < n * 5 := by
    have := (List.getElem?_eq_some_iff.1 h).1
    rw [dcells_length] at this
    exact this
  refine ⟨by omega, ?_⟩
  rw [← dcells_at ds (show j / 5 < n by omega) (show j % 5 < 5 by omega), show j / 5 * 5 + j % 5 = j by omega]
  exact h
theorem dcells_one (ds : Nat → Del) (n : Nat) : ∀ u ∈ dcells ds n, u.oneCell' = true := fun u hu => by
  unfold dcells at hu
  obtain ⟨i, _, hi⟩ := List.mem_flatMap.1 hu
  exact Del.cells_one _ u hi
theorem run_dels {w : World} {base n m c : Nat} {v : Value} {ds es : Nat → Del} {A : Option Addr} (ty : TypeId) (h : OwnD w base v n ds) (hs : ReadsD w (.slice A m c) m es) (hm : (n + m) * 48 ≤ 140737488355328) (hb : base ≤ w.heap.size) :
    ∃ v' w', (Builtin.append_ #[32, 32] ty #[v, .slice A m c]).run Try.prog w = .ok v' w' ∧ OwnD w' base v' (n + m) (behindD ds n es) ∧ w.grownBy w' v.ownBlock := by
  obtain ⟨i0, hi, hz0, hz1, hz2⟩ := info_parts delta_info
  obtain ⟨A', c', e', h1, h2, h3, h4⟩ := hs
  cases e'
  cases A with
  | none =>
    have hm0 : m = 0 := by
      rcases Nat.eq_zero_or_pos m with h0 | h0
      · exact h0
      · obtain ⟨ad, e, _⟩ := h4 0 h0; cases e
    obtain rfl := h3 rfl
    subst hm0
    refine ⟨v, w, run_append_owned_none (P := Try.prog) (w := w) base 32 ty 52 i0 5 Try.underlying32 hi v n _ h, ?_, ⟨rfl, rfl, rfl, Nat.le_refl _, fun _ _ _ => rfl⟩⟩
    unfold OwnD at h ⊢
    have := dcells_behind ds es n 0
    rw [Nat.add_zero] at this ⊢
    rw [← this]
    simpa [dcells] using h
  | some ad =>
    obtain ⟨v', w', h5, h6, h7, h8⟩ := run_append_own (P := Try.prog) w base 32 ty 52 i0 _ 5 48 Try.underlying32 hi hz0 hz1 hz2 rfl (by decide) v n _ h ad m c (dcells es m) (by rw [dcells_length])
      (fun j u hj => by
        obtain ⟨hl, hu⟩ := dcells_inv hj
        obtain ⟨ad', e1, hc⟩ := h4 _ hl
        cases e1
        have := hc (j % 5) (by omega) u hu
        rw [show j / 5 * 5 + j % 5 = j by omega] at this
        exact this) (dcells_one es m) (by unfold maxLen; omega) hm hb
    refine ⟨v', w', h5, ?_, h7⟩
    unfold OwnD
    rw [← dcells_behind]
    exact h6
theorem OwnD.grown_below {w w' w0 : World} {base n B : Nat} {v : Value} {ds : Nat → Del} (h : OwnD w base v n ds) (hb : Below B w0 w) (hB : B ≤ base) (hB2 : B ≤ w.heap.size) (hg : w.grownBy w' v.ownBlock) : Below B w0 w' :=
  hb.grown hg hB2 fun k e => by have := (h.own e).1; omega

/-- What a device's log holds. -/
def Dev.log (D : Dev) (i : Nat) : Nat → Nat := D.view (24 + i)
/-- A sector that was read. -/
theorem got_reads {w : World} {k : Nat} {f : Nat → Nat} (h : RowIs w k 57 (fun i => .int .u8 (f i : Int)) 64) (hf : ∀ j, j < 64 → f j < 256) : Reads w (.slice (some ⟨k, 0, none⟩) 64 64) 64 f :=
  ⟨_, _, rfl, Nat.le_refl _, by omega, (by intro e; cases e), hf, fun i hi => ⟨_, rfl, by rw [add_nil]; exact h.cell hi⟩⟩

/-- What Load answers while the power is on. -/
def LoadS (D : Dev) (q : Nat) (w : World) (e : Ending) (w' : World) : Prop :=
  Below w.heap.size w w' ∧ ∃ n, n ≤ 16 ∧ Led D.log q n ∧ (∀ i, i < n → 24 + i < D.size) ∧
    (((n < 16 → 24 + n < D.size ∧ ¬ IsSp (D.log n) q n) ∧ ∃ v, e = .returned (.tuple #[v, .int .i64 (n : Int), .int .i64 0]) ∧ OwnD w' w.heap.size v (spC D.log n) (spD D.log n)) ∨
      (n < 16 ∧ D.size ≤ 24 + n ∧ e = .returned (.tuple #[.slice none 0 0, .int .i64 0, .int .i64 5])))
def SpRound (D : Dev) (q i : Nat) (w : World) (v : Value) (wr : World) : Prop :=
  Led D.log q i ∧ (∀ k, k < i → 24 + k < D.size) ∧ OwnD wr w.heap.size v (spC D.log i) (spD D.log i) ∧ Below w.heap.size w wr

set_option maxRecDepth 100000 in
set_option maxHeartbeats 2000000 in
theorem spLoad_any {w : World} {base g h : Nat} {L : Value} {D : Dev} (d : IsDev w base g h L D) (ho : D.off = false) (q : Nat) (hq : 1 ≤ q ∧ q ≤ 1073741824) :
    Calls Try.prog 8 #[.pointer (some ⟨g, 0, none⟩), .int .i64 (q : Int)] w (LoadS D q w) := by
  have HD := Lib.hid d
  have HO := Lib.hid ho
  have hq2 : q ≤ 1073741824 := hq.2
  have HQ := Lib.hid (spSeq_yes q w hq)
  clear d ho hq
  go_enter Try.func8, Try.ntmps8
  go_wp2_with fail
  with_reducible refine HQ.out.mono ?_
  rintro e w' ⟨rfl, rfl⟩
  go_wp2
  go_loopw [7, 19] (fun v x wr => ∃ i : Nat, i ≤ 16 ∧ x = .int .i64 (i : Int) ∧ SpRound D q i w v wr) (fun _ x _ => 16 - (intOf x).toNat)
  case atStart => exact ⟨0, by omega, rfl, (fun i hi => absurd hi (Nat.not_lt_zero i)), (fun i hi => absurd hi (Nat.not_lt_zero i)), ownD_none _ _ _, Below.refl _ _⟩
  case round =>
    obtain ⟨i, hi, rfl, h1, h2, h3, h4⟩ := hrel
    have H1 := Lib.hid h1
    have H2 := Lib.hid h2
    have H3 := Lib.hid h3
    have H4 := Lib.hid h4
    clear h1 h2 h3 h4
    by_cases hk : i < 16
    · by_cases hs : 24 + i < D.size
      · have G : Hid (Calls Try.prog 9 #[.pointer (some ⟨g, 0, none⟩), .int .i64 (24 + (i : Int))] wr (Got (D.log i) wr)) := Lib.hid (by
          have hh := dev_get_ok (HD.out.below H4.out) (t := 24 + i) HO.out hs
          rw [show ((24 + i : Nat) : Int) = 24 + (i : Int) by omega] at hh
          exact hh)
        have HS := Lib.hid hs
        clear hs
        go_wp2_with fail
        with_reducible refine G.out.mono ?_
        rintro e w1 ⟨k, rfl, hrow, -, hb1⟩
        have hsm := HD.out.small HS.out
        have DO := Lib.hid (deltasOf_any ⟨k, 0, none⟩ 64 q i (D.log i) w1 (by omega) (by omega) (got_reads hrow hsm))
        have B1 := Lib.hid hb1
        clear hrow hsm hb1 G
        go_wp2_with fail
        with_reducible refine DO.out.mono ?_
        rintro e w2 ⟨hb2, ⟨hsp, u, rfl, hu⟩ | ⟨hsp, x, hx, rfl⟩⟩
        · have hb12 : Below wr.heap.size wr w2 := B1.out.trans (hb2.mono B1.out.size)
          have hb02 : Below w.heap.size w w2 := H4.out.trans (hb12.mono H4.out.size)
          obtain ⟨Au, cu, rfl⟩ := hu.shape
          have h6 := hsp.2.1
          have hc := spC_le H1.out
          obtain ⟨v5, w5, r5, p5, g5⟩ := run_dels 32 (H3.out.below_ hb12) hu.reads (by omega) (by have := H4.out.size; have := hb12.size; omega)
          have hb05 : Below w.heap.size w w5 := (H3.out.below_ hb12).grown_below hb02 (Nat.le_refl _) hb02.size g5
          have R : Hid (SpRound D q (i + 1) w v5 w5) := Lib.hid ⟨fun j hj => by
            rcases (by omega : j < i ∨ j = i) with h | rfl
            · exact H1.out j h
            · exact hsp, fun j hj => by
            rcases (by omega : j < i ∨ j = i) with h | rfl
            · exact H2.out j h
            · exact HS.out, p5.congr fun j _ => rfl, hb05⟩
          have R5 := Lib.hid r5
          clear hb2 hsp hu hb12 hb02 hc r5 p5 g5 hb05
          go_wp2_with (at_builtin; refine Lib.wpList_append_run _ rfl (.tmp 43) (.tmp 44) _ _ rfl _ _ rfl rfl _ _ R5.out ?_)
          go_roundw
          case rel => exact ⟨i + 1, by omega, by go_num, R.out⟩
          case measure => simp [intOf]; omega
        · have hx0 : (x != 0) = true := by simpa using hx
          have hb02 : Below w.heap.size w w2 := H4.out.trans ((B1.out.trans (hb2.mono B1.out.size)).mono H4.out.size)
          have hb12 : Below wr.heap.size wr w2 := B1.out.trans (hb2.mono B1.out.size)
          have P : Hid (LoadS D q w (.returned (.tuple #[u7, .int .i64 (i : Int), .int .i64 0])) w2) := Lib.hid ⟨hb02, i, hi, H1.out, H2.out, .inl ⟨fun _ => ⟨HS.out, hsp⟩, _, rfl, H3.out.below_ hb12⟩⟩
          clear hb2 hsp hx hb02 hb12
          go_wp2
          go_ret3
          exact P.out
      · have G : Hid (Calls Try.prog 9 #[.pointer (some ⟨g, 0, none⟩), .int .i64 (24 + (i : Int))] wr fun e w' => e = .returned (.tuple #[.slice none 0 0, .int .i64 5]) ∧ wr = w') :=
          Lib.hid (dev_get_range (HD.out.below H4.out) _ HO.out (hasB_no (by omega)))
        have P : Hid (LoadS D q w (.returned (.tuple #[.slice none 0 0, .int .i64 0, .int .i64 5])) wr) := Lib.hid ⟨H4.out, i, hi, H1.out, H2.out, .inr ⟨hk, by omega, rfl⟩⟩
        clear hs
        go_wp2_with fail
        with_reducible refine G.out.mono ?_
        rintro e w1 ⟨rfl, rfl⟩
        go_wp2
        go_ret3
        exact P.out
    · obtain rfl : i = 16 := by omega
      have P : Hid (LoadS D q w (.returned (.tuple #[u7, .int .i64 16, .int .i64 0])) wr) := Lib.hid ⟨H4.out, 16, by omega, H1.out, H2.out, .inl ⟨fun h => absurd h (by omega), _, rfl, H3.out⟩⟩
      go_wp2
      go_ret3
      exact P.out
end Go.Proofs.Ytmgeifolgdgapaa
