/- The deltas that the package reads of a device. Deltas saved on a device whose power is on for good. Deltas saved on a device whose power is on for good: the package's answer. The statements' first facts: two deltas are saved and loaded. -/
import Derived.Test.YtmgeifolgdgapaaSpDeltas
import Derived.Test.YtmgeifolgdgapaaMerge9
import Derived.Test.YtmgeifolgdgapaaRoundHeld
namespace Go.Proofs.Ytmgeifolgdgapaa
open Go.RowKit

theorem spSeq_yes (k : Nat) (w : World) (h : 1 ≤ k ∧ k ≤ 1073741824) :
    Calls Try.prog 20 #[.int .i64 (k : Int)] w fun e w' => e = .returned (.bool true) ∧ w = w' := by
  obtain ⟨h1, h2⟩ := h
  have d1 : decide ((1 : Int) ≤ (k : Int)) = true := by simp; omega
  have d2 : decide ((k : Int) ≤ 1073741824) = true := by simp; omega
  go_enter Try.func20, Try.ntmps20
  go_wp2
  go_ret
  exact ⟨rfl, rfl⟩
theorem spSeq_no (s : Int) (w : World) (h : ¬ (1 ≤ s ∧ s ≤ 1073741824)) :
    Calls Try.prog 20 #[.int .i64 s] w fun e w' => e = .returned (.bool false) ∧ w = w' := by
  by_cases h1 : 1 ≤ s
  · have d1 : decide ((1 : Int) ≤ s) = true := by simp; omega
    have d2 : decide (s ≤ 1073741824) = false := by simp; omega
    go_enter Try.func20, Try.ntmps20
    go_wp2
    go_ret
    exact ⟨rfl, rfl⟩
  · have d1 : decide ((1 : Int) ≤ s) = false := by simp; omega
    go_enter Try.func20, Try.ntmps20
    go_wp2
    go_ret
    exact ⟨rfl, rfl⟩

/-- Deltas behind deltas. -/
def behindD (f : Nat → Del) (n : Nat) (g : Nat → Del) (i : Nat) : Del := if i < n then f i else g (i - n)
theorem dcells_behind (f g : Nat → Del) (n : Nat) : ∀ m, dcells f n ++ dcells g m = dcells (behindD f n g) (n + m)
  | 0 => by
    rw [Nat.add_zero, dcells_congr (ds := behindD f n g) (es := f) fun i hi => by unfold behindD; rw [if_pos hi]]
    show dcells f n ++ [] = _
    rw [List.append_nil]
  | m + 1 => by
    rw [← dcells_next, ← List.append_assoc, dcells_behind f g n m, show n + (m + 1) = (n + m) + 1 by omega, ← dcells_next]
    congr 2
    unfold behindD
    rw [if_neg (by omega), Nat.add_sub_cancel_left]
theorem dcells_inv {ds : Nat → Del} {n j : Nat} {u : Value} (h : (dcells ds n)[j]? = some u) : j / 5 < n ∧ (ds (j / 5)).cells[j % 5]? = some u := by
  have hl : j < n * 5 := by
    have := (List.getElem?_eq_some_iff.1 h).1
    rw [dcells_length] at this
    exact this
  refine ⟨by omega, ?_⟩
  rw [← dcells_at ds (show j / 5 < n by omega) (show j % 5 < 5 by omega), show j / 5 * 5 + j % 5 = j by omega]
  exact h
theorem dcells_one (ds : Nat → Del) (n : Nat) : ∀ u ∈ dcells ds n, u.oneCell' = true := fun u hu => by
  unfold dcells at hu
  obtain ⟨i, _, hi⟩ := List.mem_flatMap.1 hu
  exact Del.cells_one _ u hi
theorem run_dels {w : World} {base n m c : Nat} {v : Value} {ds es : Nat → Del} {A : Option Addr} (ty : TypeId) (h : OwnD w base v n ds) (hs : ReadsD w (.slice A m c) m es) (hm : (n + m) * 48 ≤ 140737488355328) (hb : base ≤ w.heap.size) :
    ∃ v' w', (Builtin.append_ #[32, 32] ty #[v, .slice A m c]).run Try.prog w = .ok v' w' ∧ OwnD w' base v' (n + m) (behindD ds n es) ∧ w.grownBy w' v.ownBlock := by
  obtain ⟨i0, hi, hz0, hz1, hz2⟩ := info_parts delta_info
  obtain ⟨A', c', e', h1, h2, h3, h4⟩ := hs
  cases e'
  cases A with
  | none =>
    have hm0 : m = 0 := by
      rcases Nat.eq_zero_or_pos m with h0 | h0
      · exact h0
      · obtain ⟨ad, e, _⟩ := h4 0 h0; cases e
    obtain rfl := h3 rfl
    subst hm0
    refine ⟨v, w, run_append_owned_none (P := Try.prog) (w := w) base 32 ty 52 i0 5 Try.underlying32 hi v n _ h, ?_, ⟨rfl, rfl, rfl, Nat.le_refl _, fun _ _ _ => rfl⟩⟩
    unfold OwnD at h ⊢
    have := dcells_behind ds es n 0
    rw [Nat.add_zero] at this ⊢
    rw [← this]
    simpa [dcells] using h
  | some ad =>
    obtain ⟨v', w', h5, h6, h7, h8⟩ := run_append_own (P := Try.prog) w base 32 ty 52 i0 _ 5 48 Try.underlying32 hi hz0 hz1 hz2 rfl (by decide) v n _ h ad m c (dcells es m) (by rw [dcells_length])
      (fun j u hj => by
        obtain ⟨hl, hu⟩ := dcells_inv hj
        obtain ⟨ad', e1, hc⟩ := h4 _ hl
        cases e1
        have := hc (j % 5) (by omega) u hu
        rw [show j / 5 * 5 + j % 5 = j by omega] at this
        exact this) (dcells_one es m) (by unfold maxLen; omega) hm hb
    refine ⟨v', w', h5, ?_, h7⟩
    unfold OwnD
    rw [← dcells_behind]
    exact h6
theorem OwnD.grown_below {w w' w0 : World} {base n B : Nat} {v : Value} {ds : Nat → Del} (h : OwnD w base v n ds) (hb : Below B w0 w) (hB : B ≤ base) (hB2 : B ≤ w.heap.size) (hg : w.grownBy w' v.ownBlock) : Below B w0 w' :=
  hb.grown hg hB2 fun k e => by have := (h.own e).1; omega

/-- What a device's log holds. -/
def Dev.log (D : Dev) (i : Nat) : Nat → Nat := D.view (24 + i)
/-- A sector that was read. -/
theorem got_reads {w : World} {k : Nat} {f : Nat → Nat} (h : RowIs w k 57 (fun i => .int .u8 (f i : Int)) 64) (hf : ∀ j, j < 64 → f j < 256) : Reads w (.slice (some ⟨k, 0, none⟩) 64 64) 64 f :=
  ⟨_, _, rfl, Nat.le_refl _, by omega, (by intro e; cases e), hf, fun i hi => ⟨_, rfl, by rw [add_nil]; exact h.cell hi⟩⟩

/-- What Load answers while the power is on. -/
def LoadS (D : Dev) (q : Nat) (w : World) (e : Ending) (w' : World) : Prop :=
  Below w.heap.size w w' ∧ ∃ n, n ≤ 16 ∧ Led D.log q n ∧ (∀ i, i < n → 24 + i < D.size) ∧
    (((n < 16 → 24 + n < D.size ∧ ¬ IsSp (D.log n) q n) ∧ ∃ v, e = .returned (.tuple #[v, .int .i64 (n : Int), .int .i64 0]) ∧ OwnD w' w.heap.size v (spC D.log n) (spD D.log n)) ∨
      (n < 16 ∧ D.size ≤ 24 + n ∧ e = .returned (.tuple #[.slice none 0 0, .int .i64 0, .int .i64 5])))
def SpRound (D : Dev) (q i : Nat) (w : World) (v : Value) (wr : World) : Prop :=
  Led D.log q i ∧ (∀ k, k < i → 24 + k < D.size) ∧ OwnD wr w.heap.size v (spC D.log i) (spD D.log i) ∧ Below w.heap.size w wr

set_option maxRecDepth 100000 in
set_option maxHeartbeats 2000000 in
theorem spLoad_any {w : World} {base g h : Nat} {L : Value} {D : Dev} (d : IsDev w base g h L D) (ho : D.off = false) (q : Nat) (hq : 1 ≤ q ∧ q ≤ 1073741824) :
    Calls Try.prog 8 #[.pointer (some ⟨g, 0, none⟩), .int .i64 (q : Int)] w (LoadS D q w) := by
  have HD := Lib.hid d
  have HO := Lib.hid ho
  have hq2 : q ≤ 1073741824 := hq.2
  have HQ := Lib.hid (spSeq_yes q w hq)
  clear d ho hq
  go_enter Try.func8, Try.ntmps8
  go_wp2_with fail
  with_reducible refine HQ.out.mono ?_
  rintro e w' ⟨rfl, rfl⟩
  go_wp2
  go_loopw [7, 19] (fun v x wr => ∃ i : Nat, i ≤ 16 ∧ x = .int .i64 (i : Int) ∧ SpRound D q i w v wr) (fun _ x _ => 16 - (intOf x).toNat)
  case atStart => exact ⟨0, by omega, rfl, (fun i hi => absurd hi (Nat.not_lt_zero i)), (fun i hi => absurd hi (Nat.not_lt_zero i)), ownD_none _ _ _, Below.refl _ _⟩
  case round =>
    obtain ⟨i, hi, rfl, h1, h2, h3, h4⟩ := hrel
    have H1 := Lib.hid h1
    have H2 := Lib.hid h2
    have H3 := Lib.hid h3
    have H4 := Lib.hid h4
    clear h1 h2 h3 h4
    by_cases hk : i < 16
    · by_cases hs : 24 + i < D.size
      · have G : Hid (Calls Try.prog 9 #[.pointer (some ⟨g, 0, none⟩), .int .i64 (24 + (i : Int))] wr (Got (D.log i) wr)) := Lib.hid (by
          have hh := dev_get_ok (HD.out.below H4.out) (t := 24 + i) HO.out hs
          rw [show ((24 + i : Nat) : Int) = 24 + (i : Int) by omega] at hh
          exact hh)
        have HS := Lib.hid hs
        clear hs
        go_wp2_with fail
        with_reducible refine G.out.mono ?_
        rintro e w1 ⟨k, rfl, hrow, -, hb1⟩
        have hsm := HD.out.small HS.out
        have DO := Lib.hid (deltasOf_any ⟨k, 0, none⟩ 64 q i (D.log i) w1 (by omega) (by omega) (got_reads hrow hsm))
        have B1 := Lib.hid hb1
        clear hrow hsm hb1 G
        go_wp2_with fail
        with_reducible refine DO.out.mono ?_
        rintro e w2 ⟨hb2, ⟨hsp, u, rfl, hu⟩ | ⟨hsp, x, hx, rfl⟩⟩
        · have hb12 : Below wr.heap.size wr w2 := B1.out.trans (hb2.mono B1.out.size)
          have hb02 : Below w.heap.size w w2 := H4.out.trans (hb12.mono H4.out.size)
          obtain ⟨Au, cu, rfl⟩ := hu.shape
          have h6 := hsp.2.1
          have hc := spC_le H1.out
          obtain ⟨v5, w5, r5, p5, g5⟩ := run_dels 32 (H3.out.below_ hb12) hu.reads (by omega) (by have := H4.out.size; have := hb12.size; omega)
          have hb05 : Below w.heap.size w w5 := (H3.out.below_ hb12).grown_below hb02 (Nat.le_refl _) hb02.size g5
          have R : Hid (SpRound D q (i + 1) w v5 w5) := Lib.hid ⟨fun j hj => by
            rcases (by omega : j < i ∨ j = i) with h | rfl
            · exact H1.out j h
            · exact hsp, fun j hj => by
            rcases (by omega : j < i ∨ j = i) with h | rfl
            · exact H2.out j h
            · exact HS.out, p5.congr fun j _ => rfl, hb05⟩
          have R5 := Lib.hid r5
          clear hb2 hsp hu hb12 hb02 hc r5 p5 g5 hb05
          go_wp2_with (at_builtin; refine Lib.wpList_append_run _ rfl (.tmp 43) (.tmp 44) _ _ rfl _ _ rfl rfl _ _ R5.out ?_)
          go_roundw
          case rel => exact ⟨i + 1, by omega, by go_num, R.out⟩
          case measure => simp [intOf]; omega
        · have hx0 : (x != 0) = true := by simpa using hx
          have hb02 : Below w.heap.size w w2 := H4.out.trans ((B1.out.trans (hb2.mono B1.out.size)).mono H4.out.size)
          have hb12 : Below wr.heap.size wr w2 := B1.out.trans (hb2.mono B1.out.size)
          have P : Hid (LoadS D q w (.returned (.tuple #[u7, .int .i64 (i : Int), .int .i64 0])) w2) := Lib.hid ⟨hb02, i, hi, H1.out, H2.out, .inl ⟨fun _ => ⟨HS.out, hsp⟩, _, rfl, H3.out.below_ hb12⟩⟩
          clear hb2 hsp hx hb02 hb12
          go_wp2
          go_ret3
          exact P.out
      · have G : Hid (Calls Try.prog 9 #[.pointer (some ⟨g, 0, none⟩), .int .i64 (24 + (i : Int))] wr fun e w' => e = .returned (.tuple #[.slice none 0 0, .int .i64 5]) ∧ wr = w') :=
          Lib.hid (dev_get_range (HD.out.below H4.out) _ HO.out (hasB_no (by omega)))
        have P : Hid (LoadS D q w (.returned (.tuple #[.slice none 0 0, .int .i64 0, .int .i64 5])) wr) := Lib.hid ⟨H4.out, i, hi, H1.out, H2.out, .inr ⟨hk, by omega, rfl⟩⟩
        clear hs
        go_wp2_with fail
        with_reducible refine G.out.mono ?_
        rintro e w1 ⟨rfl, rfl⟩
        go_wp2
        go_ret3
        exact P.out
    · obtain rfl : i = 16 := by omega
      have P : Hid (LoadS D q w (.returned (.tuple #[u7, .int .i64 16, .int .i64 0])) wr) := Lib.hid ⟨H4.out, 16, by omega, H1.out, H2.out, .inl ⟨fun h => absurd h (by omega), _, rfl, H3.out⟩⟩
      go_wp2
      go_ret3
      exact P.out
end Go.Proofs.Ytmgeifolgdgapaa

namespace Go.Proofs.Ytmgeifolgdgapaa
open Go.RowKit Go.Shelf

attribute [local go_sem] Oper.semAt_some

theorem sectors_ok (n : Nat) (w : World) (hn : n ≤ 96) :
    Calls Try.prog 13 #[.int .i64 (n : Int)] w fun e w' => e = .returned (.tuple #[.int .i64 (dcount n : Int), .int .i64 0]) ∧ w = w' := by
  obtain ⟨y, hy⟩ : ∃ y, y = dcount n := ⟨_, rfl⟩
  rw [← hy]
  have e1 : ((n : Int) + 6 - 1) / 6 = (y : Int) := by rw [hy]; unfold dcount; omega
  have e2 : ((n : Int) + 6 - 1).tdiv 6 = (y : Int) := by rw [Int.tdiv_eq_ediv_of_nonneg (by omega)]; exact e1
  have d1 : decide ((n : Int) < 0) = false := by simp
  have d2 : decide ((96 : Int) < (n : Int)) = false := by simp; omega
  have HY := Lib.hid hy
  clear hy
  go_enter Try.func13, Try.ntmps13
  go_wp2
  go_ret2
  exact ⟨rfl, rfl⟩
theorem sectors_bad (z : Int) (w : World) (hz : ¬ (0 ≤ z ∧ z ≤ 96)) :
    Calls Try.prog 13 #[.int .i64 z] w fun e w' => e = .returned (.tuple #[.int .i64 0, .int .i64 1]) ∧ w = w' := by
  by_cases h : z < 0
  · have d1 : decide (z < 0) = true := by simp; omega
    go_enter Try.func13, Try.ntmps13
    go_wp2
    go_ret2
    exact ⟨rfl, rfl⟩
  · have d1 : decide (z < 0) = false := by simp; omega
    have d2 : decide ((96 : Int) < z) = true := by simp; omega
    go_enter Try.func13, Try.ntmps13
    go_wp2
    go_ret2
    exact ⟨rfl, rfl⟩

/-- Part k of the deltas, as a page; where it is written. -/
def spP (q used n : Nat) (ds : Nat → Del) (k : Nat) : Nat → Nat := spS q (used + k) (dlen n k) fun i => ds (k * 6 + i)
def spW (q used n : Nat) (ds : Nat → Del) (k : Nat) : Wr := ⟨24 + (used + k), spP q used n ds k⟩
theorem dlen_le (n k : Nat) : dlen n k ≤ 6 := Nat.min_le_left _ _
theorem dpart_reads {W : World} {ad : Addr} {n c x : Nat} {ds : Nat → Del} (h : ReadsD W (.slice (some ad) n c) n ds) (hx : x * 6 < n) : ReadsD W (dpartV ad n c x) (dlen n x) fun i => ds (x * 6 + i) := by
  obtain ⟨A', c', e', h1, h2, h3, h4⟩ := h
  cases e'
  refine ⟨_, _, rfl, by unfold dlen; omega, by omega, (by intro e; cases e), fun i hi => ⟨_, rfl, fun j hj u hu => ?_⟩⟩
  obtain ⟨ad', e1, hc⟩ := h4 (x * 6 + i) (by unfold dlen at hi; omega)
  cases e1
  rw [Addr.add_add, show x * 6 * 5 + (i * 5 + j) = (x * 6 + i) * 5 + j by omega]
  exact hc j hj u hu
theorem row_apart {B : Nat} {W W' : World} {u : Value} {n : Nat} {f : Nat → Nat} {G : Nat → Prop} (h : Row B W u n f) (a : Apart G W W') (hG : ∀ k, G k → k < B) : Row B W' u n f := by
  obtain ⟨g, cap, cur, e, h1, h2, h3, h4, h5⟩ := h
  exact ⟨g, cap, cur, e, h1, h2, h3, (a.block g (Array.getElem?_eq_some_iff.1 h4).1 fun hg => by have := hG g hg; omega).trans h4, h5⟩
theorem IsDev.cells_kept {X Y : World} {base g h : Nat} {L : Value} {D : Dev} (d : IsDev X base g h L D) (hk : ∀ (g : Nat) (cs : Array Value) (t : TypeId) (fr : Nat × Nat), X.heap[g]? = some (.cells cs t fr) → Y.heap[g]? = X.heap[g]?) : IsDev Y base g h L D where
  head := (hk _ _ _ _ d.head).trans d.head
  body := (hk _ _ _ _ d.body).trans d.body
  own := ⟨d.own.1, by
    rcases d.own.2 with h3 | ⟨g, cap, cur, e, hb, hg, rest⟩
    · exact .inl h3
    · exact .inr ⟨g, cap, cur, e, hb, (hk g _ _ _ hg).trans hg, rest⟩⟩
  bg := d.bg
  bh := d.bh
  ne := d.ne
  ng := d.ng
  nh := d.nh
  size := d.size
  sure := d.sure
  loose := d.loose
  left := d.left
/-- All of a device's blocks are cells. -/
theorem IsDev.foot_cells {W : World} {base g h : Nat} {L : Value} {D : Dev} (d : IsDev W base g h L D) {k : Nat} (hk : foot g h L k) : ∃ cs t, W.heap[k]? = some (.cells cs t (0, 0)) := by
  rcases hk with rfl | rfl | e
  · exact ⟨_, _, d.head⟩
  · exact ⟨_, _, d.body⟩
  · rcases d.own.2 with ⟨rfl, _⟩ | ⟨g, cap, cur, rfl, hb, hg, _⟩
    · cases e
    · obtain rfl : g = k := by simpa [Value.ownBlock] using e
      exact ⟨_, _, hg⟩
theorem keepsFrom_apart {B : Nat} {W W' : World} {G : Nat → Prop} (a : Apart G W W') (hG : ∀ k, G k → ∃ cs t, W.heap[k]? = some (.cells cs t (0, 0))) : KeepsFrom B W W' :=
  ⟨a.size, fun k o _ hk ho => (a.block k (Array.getElem?_eq_some_iff.1 hk).1 fun hg => by
    obtain ⟨cs, t, e⟩ := hG k hg
    rw [e] at hk
    cases hk
    cases ho).trans hk⟩
/-- A box is none of a device's blocks, if it lies behind the device's first ones and is of another type. -/
theorem box_off {W : World} {base g h b : Nat} {L v : Value} {D : Dev} {t : TypeId} (d : IsDev W base g h L D) (hb : Boxed W b t v) (ht : t ≠ 59) (hg : g < b) (hh : h < b) : ¬ foot g h L b := by
  rintro (e | e | e)
  · omega
  · omega
  · exact hb.not_row ht d.own e.symm

/-- What Save's loop holds when these pages are written. -/
structure SvI (w : World) (base g h q used n : Nat) (L : Value) (D : Dev) (ds : Nat → Del) (bs : Nat) (lv : Value) (pre : List (Fin (dcount n))) (W : World) : Prop where
  dev : ∃ L', IsDev W base g h L' { D with loose := D.loose ++ pre.map fun x => spW q used n ds x.val } ∧ ∀ k, L'.ownBlock = some k → L.ownBlock = some k ∨ w.heap.size ≤ k
  apart : Apart (foot g h L) w W
  x0 : Boxed W w.heap.size 23 (.pointer (some ⟨g, 0, none⟩))
  x1 : Boxed W (w.heap.size + 1) 3 (.int .i64 (q : Int))
  x2 : Boxed W (w.heap.size + 2) 3 (.int .i64 (used : Int))
  x3 : Boxed W (w.heap.size + 3) 3 (.int .i64 0)
  x4 : Boxed W (w.heap.size + 4) 24 (.int .i64 0)
  y1 : Boxed W (bs + 1) 3 (.int .i64 6)
  y2 : Boxed W bs 32 lv
theorem svI_own (w : World) (base g h q used n : Nat) (L : Value) (D : Dev) (ds : Nat → Del) (bs : Nat) (lv : Value) {B : Nat} (hB : w.heap.size ≤ B) : OwnFrom B (SvI w base g h q used n L D ds bs lv) := by
  rintro s X Y row ⟨⟨L', hd, ho⟩, ha, h0, h1, h2, h3, h4, h5, h6⟩ hg hrow
  have hk : ∀ (g : Nat) (cs : Array Value) (t : TypeId) (fr : Nat × Nat), X.heap[g]? = some (.cells cs t fr) → Y.heap[g]? = X.heap[g]? := fun g cs t fr h => cells_kept hg (fun r e => (hrow r e).2) h
  refine ⟨⟨L', hd.cells_kept hk, ho⟩, ?_, boxed_kept h0 hk, boxed_kept h1 hk, boxed_kept h2 hk, boxed_kept h3 hk, boxed_kept h4 hk, boxed_kept h5 hk, boxed_kept h6 hk⟩
  exact ⟨hg.os.trans ha.os, hg.tape.trans ha.tape, hg.output.trans ha.output, Nat.le_trans ha.size hg.size, fun k hlt hn => (hg.block k (Nat.lt_of_lt_of_le hlt ha.size) fun e => by have := (hrow k e.symm).1; omega).trans (ha.block k hlt hn)⟩

/-- A round's end: a page is put. -/
theorem sv_step {w W W1 W2 : World} {base g h q used n : Nat} {L L' L2 lv : Value} {D : Dev} {ds : Nat → Del} {bs : Nat} {pre : List (Fin (dcount n))} {x : Fin (dcount n)} (hw : ∀ k, foot g h L k → k < w.heap.size) (hbs : w.heap.size ≤ bs)
    (hd : IsDev W base g h L' { D with loose := D.loose ++ pre.map fun x => spW q used n ds x.val }) (ho : ∀ k, L'.ownBlock = some k → L.ownBlock = some k ∨ w.heap.size ≤ k)
    (hI : SvI w base g h q used n L D ds bs lv pre W) (h1 : Below W.heap.size W W1)
    (hd2 : IsDev W2 base g h L2 { D with loose := (D.loose ++ pre.map fun x => spW q used n ds x.val) ++ [spW q used n ds x.val] }) (ha2 : Apart (foot g h L') W1 W2) (ho2 : ∀ k, L2.ownBlock = some k → L'.ownBlock = some k ∨ W1.heap.size ≤ k) :
    (W2.cell? ⟨w.heap.size, 0, none⟩ = some (.pointer (some ⟨g, 0, none⟩)) ∧ W2.cell? ⟨w.heap.size + 1, 0, none⟩ = some (.int .i64 (q : Int))) ∧
      KeepsFrom (bs + 2) W W2 ∧ Keeps2 0 (bs + 1) bs W W2 ∧ SvI w base g h q used n L D ds bs lv (pre ++ [x]) W2 := by
  have hgw : g < w.heap.size := hw g (.inl rfl)
  have hhw : h < w.heap.size := hw h (.inr (.inl rfl))
  have hz := hI.apart.size
  have lt1 : ∀ {b t v}, Boxed W b t v → t ≠ 59 → w.heap.size ≤ b → Boxed W2 b t v := fun {b t v} hb ht hle => by
    have hb1 : Boxed W1 b t v := (h1.block b hb.lt).trans hb
    refine (ha2.block b hb1.lt ?_).trans hb1
    exact box_off (hd.below h1) hb1 ht (by omega) (by omega)
  have x0 := lt1 hI.x0 (by decide) (Nat.le_refl _)
  have x1 := lt1 hI.x1 (by decide) (by omega)
  have y1 := lt1 hI.y1 (by decide) (by omega)
  have y2 := lt1 hI.y2 (by decide) hbs
  have aW : Apart (foot g h L') W W2 := (Apart.of_below h1).trans ha2 fun _ _ e => e
  refine ⟨⟨x0.cell, x1.cell⟩, (keepsFrom_below h1).trans (keepsFrom_apart ha2 fun k hk => (hd.below h1).foot_cells hk), ⟨aW.below (Nat.zero_le _) (fun k hk => absurd hk (Nat.not_lt_zero k)), y1.trans hI.y1.symm, y2.trans hI.y2.symm⟩, ⟨⟨L2, ?_, fun k e => ?_⟩, ?_, x0, x1, lt1 hI.x2 (by decide) (by omega), lt1 hI.x3 (by decide) (by omega), lt1 hI.x4 (by decide) (by omega), y1, y2⟩⟩
  · rw [List.map_append, ← List.append_assoc]
    exact hd2
  · rcases ho2 k e with e2 | e2
    · exact ho k e2
    · exact .inr (by have := h1.size; omega)
  · refine hI.apart.trans aW fun k hk hf => ?_
    rcases hf with e | e | e
    · exact .inl e
    · exact .inr (.inl e)
    · rcases ho k e with e2 | e2
      · exact .inr (.inr e2)
      · omega
end Go.Proofs.Ytmgeifolgdgapaa

namespace Go.Proofs.Ytmgeifolgdgapaa
open Go.RowKit Go.Shelf

attribute [local go_sem] Oper.semAt_some

/-- What Save answers, and leaves behind. -/
def Saved (w : World) (base g h q used n : Nat) (L : Value) (D : Dev) (ds : Nat → Del) (e : Ending) (w' : World) : Prop :=
  e = .returned (.tuple #[.int .i64 ((used + dcount n : Nat) : Int), .int .i64 0]) ∧ Apart (foot g h L) w w' ∧
    ∃ L', IsDev w' base g h L' { D with loose := D.loose ++ (List.range (dcount n)).map (spW q used n ds) } ∧ ∀ k, L'.ownBlock = some k → L.ownBlock = some k ∨ w.heap.size ≤ k

set_option maxRecDepth 100000 in
set_option maxHeartbeats 2000000 in
theorem spSave_ok {w : World} {base g h : Nat} {L : Value} {D : Dev} (d : IsDev w base g h L D) (hf : D.Free) (q used n c : Nat) (ad : Addr) (ds : Nat → Del) (hq : 1 ≤ q ∧ q ≤ 1073741824) (hn : 1 ≤ n) (hu : used + dcount n ≤ 16) (hs : 24 + (used + dcount n) ≤ D.size)
    (hl : D.loose.length ≤ 1000000) (hv : ∀ W, Apart (foot g h L) w W → ReadsD W (.slice (some ad) n c) n ds) (hg : ∀ i, i < n → Valid (ds i)) :
    Calls Try.prog 14 #[.pointer (some ⟨g, 0, none⟩), .int .i64 (q : Int), .int .i64 (used : Int), .slice (some ad) n c] w (Saved w base g h q used n L D ds) := by
  have hn96 : n ≤ 96 := by unfold dcount at hu; omega
  have hu16 : used ≤ 16 := by omega
  have hq2 : q ≤ 1073741824 := hq.2
  have hcap : n ≤ c := by
    obtain ⟨_, _, e, h1, _⟩ := hv w (Apart.refl _ _)
    cases e
    exact h1
  have hmost : c ≤ 9223372036854775807 := by
    obtain ⟨_, _, e, _, h1, _⟩ := hv w (Apart.refl _ _)
    cases e
    exact h1
  have hst := put_complex
  have hw : ∀ k, foot g h L k → k < w.heap.size := fun k hk => (d.lt k hk).2
  have HW := Lib.hid hw
  have HD := Lib.hid d
  have HF := Lib.hid hf
  have HV := Lib.hid hv
  have HG := Lib.hid hg
  have HQ := Lib.hid hq
  have HS := Lib.hid hs
  have HU := Lib.hid hu
  have HLL := Lib.hid hl
  have d0 : decide ((used : Int) < 0) = false := by simp
  have d1 : decide ((16 : Int) < (used : Int)) = false := by simp; omega
  obtain ⟨w5, hw5⟩ : ∃ w5, w5 = ((((w.alloc (.cells #[.pointer (some ⟨g, 0, none⟩)] 23)).alloc (.cells #[.int .i64 (q : Int)] 3)).alloc (.cells #[.int .i64 (used : Int)] 3)).alloc (.cells #[.int .i64 0] 3)).alloc (.cells #[.int .i64 0] 24) := ⟨_, rfl⟩
  have B5 : Hid (Below w.heap.size w w5) := Lib.hid (by rw [hw5]; exact (((((Below.refl _ w).alloc (Nat.le_refl _) _).alloc (by simp) _).alloc (by simp; omega) _).alloc (by simp; omega) _).alloc (by simp; omega) _)
  have X0 : Hid (Boxed w5 w.heap.size 23 (.pointer (some ⟨g, 0, none⟩))) := Lib.hid (by rw [hw5]; exact ((((Boxed.new w _ _).alloc _).alloc _).alloc _).alloc _)
  have X1 : Hid (Boxed w5 (w.heap.size + 1) 3 (.int .i64 (q : Int))) := Lib.hid (by rw [hw5]; have hh := Boxed.new (w.alloc (.cells #[.pointer (some ⟨g, 0, none⟩)] 23)) 3 (.int .i64 (q : Int)); simp only [World.size_alloc] at hh; exact ((hh.alloc _).alloc _).alloc _)
  have X2 : Hid (Boxed w5 (w.heap.size + 2) 3 (.int .i64 (used : Int))) := Lib.hid (by rw [hw5]; have hh := Boxed.new ((w.alloc (.cells #[.pointer (some ⟨g, 0, none⟩)] 23)).alloc (.cells #[.int .i64 (q : Int)] 3)) 3 (.int .i64 (used : Int)); simp only [World.size_alloc] at hh; exact (hh.alloc _).alloc _)
  have X3 : Hid (Boxed w5 (w.heap.size + 3) 3 (.int .i64 0)) := Lib.hid (by rw [hw5]; have hh := Boxed.new (((w.alloc (.cells #[.pointer (some ⟨g, 0, none⟩)] 23)).alloc (.cells #[.int .i64 (q : Int)] 3)).alloc (.cells #[.int .i64 (used : Int)] 3)) 3 (.int .i64 0); simp only [World.size_alloc] at hh; exact hh.alloc _)
  have X4 : Hid (Boxed w5 (w.heap.size + 4) 24 (.int .i64 0)) := Lib.hid (by rw [hw5]; have hh := Boxed.new ((((w.alloc (.cells #[.pointer (some ⟨g, 0, none⟩)] 23)).alloc (.cells #[.int .i64 (q : Int)] 3)).alloc (.cells #[.int .i64 (used : Int)] 3)).alloc (.cells #[.int .i64 0] 3)) 24 (.int .i64 0); simp only [World.size_alloc] at hh; exact hh)
  clear hw d hf hv hg hq hs hu hl
  refine (callsIn_wide (n := 3)).1 ?_
  refine callsIn_of_wp_marks Try.func14 rfl trivial ?_ rfl
  simp only [Try.ntmps14, List.size_toArray, List.length_cons, List.length_nil, Nat.reduceAdd, Nat.reduceSub, Array.replicate_succ, Array.replicate_zero, List.push_toArray, List.append_toArray, List.nil_append, List.cons_append]
  gi_wp2_with fail
  rw [← hw5]
  clear hw5
  refine ⟨trivial, ?_⟩
  refine (callsIn_wide.2 (spSeq_yes q w5 HQ.out)).mono ?_
  rintro e w' ⟨rfl, rfl⟩
  have c2 := X2.out.cell
  gi_wp2
  gi_loopw [36] (fun x wr => ∃ i : Nat, i ≤ n ∧ x = .int .i64 (i : Int) ∧ Below w5.heap.size w5 wr) (fun x _ => n - (intOf x).toNat)
  case atStart => exact ⟨0, by omega, rfl, Below.refl _ _⟩
  case round =>
    obtain ⟨i, hi, rfl, hb⟩ := hrel
    have HB := Lib.hid hb
    clear hb c2
    by_cases hk : i < n
    · have hA : Apart (foot g h L) w wr := (Apart.of_below B5.out).trans (Apart.of_below HB.out) fun _ _ e => e
      have h5 := ReadsD.five (HV.out wr hA) hk
      obtain ⟨Dl, hD⟩ : ∃ Dl, Dl = ds i := ⟨_, rfl⟩
      rw [← hD] at h5
      obtain ⟨c0, c1, c2, c3, c4⟩ := h5
      have VD : Valid Dl := by rw [hD]; exact HG.out i hk
      have hsm := valid_small VD
      have CK := fun W => dcheck_any Dl W (by omega) (by omega)
      have VV := Lib.hid VD
      clear hD hA VD
      obtain ⟨k, v, o, b, x, y⟩ := Dl
      dsimp only at c0 c1 c2 c3 c4
      have HC : Hid (∀ W, Calls Try.prog 28 #[.agg #[.int .i64 (k : Int), .int .i64 (v : Int), .int .i64 (o : Int), .int .i64 (b : Int), .complex .f64 (fl x) (fl y)]] W (Checked_ ⟨k, v, o, b, x, y⟩ W)) := Lib.hid CK
      clear CK hsm
      gi_wp2_with fail
      refine ⟨trivial, ?_⟩
      refine (callsIn_wide.2 (HC.out _)).mono ?_
      rintro e w3 ⟨⟨z, rfl, hz⟩, hb3⟩
      obtain rfl : z = 0 := hz.2 VV.out
      have B3 : Hid (Below w5.heap.size w5 w3) := Lib.hid (HB.out.trans ((five_box.trans (hb3.mono (by simp))).mono HB.out.size))
      clear c0 c1 c2 c3 c4 hb3 hz
      gi_wp2
      go_roundw
      case rel => exact ⟨i + 1, by omega, by go_num, B3.out⟩
      case measure => simp [intOf]; omega
    · obtain rfl : i = n := by omega
      gi_wp2_with fail
      refine ⟨trivial, ?_⟩
      refine (callsIn_wide.2 (sectors_ok i wr hn96)).mono ?_
      rintro e w' ⟨rfl, rfl⟩
      obtain ⟨m, hm⟩ : ∃ m, m = dcount i := ⟨_, rfl⟩
      rw [← hm]
      have c2 : wr.cell? ⟨w.heap.size + 2, 0, none⟩ = some (.int .i64 (used : Int)) := (show Boxed wr (w.heap.size + 2) _ _ from (HB.out.block _ X2.out.lt).trans X2.out).cell
      have d2 : decide ((16 : Int) < (used : Int) + (m : Int)) = false := by simp; have := HU.out; omega
      have hm16 : m ≤ 16 := by have := HU.out; omega
      have HM := Lib.hid hm
      clear hm
      gi_wp2_with fail
      refine ⟨trivial, ?_⟩
      refine (dparts_in Fence.wide _ trivial rfl _ _ _ _ _).mono ?_
      rintro e w' ⟨rfl, rfl⟩
      gi_wp2_with fail
      clear c2 d2
      have HX7 : Hid (Below w5.heap.size w5 ((wr.alloc (.cells #[.slice (some ad) i c] 32)).alloc (.cells #[.int .i64 6] 3))) := Lib.hid ((HB.out.alloc HB.out.size _).alloc (by have := HB.out.size; simp; omega) _)
      have y2 := (Boxed.new wr 32 (.slice (some ad) i c)).alloc (.cells #[.int .i64 6] 3)
      have y1 := Boxed.new (wr.alloc (.cells #[.slice (some ad) i c] 32)) 3 (.int .i64 6)
      simp only [World.size_alloc] at y1
      have hbs : w.heap.size + 5 ≤ wr.heap.size := by have := HB.out.size; have := X4.out.lt; omega
      have box : ∀ {b t v}, Boxed w5 b t v → Boxed ((wr.alloc (.cells #[.slice (some ad) i c] 32)).alloc (.cells #[.int .i64 6] 3)) b t v := fun {b t v} hb => (HX7.out.block b hb.lt).trans hb
      have hI0 : SvI w base g h q used i L D ds wr.heap.size (.slice (some ad) i c) [] ((wr.alloc (.cells #[.slice (some ad) i c] 32)).alloc (.cells #[.int .i64 6] 3)) :=
        ⟨⟨L, by
          have hh := HD.out.below (B5.out.trans (HX7.out.mono B5.out.size))
          rw [List.map_nil, List.append_nil]
          exact hh, fun k e => .inl e⟩, Apart.of_below (B5.out.trans (HX7.out.mono B5.out.size)), box X0.out, box X1.out, box X2.out, box X3.out, box X4.out, y1, y2⟩
      refine wpIn_rangeFunc_ownG rfl (by omega) (gf := 45) (lb := #[.pointer (some ⟨wr.heap.size + 1, 0, none⟩), .pointer (some ⟨wr.heap.size, 0, none⟩)]) rfl trivial (enters_of Try.func45 (by kernel_rfl) rfl)
        (dparts_stops Fence.wide _ trivial rfl (by omega) (wr.heap.size + 1) wr.heap.size 0 ad i c (by omega) hcap _ (by simp) (by simp <;> omega) y1.cell y2.cell) keeps2_t (keeps2_b (Nat.zero_le _) (by simp) (by simp <;> omega)) (Below.refl _ _) (fun _ => rfl)
        (SvI w base g h q used i L D ds wr.heap.size (.slice (some ad) i c)) (fun _ _ _ => False)
        (svI_own w base g h q used i L D ds wr.heap.size (.slice (some ad) i c) (by simp; omega))
        (fun _ _ _ _ _ hs _ _ => hs)
        hI0
        (fun x => { tmps := #[.pointer (some ⟨g, 0, none⟩), .int .i64 (q : Int), .int .i64 (used : Int), .slice (some ad) i c, .pointer (some ⟨w.heap.size, 0, none⟩), .pointer (some ⟨w.heap.size + 1, 0, none⟩), .pointer (some ⟨w.heap.size + 2, 0, none⟩), undef, .pointer (some ⟨w.heap.size + 3, 0, none⟩), .pointer (some ⟨w.heap.size + 4, 0, none⟩), undef, u11, u12, .int .i64 (m : Int), .int .i64 0, .int .i64 (x.val : Int), dpartV ad i c x.val, undef, undef, .pointer (some ⟨g, 0, none⟩), .bool false, .bool false, .int .i64 (q : Int), .bool true, .bool false, .bool false, .bool false, .int .i64 (used : Int), .bool false, .bool false, .bool false, .int .i64 (used : Int), .bool false, .bool false, .slice (some ad) i c, .int .i64 (i : Int), .int .i64 (i : Int), .bool false, u38, u39, u40, u41, u42, u43, u44, u45, .tuple #[.int .i64 (m : Int), .int .i64 0], .slice (some ad) i c, .int .i64 (i : Int), .tuple #[.int .i64 (m : Int), .int .i64 0], .int .i64 (m : Int), .int .i64 0, .int .i64 0, .bool false, .bool false, .int .i64 (used : Int), .int .i64 (m : Int), .int .i64 ((used : Int) + (m : Int)), .bool false, .bool false, .slice (some ad) i c, .func (.func 45) #[] #[.pointer (some ⟨wr.heap.size + 1, 0, none⟩), .pointer (some ⟨wr.heap.size, 0, none⟩)], .int .i64 (x.val : Int), dpartV ad i c x.val, undef, undef, undef, undef, undef, undef, undef, undef, undef, undef, undef, undef, undef, undef, undef, undef, undef, undef, undef], defers := [] }) ?assign ?body ?done ?stop
      case assign =>
        intro l x W K hK
        gi_wp2
        exact hK
      case body =>
        rintro l pre x W hI hlt
        clear hI0 y1 y2 box
        obtain ⟨L', hd, ho⟩ := hI.dev
        have hx := dcount_lt.1 x.isLt
        have hx16 : x.val ≤ 16 := by have := x.isLt; have := HU.out; omega
        have PR := Lib.hid (dpart_reads (HV.out W hI.apart) hx)
        have GV : Hid (∀ j, j < dlen i x.val → Valid (ds (x.val * 6 + j))) := Lib.hid fun j hj => HG.out _ (by unfold dlen at hj; omega)
        have SO : Hid (∀ W', Below W.heap.size W W' → Calls Try.prog 30 #[dpartV ad i c x.val, .int .i64 (q : Int), .int .i64 ((used : Int) + (x.val : Int))] W' fun e w' => ∃ u, e = .returned u ∧ Row W'.heap.size w' u 64 (spP q used i ds x.val) ∧ Below W'.heap.size W' w') := Lib.hid fun W' hb => by
          have hh := sectorOf_ok (dpartV ad i c x.val) (dlen i x.val) q (used + x.val) (fun j => ds (x.val * 6 + j)) W' (by have := dlen_le i x.val; omega) (by omega) (by omega) (PR.out.below hb) GV.out
          rw [Int.natCast_add] at hh
          exact hh
        have hsm : ∀ j, j < 64 → spP q used i ds x.val j < 256 := fun j _ => spS_lt (by omega) (by have := dlen_le i x.val; omega) GV.out j
        have HSM := Lib.hid hsm
        have DD := Lib.hid hd
        have OO := Lib.hid ho
        have II := Lib.hid hI
        have c2 := hI.x2.cell
        have S0 : W.cell? ⟨w.heap.size, 0, none⟩ = some (.pointer (some ⟨g, 0, none⟩)) ∧ W.cell? ⟨w.heap.size + 1, 0, none⟩ = some (.int .i64 (q : Int)) := ⟨hI.x0.cell, hI.x1.cell⟩
        have hpl : pre.length ≤ 16 := by have := HU.out; omega
        clear hsm hd ho hI hx hlt
        gi_wp2
        refine region_round_held (S := fun w' => w'.cell? ⟨w.heap.size, 0, none⟩ = some (.pointer (some ⟨g, 0, none⟩)) ∧ w'.cell? ⟨w.heap.size + 1, 0, none⟩ = some (.int .i64 (q : Int))) (by kernel_rfl) (by rintro ⟨a, w, h⟩; exact h) (by kernel_rfl) S0 (fun hH => ?_)
        refine wpAnyH_take (i := 0) (v := .pointer (some ⟨g, 0, none⟩)) rfl (by kernel_rfl) (by kernel_rfl) (by kernel_rfl) (fun _ _ _ h => h) (Or.inl ⟨by rfl, fun w' hS => by have s1 := hS.1; go_simp⟩) hH ?_
        simp only [Act.put, List.setIfInBounds_toArray]
        refine wpAnyH_take (i := 1) (v := .int .i64 ((used : Int) + (x.val : Int))) rfl (by kernel_rfl) (by kernel_rfl) (by kernel_rfl) (fun _ _ _ h => h) (Or.inl ⟨by rfl, fun w' hS => by go_simp⟩) hH ?_
        simp only [Act.put]
        refine wpAnyH_take (i := 2) (v := .int .i64 (24 + ((used : Int) + (x.val : Int)))) rfl (by kernel_rfl) (by kernel_rfl) (by kernel_rfl) (fun _ _ _ h => h) (Or.inl ⟨by rfl, fun w' hS => by go_simp; exact wrap_i64 (by omega) (by omega)⟩) hH ?_
        simp only [Act.put]
        refine wpAnyH_take (i := 3) (v := dpartV ad i c x.val) rfl (by kernel_rfl) (by kernel_rfl) (by kernel_rfl) (fun _ _ _ h => h) (Or.inl ⟨by rfl, fun w' hS => by go_simp⟩) hH ?_
        simp only [Act.put]
        refine wpAnyH_take (i := 4) (v := .int .i64 (q : Int)) rfl (by kernel_rfl) (by kernel_rfl) (by kernel_rfl) (fun _ _ _ h => h) (Or.inl ⟨by rfl, fun w' hS => by have s1 := hS.2; go_simp⟩) hH ?_
        simp only [Act.put]
        refine wpAnyH_take (i := 5) (v := .int .i64 ((used : Int) + (x.val : Int))) rfl (by kernel_rfl) (by kernel_rfl) (by kernel_rfl) (fun _ _ _ h => h) (Or.inl ⟨by rfl, fun w' hS => by go_simp⟩) hH ?_
        simp only [Act.put]
        refine wpAnyH_ready (rs := [6]) (by kernel_rfl) (by simp) ?_
        refine AllReadyH.cons rfl (fun K_ hK_ => ?_) AllReadyH.nil
        go_simp
        refine (SO.out W.drew ((Below.refl _ _).drew)).mono ?_
        rintro e W1 ⟨u, rfl, hu, hb1⟩
        have B1 : Hid (Below W.heap.size W W1) := Lib.hid (((Below.refl _ W).drew).trans hb1)
        have S1 : W1.cell? ⟨w.heap.size, 0, none⟩ = some (.pointer (some ⟨g, 0, none⟩)) ∧ W1.cell? ⟨w.heap.size + 1, 0, none⟩ = some (.int .i64 (q : Int)) := ⟨cell_later B1.out II.out.x0.cell, cell_later B1.out II.out.x1.cell⟩
        have HU1 : Hid (Row W.heap.size W1 u 64 (spP q used i ds x.val)) := Lib.hid hu
        clear hu hb1
        refine hK_.out _ _ S1 (fun hH => ?_)
        clear hK_ K_
        obtain ⟨gu, cu, rfl, g1, g2, u1, u2, u3⟩ := HU1.out.bytes (Nat.le_refl _) HSM.out
        have PN : Hid (Calls Try.prog 7 #[.pointer (some ⟨g, 0, none⟩), .slice (some ⟨W1.heap.size, 0, none⟩) 1 1] (W1.alloc (.cells #[.int .i64 (24 + ((used : Int) + (x.val : Int))), .slice (some ⟨gu, 0, none⟩) 64 cu] 31)) (Written W1 base g h L' { D with loose := (D.loose ++ pre.map fun x => spW q used i ds x.val) ++ [spW q used i ds x.val] } 0)) := Lib.hid (by
          have hh := put_new (t := 24 + (used + x.val)) (u := .slice (some ⟨gu, 0, none⟩) 64 cu) (f := spP q used i ds x.val) (DD.out.below B1.out) (fun W' a => by
            obtain ⟨g', c', e', _, _, k1, k2, k3⟩ := (row_apart HU1.out a fun k hk => (DD.out.lt k hk).2).bytes (Nat.le_refl _) HSM.out
            cases e'
            exact ⟨_, _, rfl, k1, k2, (by intro e; cases e), k3⟩) (by have := HS.out; have := x.isLt; show _ < D.size; omega) (by show (D.loose ++ pre.map fun x => spW q used i ds x.val).length ≤ _; rw [List.length_append, List.length_map]; have := HLL.out; omega) ⟨HF.out.on, HF.out.un⟩
          rw [show ((24 + (used + x.val) : Nat) : Int) = 24 + ((used : Int) + (x.val : Int)) by omega] at hh
          exact hh)
        have SA : Hid (∀ o, (W1.alloc o).cell? ⟨w.heap.size, 0, none⟩ = some (.pointer (some ⟨g, 0, none⟩)) ∧ (W1.alloc o).cell? ⟨w.heap.size + 1, 0, none⟩ = some (.int .i64 (q : Int))) := Lib.hid fun o => ⟨later1 S1.1 o, later1 S1.2 o⟩
        clear g1 g2 u1 u2 u3 S1
        refine wpAnyH_take (i := 7) (v := .agg #[.int .i64 (24 + ((used : Int) + (x.val : Int))), .slice (some ⟨gu, 0, none⟩) 64 cu]) rfl (by kernel_rfl) (by kernel_rfl) (by kernel_rfl) (fun _ _ _ h => h) (Or.inl ⟨by rfl, fun w' hS => by go_simp⟩) hH ?_
        simp only [Act.put]
        refine wpAnyH_ready (rs := [8]) (by kernel_rfl) (by simp) ?_
        refine AllReadyH.cons rfl (fun K_ hK_ => ?_) AllReadyH.nil
        go_simp
        refine hK_.out _ _ (SA.out _) (fun hH => ?_)
        clear hK_ K_
        refine wpAnyH_ready (rs := [9]) (by kernel_rfl) (by simp) ?_
        refine AllReadyH.cons rfl (fun K_ hK_ => ?_) AllReadyH.nil
        go_simp
        refine PN.out.mono ?_
        rintro e W2 ⟨L2, rfl, hd2, ha2, ho2⟩
        have ST := Lib.hid (sv_step HW.out (by omega) DD.out OO.out II.out B1.out hd2 ha2 ho2)
        clear hd2 ha2 ho2
        refine hK_.out _ _ ST.out.1 (fun hH => ?_)
        clear hK_ K_
        refine wpAnyH_take (i := 10) (v := .int .i64 0) rfl (by kernel_rfl) (by kernel_rfl) (by kernel_rfl) (fun _ _ _ h => h) (Or.inl ⟨by rfl, fun w' hS => by go_simp⟩) hH ?_
        simp only [Act.put]
        refine wpAnyH_done (by kernel_rfl) ?_ _
        refine NoPanic.normal ?_
        clear hH c2 S0
        gi_wp2
        exact ⟨by simpa using ST.out.2.1, ST.out.2.2.1, ST.out.2.2.2⟩
      case done =>
        rintro D' xs W hD hxs hI hK
        clear hI0 y1 y2 box
        have hD' : wr.heap.size + 2 ≤ D' := by simpa using hD
        have hmap : (xs.map fun x => spW q used i ds x.val) = (List.range m).map (spW q used i ds) := by
          rw [HM.out, ← hxs, List.map_map]
          rfl
        obtain ⟨⟨L', hd, ho⟩, ha, x0, x1, x2, x3, x4, -, -⟩ := hI
        rw [hmap] at hd
        have hoff : ∀ b t v, Boxed W b t v → t ≠ 59 → w.heap.size ≤ b → ¬ foot g h L' b := fun b t v hb ht hle => box_off hd hb ht (by have := HW.out g (.inl rfl); omega) (by have := HW.out h (.inr (.inl rfl)); omega)
        have n3 := hoff _ _ _ x3 (by decide) (by omega)
        have n4 := hoff _ _ _ x4 (by decide) (by omega)
        have c2 := x2.cell
        have c3 := x3.cell
        have f3 := x3.frozen
        have x4' := x4.other (B' := w.heap.size + 3) (by omega) (.int .i64 ((used : Int) + (m : Int)))
        have c4 := x4'.cell
        have f4 := x4'.frozen
        have E3 := Lib.hid ((x3.set (.int .i64 ((used : Int) + (m : Int)))).other (B' := w.heap.size + 4) (by omega) (.int .i64 0))
        have E4 := Lib.hid (x4'.set (.int .i64 0))
        have hk3 : ((W.setCell ⟨w.heap.size + 3, 0, none⟩ (.int .i64 ((used : Int) + (m : Int)))).setCell ⟨w.heap.size + 4, 0, none⟩ (.int .i64 0)).heap[D']? = some (.deferred (some [])) := by
          rw [Below.heap_setCell _ _ _ _ (by show D' ≠ w.heap.size + 4; omega), Below.heap_setCell _ _ _ _ (by show D' ≠ w.heap.size + 3; omega)]
          exact hK
        have K3 := Lib.hid hk3
        have A3 : Hid (Apart (fun k => k = w.heap.size + 3 ∨ k = w.heap.size + 4) W ((W.setCell ⟨w.heap.size + 3, 0, none⟩ (.int .i64 ((used : Int) + (m : Int)))).setCell ⟨w.heap.size + 4, 0, none⟩ (.int .i64 0))) :=
          Lib.hid (((Apart.refl _ W).setCell (p := ⟨w.heap.size + 3, 0, none⟩) (fun _ => .inl rfl) _).setCell (p := ⟨w.heap.size + 4, 0, none⟩) (fun _ => .inr rfl) _)
        have D3 := Lib.hid (hd.apart A3.out fun k hk e => by
          rcases e with rfl | rfl
          · exact n3 hk
          · exact n4 hk)
        have W3 : Hid (Apart (foot g h L) w ((W.setCell ⟨w.heap.size + 3, 0, none⟩ (.int .i64 ((used : Int) + (m : Int)))).setCell ⟨w.heap.size + 4, 0, none⟩ (.int .i64 0))) := Lib.hid (ha.trans A3.out fun k hk e => by
          rcases e with rfl | rfl <;> omega)
        have OO := Lib.hid ho
        clear hd ho ha x0 x1 x2 x3 x4 x4' hk3 hK n3 n4 hoff
        gi_wp2
        refine ⟨by simp, .inl ⟨_, _, rfl, run_takeDeferred K3.out, ?_⟩⟩
        have hpk : ∀ b, b < w.heap.size + 5 → ∀ o, (((W.setCell ⟨w.heap.size + 3, 0, none⟩ (.int .i64 ((used : Int) + (m : Int)))).setCell ⟨w.heap.size + 4, 0, none⟩ (.int .i64 0)).putObj D' o).heap[b]? = ((W.setCell ⟨w.heap.size + 3, 0, none⟩ (.int .i64 ((used : Int) + (m : Int)))).setCell ⟨w.heap.size + 4, 0, none⟩ (.int .i64 0)).heap[b]? := fun b hb o => World.putObj_heap_other (by omega)
        refine ⟨_, results_two (fn := Try.f14) rfl _ _ ⟨w.heap.size + 3, 0, none⟩ ⟨w.heap.size + 4, 0, none⟩ _ _ rfl rfl (run_loadVar_cell Try.underlying3 rfl (show Boxed _ (w.heap.size + 3) 3 _ from (hpk _ (by omega) _).trans E3.out).cell) (run_loadVar_cell Try.underlying24 rfl (show Boxed _ (w.heap.size + 4) 24 _ from (hpk _ (by omega) _).trans E4.out).cell), ?_⟩
        have hgp := grownBy_putObj' ((W.setCell ⟨w.heap.size + 3, 0, none⟩ (.int .i64 ((used : Int) + (m : Int)))).setCell ⟨w.heap.size + 4, 0, none⟩ (.int .i64 0)) D' (.deferred none)
        refine ⟨by rw [← HM.out, Int.natCast_add], ⟨hgp.os.trans W3.out.os, hgp.tape.trans W3.out.tape, hgp.output.trans W3.out.output, Nat.le_trans W3.out.size hgp.size, fun k hlt hn => (hgp.block k (Nat.lt_of_lt_of_le hlt W3.out.size) fun e => by cases e; omega).trans (W3.out.block k hlt hn)⟩, L', ?_, OO.out⟩
        rw [← HM.out]
        exact D3.out.cells_kept fun g cs t fr hg => cells_kept (grownBy_putObj' _ D' (.deferred none)) (fun r e => by cases e; exact ⟨_, K3.out, rfl⟩) hg
      case stop =>
        rintro D' cd pre W hD - hh
        exact hh.elim
end Go.Proofs.Ytmgeifolgdgapaa

namespace Go.Proofs.Ytmgeifolgdgapaa
open Go.RowKit

/-- The first two deltas. -/
def dsA (i : Nat) : Del := if i = 0 then ⟨1, 0, 0, 3, 0, 0⟩ else ⟨2, 0, 0, 0, 0, 0⟩
theorem dsA_valid (i : Nat) : Valid (dsA i) := by
  unfold dsA
  split <;> (dsimp only [Valid]; omega)
def cellsA : Array Value := #[.int .i64 1, .int .i64 0, .int .i64 0, .int .i64 3, .complex .f64 0 0, .int .i64 2, .int .i64 0, .int .i64 0, .int .i64 0, .complex .f64 0 0]
theorem dsA_reads {W : World} {b : Nat} (h : W.heap[b]? = some (.cells cellsA 52 (0, 0))) : ReadsD W (.slice (some ⟨b, 0, none⟩) 2 2) 2 dsA := by
  refine ⟨_, _, rfl, Nat.le_refl _, by omega, (by intro e; cases e), fun i hi => ⟨_, rfl, fun j hj u hu => ?_⟩⟩
  rw [add_nil, cell_of_row _ _ _ _ _ _ h]
  rw [← hu]
  rcases (by omega : i = 0 ∨ i = 1) with rfl | rfl <;> rcases (by omega : j = 0 ∨ j = 1 ∨ j = 2 ∨ j = 3 ∨ j = 4) with rfl | rfl | rfl | rfl | rfl <;> first | rfl | (show some _ = some _; rw [fl_nil])
theorem dsA_laid (w : World) {F : Nat → Prop} (hF : ¬ F w.heap.size) (W : World) (a : Apart F (w.alloc (.cells cellsA 52)) W) : ReadsD W (.slice (some ⟨w.heap.size, 0, none⟩) 2 2) 2 dsA :=
  dsA_reads ((a.block w.heap.size (by simp) hF).trans (heap_alloc_new w _))

/-- The device behind that. -/
def devA : Dev := { fresh 60 with loose := [spW 9 0 2 dsA 0] }
theorem devA_log0 : devA.log 0 = spP 9 0 2 dsA 0 := by
  show lays _ [spW 9 0 2 dsA 0] 24 = _
  rw [lays_cons, lays_nil]
  unfold lay
  rw [if_pos (by rfl)]
  rfl
theorem devA_log1 : devA.log 1 = fun _ => 0 := by
  show lays _ [spW 9 0 2 dsA 0] 25 = _
  rw [lays_cons, lays_nil]
  unfold lay
  rw [if_neg (by show ¬ 25 = 24 + (0 + 0); omega)]
  rfl
theorem spA_is : IsSp (devA.log 0) 9 0 := by
  rw [devA_log0]
  unfold spP
  rw [show dlen 2 0 = 2 from rfl]
  exact spS_is (by omega) (by omega) fun i _ => dsA_valid _
theorem spA_not : ¬ IsSp (devA.log 1) 9 1 := fun h => by
  have h1 := h.1
  rw [devA_log1] at h1
  exact absurd h1 (by decide)
theorem spA_count : spC devA.log 1 = 2 := by
  show 0 + devA.log 0 5 = 2
  rw [devA_log0]
  unfold spP
  rw [show dlen 2 0 = 2 from rfl, spS_count (by omega)]
theorem spA_del {i : Nat} (hi : i < 2) : spD devA.log 1 i = dsA i := by
  show (if i < 0 then _ else sdel (devA.log 0) (i - 0)) = _
  rw [if_neg (by omega), devA_log0]
  unfold spP
  rw [show dlen 2 0 = 2 from rfl, Nat.sub_zero, spS_del (by omega) (fun j _ => dsA_valid _) hi]
  rw [Nat.zero_mul, Nat.zero_add]

/-- What Load answers of it. -/
theorem loadA_any {w : World} {base g h : Nat} {L : Value} (d : IsDev w base g h L devA) :
    Calls Try.prog 8 #[.pointer (some ⟨g, 0, none⟩), .int .i64 9] w fun e w' => Below w.heap.size w w' ∧ ∃ ad c, e = .returned (.tuple #[.slice (some ad) 2 c, .int .i64 1, .int .i64 0]) ∧ w'.cell? ⟨ad.block, ad.off + 5, none⟩ = some (.int .i64 2) := by
  have hh := spLoad_any d rfl 9 (by omega)
  refine Calls.mono hh fun e w' hx => ?_
  obtain ⟨hb, n, hn, hl, hs, hcase⟩ := hx
  have n0 : n ≠ 0 := fun e0 => by
    subst e0
    rcases hcase with ⟨h1, _⟩ | ⟨_, h1, _⟩
    · exact (h1 (by omega)).2 spA_is
    · exact absurd h1 (by show ¬ 60 ≤ 24 + 0; omega)
  have n1 : ¬ 1 < n := fun e1 => spA_not (hl 1 e1)
  obtain rfl : n = 1 := by omega
  rcases hcase with ⟨_, v, rfl, hv⟩ | ⟨_, h1, _⟩
  · have hr := hv.reads
    rw [spA_count] at hr
    obtain ⟨A, c, rfl, _, _, _, hc⟩ := hr
    obtain ⟨ad, rfl, hj⟩ := hc 1 (by omega)
    refine ⟨hb, ad, c, rfl, ?_⟩
    have h5 := hj 0 (by omega) (.int .i64 2) (by rw [spA_del (by omega)]; rfl)
    exact h5
  · exact absurd h1 (by show ¬ 60 ≤ 24 + 1; omega)

theorem saveA_any {w : World} {base g h : Nat} {L : Value} (d : IsDev w base g h L (fresh 60)) :
    Calls Try.prog 14 #[.pointer (some ⟨g, 0, none⟩), .int .i64 9, .int .i64 0, .slice (some ⟨w.heap.size, 0, none⟩) 2 2] (w.alloc (.cells cellsA 52)) fun e w' =>
      e = .returned (.tuple #[.int .i64 1, .int .i64 0]) ∧ Apart (foot g h L) (w.alloc (.cells cellsA 52)) w' ∧ ∃ L', IsDev w' base g h L' devA := by
  have hb : Below w.heap.size w (w.alloc (.cells cellsA 52)) := (Below.refl _ _).alloc (Nat.le_refl _) _
  have hh := spSave_ok (d.below hb) ⟨rfl, rfl⟩ 9 0 2 2 ⟨w.heap.size, 0, none⟩ dsA (by omega) (by omega) (by show 0 + 1 ≤ 16; omega) (by show 24 + (0 + 1) ≤ 60; omega) (by show 0 ≤ 1000000; omega)
    (fun W a => dsA_laid w (fun hf => by have := (d.lt _ hf).2; omega) W a) fun i _ => dsA_valid i
  refine Calls.mono hh fun e w' hx => ?_
  obtain ⟨he, ha, L', hd, _⟩ := hx
  exact ⟨he, ha, L', hd⟩

set_option maxRecDepth 100000 in
set_option maxHeartbeats 1000000 in
theorem awake_any (w : World) : Calls Try.prog 6 #[] w (Fresh (.bool true) w) := by
  have N : Hid (Calls Try.prog 5 #[.int .i64 60] w (Born 60 w)) := Lib.hid (dev_new_ok 60 w (by omega) (by omega))
  go_enter Try.func6, Try.ntmps6
  go_wp2_with fail
  with_reducible refine N.out.mono ?_
  rintro e w1 ⟨g, h, rfl, hd, hb⟩
  have SV := Lib.hid (saveA_any hd)
  have HD := Lib.hid hd
  have HB := Lib.hid hb
  clear hd hb N
  unfold cellsA at SV
  go_wp2_with fail
  with_reducible refine SV.out.mono ?_
  rintro e w2 ⟨rfl, ha, L', hd2⟩
  have LD := Lib.hid (loadA_any hd2)
  have B2 : Hid (Below w.heap.size w w2) := Lib.hid ((HB.out.alloc HB.out.size _).trans (ha.below (by have := HB.out.size; simp; omega) fun k hk hf => by have := (HD.out.lt _ hf).1; omega))
  clear ha hd2 SV
  go_wp2_with fail
  with_reducible refine LD.out.mono ?_
  rintro e w3 ⟨hb3, ad, c, rfl, hc⟩
  have B3 : Hid (Below w.heap.size w w3) := Lib.hid (B2.out.trans (hb3.mono B2.out.size))
  clear hb3
  go_wp2
  go_ret
  exact ⟨rfl, B3.out⟩
end Go.Proofs.Ytmgeifolgdgapaa

