
/- Deltas saved on a device whose power is on for good. -/
import Derived.Test.YtmgeifolgdgapaaSpLoad
import Derived.Test.YtmgeifolgdgapaaRoundHeld
namespace Go.Proofs.Ytmgeifolgdgapaa
open Go.RowKit Go.Shelf

attribute [local go_sem] Oper.semAt_some

theorem sectors_ok (n : Nat) (w : World) (hn : n ≤ 96) :
    Calls Try.prog 13 #[.int .i64 (n : Int)] w fun e w' => e = .returned (.tuple #[.int .i64 (dcount n : Int), .int .i64 0]) ∧ w = w' := by
  obtain ⟨y, hy⟩ : ∃ y, y = dcount n := ⟨_, rfl⟩
  rw [← hy]
  have e1 : ((n : Int) + 6 - 1) / 6 = (y : Int) := by rw [hy]; unfold dcount; omega
  have e2 : ((n : Int) + 6 - 1).tdiv 6 = (y : Int) := by rw [Int.tdiv_eq_ediv_of_nonneg (by omega)]; exact e1
  have d1 : decide ((n : Int) < 0) = false := by simp
  have d2 : decide ((96 : Int) < (n : Int)) = false := by simp; omega
  have HY := Lib.hid hy
  clear hy
  go_enter Try.func13, Try.ntmps13
  go_wp2
  go_ret2
  exact ⟨rfl, rfl⟩
theorem sectors_bad (z : Int) (w : World) (hz : ¬ (0 ≤ z ∧ z ≤ 96)) :
    Calls Try.prog 13 #[.int .i64 z] w fun e w' => e = .returned (.tuple #[.int .i64 0, .int .i64 1]) ∧ w = w' := by
  by_cases h : z < 0
  · have d1 : decide (z < 0) = true := by simp; omega
    go_enter Try.func13, Try.ntmps13
    go_wp2
    go_ret2
    exact ⟨rfl, rfl⟩
  · have d1 : decide (z < 0) = false := by simp; omega
    have d2 : decide ((96 : Int) < z) = true := by simp; omega
    go_enter Try.func13, Try.ntmps13
    go_wp2
    go_ret2
    exact ⟨rfl, rfl⟩

/-- Part k of the deltas, as a page; where it is written. -/
def spP (q used n : Nat) (ds : Nat → Del) (k : Nat) : Nat → Nat := spS q (used + k) (dlen n k) fun i => ds (k * 6 + i)
def spW (q used n : Nat) (ds : Nat → Del) (k : Nat) : Wr := ⟨24 + (used + k), spP q used n ds k⟩
theorem dlen_le (n k : Nat) : dlen n k ≤ 6 := Nat.min_le_left _ _
theorem dpart_reads {W : World} {ad : Addr} {n c x : Nat} {ds : Nat → Del} (h : ReadsD W (.slice (some ad) n c) n ds) (hx : x * 6 < n) : ReadsD W (dpartV ad n c x) (dlen n x) fun i => ds (x * 6 + i) := by
  obtain ⟨A', c', e', h1, h2, h3, h4⟩ := h
  cases e'
  refine ⟨_, _, rfl, by unfold dlen; omega, by omega, (by intro e; cases e), fun i hi => ⟨_, rfl, fun j hj u hu => ?_⟩⟩
  obtain ⟨ad', e1, hc⟩ := h4 (x * 6 + i) (by unfold dlen at hi; omega)
  cases e1
  rw [Addr.add_add, show x * 6 * 5 + (i * 5 + j) = (x * 6 + i) * 5 + j by omega]
  exact hc j hj u hu
theorem row_apart {B : Nat} {W W' : World} {u : Value} {n : Nat} {f : Nat → Nat} {G : Nat → Prop} (h : Row B W u n f) (a : Apart G W W') (hG : ∀ k, G k → k < B) : Row B W' u n f := by
  obtain ⟨g, cap, cur, e, h1, h2, h3, h4, h5⟩ := h
  exact ⟨g, cap, cur, e, h1, h2, h3, (a.block g (Array.getElem?_eq_some_iff.1 h4).1 fun hg => by have := hG g hg; omega).trans h4, h5⟩
theorem IsDev.cells_kept {X Y : World} {base g h : Nat} {L : Value} {D : Dev} (d : IsDev X base g h L D) (hk : ∀ (g : Nat) (cs : Array Value) (t : TypeId) (fr : Nat × Nat), X.heap[g]? = some (.cells cs t fr) → Y.heap[g]? = X.heap[g]?) : IsDev Y base g h L D where
  head := (hk _ _ _ _ d.head).trans d.head
  body := (hk _ _ _ _ d.body).trans d.body
  own := ⟨d.own.1, by
    rcases d.own.2 with h3 | ⟨g, cap, cur, e, hb, hg, rest⟩
    · exact .inl h3
    · exact .inr ⟨g, cap, cur, e, hb, (hk g _ _ _ hg).trans hg, rest⟩⟩
  bg := d.bg
  bh := d.bh
  ne := d.ne
  ng := d.ng
  nh := d.nh
  size := d.size
  sure := d.sure
  loose := d.loose
  left := d.left
/-- All of a device's blocks are cells. -/
theorem IsDev.foot_cells {W : World} {base g h : Nat} {L : Value} {D : Dev} (d : IsDev W base g h L D) {k : Nat} (hk : foot g h L k) : ∃ cs t, W.heap[k]? = some (.cells cs t (0, 0)) := by
  rcases hk with rfl | rfl | e
  · exact ⟨_, _, d.head⟩
  · exact ⟨_, _, d.body⟩
  · rcases d.own.2 with ⟨rfl, _⟩ | ⟨g, cap, cur, rfl, hb, hg, _⟩
    · cases e
    · obtain rfl : g = k := by simpa [Value.ownBlock] using e
      exact ⟨_, _, hg⟩
theorem keepsFrom_apart {B : Nat} {W W' : World} {G : Nat → Prop} (a : Apart G W W') (hG : ∀ k, G k → ∃ cs t, W.heap[k]? = some (.cells cs t (0, 0))) : KeepsFrom B W W' :=
  ⟨a.size, fun k o _ hk ho => (a.block k (Array.getElem?_eq_some_iff.1 hk).1 fun hg => by
    obtain ⟨cs, t, e⟩ := hG k hg
    rw [e] at hk
    cases hk
    cases ho).trans hk⟩
/-- A box is none of a device's blocks, if it lies behind the device's first ones and is of another type. -/
theorem box_off {W : World} {base g h b : Nat} {L v : Value} {D : Dev} {t : TypeId} (d : IsDev W base g h L D) (hb : Boxed W b t v) (ht : t ≠ 59) (hg : g < b) (hh : h < b) : ¬ foot g h L b := by
  rintro (e | e | e)
  · omega
  · omega
  · exact hb.not_row ht d.own e.symm

/-- What Save's loop holds when these pages are written. -/
structure SvI (w : World) (base g h q used n : Nat) (L : Value) (D : Dev) (ds : Nat → Del) (bs : Nat) (lv : Value) (pre : List (Fin (dcount n))) (W : World) : Prop where
  dev : ∃ L', IsDev W base g h L' { D with loose := D.loose ++ pre.map fun x => spW q used n ds x.val } ∧ ∀ k, L'.ownBlock = some k → L.ownBlock = some k ∨ w.heap.size ≤ k
  apart : Apart (foot g h L) w W
  x0 : Boxed W w.heap.size 23 (.pointer (some ⟨g, 0, none⟩))
  x1 : Boxed W (w.heap.size + 1) 3 (.int .i64 (q : Int))
  x2 : Boxed W (w.heap.size + 2) 3 (.int .i64 (used : Int))
  x3 : Boxed W (w.heap.size + 3) 3 (.int .i64 0)
  x4 : Boxed W (w.heap.size + 4) 24 (.int .i64 0)
  y1 : Boxed W (bs + 1) 3 (.int .i64 6)
  y2 : Boxed W bs 32 lv
theorem svI_own (w : World) (base g h q used n : Nat) (L : Value) (D : Dev) (ds : Nat → Del) (bs : Nat) (lv : Value) {B : Nat} (hB : w.heap.size ≤ B) : OwnFrom B (SvI w base g h q used n L D ds bs lv) := by
  rintro s X Y row ⟨⟨L', hd, ho⟩, ha, h0, h1, h2, h3, h4, h5, h6⟩ hg hrow
  have hk : ∀ (g : Nat) (cs : Array Value) (t : TypeId) (fr : Nat × Nat), X.heap[g]? = some (.cells cs t fr) → Y.heap[g]? = X.heap[g]? := fun g cs t fr h => cells_kept hg (fun r e => (hrow r e).2) h
  refine ⟨⟨L', hd.cells_kept hk, ho⟩, ?_, boxed_kept h0 hk, boxed_kept h1 hk, boxed_kept h2 hk, boxed_kept h3 hk, boxed_kept h4 hk, boxed_kept h5 hk, boxed_kept h6 hk⟩
  exact ⟨hg.os.trans ha.os, hg.tape.trans ha.tape, hg.output.trans ha.output, Nat.le_trans ha.size hg.size, fun k hlt hn => (hg.block k (Nat.lt_of_lt_of_le hlt ha.size) fun e => by have := (hrow k e.symm).1; omega).trans (ha.block k hlt hn)⟩

/-- A round's end: a page is put. -/
theorem sv_step {w W W1 W2 : World} {base g h q used n : Nat} {L L' L2 lv : Value} {D : Dev} {ds : Nat → Del} {bs : Nat} {pre : List (Fin (dcount n))} {x : Fin (dcount n)} (hw : ∀ k, foot g h L k → k < w.heap.size) (hbs : w.heap.size ≤ bs)
    (hd : IsDev W base g h L' { D with loose := D.loose ++ pre.map fun x => spW q used n ds x.val }) (ho : ∀ k, L'.ownBlock = some k → L.ownBlock = some k ∨ w.heap.size ≤ k)
    (hI : SvI w base g h q used n L D ds bs lv pre W) (h1 : Below W.heap.size W W1)
    (hd2 : IsDev W2 base g h L2 { D with loose := (D.loose ++ pre.map fun x => spW q used n ds x.val) ++ [spW q used n ds x.val] }) (ha2 : Apart (foot g h L') W1 W2) (ho2 : ∀ k, L2.ownBlock = some k → L'.ownBlock = some k ∨ W1.heap.size ≤ k) :
    (W2.cell? ⟨w.heap.size, 0, none⟩ = some (.pointer (some ⟨g, 0, none⟩)) ∧ W2.cell? ⟨w.heap.size + 1, 0, none⟩ = some (.int .i64 (q : Int))) ∧
      KeepsFrom (bs + 2) W W2 ∧ Keeps2 0 (bs + 1) bs W W2 ∧ SvI w base g h q used n L D ds bs lv (pre ++ [x]) W2 := by
  have hgw : g < w.heap.size := hw g (.inl rfl)
  have hhw : h < w.heap.size := hw h (.inr (.inl rfl))
  have hz := hI.apart.size
  have lt1 : ∀ {b t v}, Boxed W b t v → t ≠ 59 → w.heap.size ≤ b → Boxed W2 b t v := fun {b t v} hb ht hle => by
    have hb1 : Boxed W1 b t v := (h1.block b hb.lt).trans hb
    refine (ha2.block b hb1.lt ?_).trans hb1
    exact box_off (hd.below h1) hb1 ht (by omega) (by omega)
  have x0 := lt1 hI.x0 (by decide) (Nat.le_refl _)
  have x1 := lt1 hI.x1 (by decide) (by omega)
  have y1 := lt1 hI.y1 (by decide) (by omega)
  have y2 := lt1 hI.y2 (by decide) hbs
  have aW : Apart (foot g h L') W W2 := (Apart.of_below h1).trans ha2 fun _ _ e => e
  refine ⟨⟨x0.cell, x1.cell⟩, (keepsFrom_below h1).trans (keepsFrom_apart ha2 fun k hk => (hd.below h1).foot_cells hk), ⟨aW.below (Nat.zero_le _) (fun k hk => absurd hk (Nat.not_lt_zero k)), y1.trans hI.y1.symm, y2.trans hI.y2.symm⟩, ⟨⟨L2, ?_, fun k e => ?_⟩, ?_, x0, x1, lt1 hI.x2 (by decide) (by omega), lt1 hI.x3 (by decide) (by omega), lt1 hI.x4 (by decide) (by omega), y1, y2⟩⟩
  · rw [List.map_append, ← List.append_assoc]
    exact hd2
  · rcases ho2 k e with e2 | e2
    · exact ho k e2
    · exact .inr (by have := h1.size; omega)
  · refine hI.apart.trans aW fun k hk hf => ?_
    rcases hf with e | e | e
    · exact .inl e
    · exact .inr (.inl e)
    · rcases ho k e with e2 | e2
      · exact .inr (.inr e2)
      · omega
end Go.Proofs.Ytmgeifolgdgapaa
