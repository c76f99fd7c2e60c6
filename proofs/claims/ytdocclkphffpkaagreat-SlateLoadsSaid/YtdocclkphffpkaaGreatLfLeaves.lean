/- The leaves of a text. -/
import Derived.Test.YtdocclkphffpkaaGreatLfParts
import Derived.Test.YtdocclkphffpkaaGreatMerge7
import Derived.Test.YtdocclkphffpkaaGreatMerge2
import Derived.Test.YtdocclkphffpkaaGreatMerge4
import Derived.Maps.AppendAt
namespace Go.Proofs.YtdocclkphffpkaaGreat
open Go.RowKit Go.Shelf

attribute [local go_sem] Oper.semAt_some

/-- Two bytes. -/
def pair (a b : Nat) (i : Nat) : Nat := if i = 0 then a else b
/-- What leaf k has ahead of its sum: seq, its number, how many bytes, and these. -/
def leafB (seq n : Nat) (f : Nat → Nat) (k : Nat) : Nat → Nat := behind (behind (dig seq 4) 4 (pair (k % 256) (plen n k))) 6 fun j => f (k * 52 + j)
/-- Leaf k. -/
def leafF (seq n : Nat) (f : Nat → Nat) (k : Nat) : Nat → Nat := sec (leafB seq n f k) (6 + plen n k)

/-- What the loop holds when the leaves of these numbers are made. -/
def LeavesI (w : World) (seq n : Nat) (f : Nat → Nat) (pre : List Nat) (W : World) : Prop :=
  (∃ v, Boxed W (w.heap.size + 1) 22 v ∧ OwnP W (w.heap.size + 3) v pre.length (fun _ => 64) (fun i => leafF seq n f (pre.getD i 0))) ∧
    Boxed W w.heap.size 3 (.int .i64 (seq : Int)) ∧ Below w.heap.size w W ∧ w.heap.size + 3 ≤ W.heap.size
theorem leavesI_own (w : World) (seq n : Nat) (f : Nat → Nat) {B : Nat} (hB : w.heap.size ≤ B) : OwnFrom B (LeavesI w seq n f) := by
  rintro s X Y row ⟨⟨v, hv, hp⟩, hs, hb, hz⟩ hg hrow
  have hk : ∀ (g : Nat) (cs : Array Value) (t : TypeId) (fr : Nat × Nat), X.heap[g]? = some (.cells cs t fr) → Y.heap[g]? = X.heap[g]? := fun g cs t fr h => cells_kept hg (fun r e => (hrow r e).2) h
  exact ⟨⟨v, boxed_kept hv hk, hp.cells_kept hk⟩, boxed_kept hs hk, hb.grown hg hb.size fun k e => Nat.le_trans hB (hrow k e).1, Nat.le_trans hz hg.size⟩

theorem seq_new (w : World) (seq : Nat) (hs : seq < 4294967296) : IntsAt (w.alloc (.cells #[.int .i64 (seq : Int)] 3)) (some ⟨w.heap.size, 0, none⟩) 1 (fun _ => (seq : Int)) := int_new w _ (by omega)
theorem seq_row (W : World) (seq : Nat) (hs : seq < 4294967296) :
    Calls Tryz.prog 69 #[.int .i64 4, .slice (some ⟨W.heap.size, 0, none⟩) 1 1] (W.alloc (.cells #[.int .i64 (seq : Int)] 3)) fun e w' => ∃ v, e = .returned (.tuple #[v, .int .i64 0]) ∧ Own w' W.heap.size v 4 (dig seq 4) ∧ Below W.heap.size W w' := by
  have h := row_own 4 (some ⟨W.heap.size, 0, none⟩) 1 1 (fun _ => seq) (W.alloc (.cells #[.int .i64 (seq : Int)] 3)) (by omega) (by omega) (by omega) (by omega) (fun _ _ => by show seq < 256 ^ 4; omega) (seq_new W seq hs)
  refine Calls.mono h fun e w' hx => ?_
  obtain ⟨v, he, hv, hb⟩ := hx
  have hv2 : Own w' (W.alloc (.cells #[.int .i64 (seq : Int)] 3)).heap.size v 4 (dig seq 4) := Own.congr (n := 1 * 4) hv fun i hi => by
    unfold rowB
    rw [show i % 4 = i by omega]
  exact ⟨v, he, ⟨hv2.1, hv2.2.imp id fun ⟨g, cap, cur, e, hb, r⟩ => ⟨g, cap, cur, e, by rw [World.size_alloc] at hb; omega, r⟩⟩, ((Below.refl _ W).alloc (Nat.le_refl _) _).trans (hb.mono (by simp))⟩
theorem pair_new (W : World) (a b : Nat) (ha : a < 256) (hb : b < 256) : BytesAt (W.alloc (.cells #[.int .u8 (a : Int), .int .u8 (b : Int)] 5)) (some ⟨W.heap.size, 0, none⟩) 2 (pair a b) :=
  ⟨fun i hi => by unfold pair; split <;> assumption, fun i hi => ⟨_, rfl, by
    rcases (by omega : i = 0 ∨ i = 1) with rfl | rfl <;> (rw [add_nil, World.cell?_alloc_mark]; rfl)⟩⟩

/-- Part k of a text reads as it should. -/
theorem part_reads {w : World} {A : Option Addr} {n c : Nat} {f : Nat → Nat} (hc : n ≤ c) (hm : c ≤ 9223372036854775807) (h : BytesAt w A n f) (k : Nat) : Reads w (pval A n c k) (plen n k) fun j => f (k * 52 + j) := by
  by_cases hk : k * 52 < n
  · obtain ⟨ad, rfl⟩ := h.addr (by omega)
    simp only [pval, if_pos hk]
    refine ⟨_, _, rfl, by unfold plen; omega, by omega, (by intro e; cases e), fun i hi => h.small _ (by unfold plen at hi; omega), fun i hi => ⟨_, rfl, ?_⟩⟩
    rw [Addr.add_add]
    exact h.at_ (by unfold plen at hi; omega)
  · have e1 : pval A n c k = .slice none 0 0 := by
      cases A with
      | none => rfl
      | some ad => simp only [pval, if_neg hk]
    have e2 : plen n k = 0 := by unfold plen; omega
    rw [e1, e2]
    exact reads_none _ _

/-- At the end the box is written over by itself, and the block for what is put off is taken. -/
theorem leaves_done {w W : World} {v : Value} {N D : Nat} {L : Nat → Nat} {F : Nat → Nat → Nat} (h : OwnP W (w.heap.size + 3) v N L F) (hK : W.heap[D]? = some (.deferred (some []))) :
    OwnP ((W.setCell ⟨w.heap.size + 1, 0, none⟩ v).putObj D (.deferred none)) w.heap.size v N L F := by
  have h2 := h.set_other (B := w.heap.size + 1) (by omega) v
  have hk := (KeepsOthers.setCell W ⟨w.heap.size + 1, 0, none⟩ v).same D _ hK rfl
  exact (h2.cells_kept fun g cs t fr hg => cells_kept (grownBy_putObj' _ D (.deferred none)) (fun r e => by cases e; exact ⟨_, hk, rfl⟩) hg).base (by omega)
theorem leaves_below {w W : World} {v : Value} {D : Nat} (hB : Below w.heap.size w W) (hD : w.heap.size + 3 ≤ D) (hK : W.heap[D]? = some (.deferred (some []))) :
    Below w.heap.size w ((W.setCell ⟨w.heap.size + 1, 0, none⟩ v).putObj D (.deferred none)) := by
  have hk := (KeepsOthers.setCell W ⟨w.heap.size + 1, 0, none⟩ v).same D _ hK rfl
  exact (hB.setCell (p := ⟨w.heap.size + 1, 0, none⟩) (by show w.heap.size ≤ w.heap.size + 1; omega) v).trans (belowK_b (w := w) (Nat.le_refl _) _ D _ _ (by omega) hk rfl rfl)

/-- A round's end: the page is put behind the row, the row into its box. -/
theorem leaves_step {w W W4 W5 : World} {v v' u : Value} {seq len N : Nat} {f : Nat → Nat} {pre : List Nat} {x : Nat} {L : Nat → Nat} {F : Nat → Nat → Nat}
    (hV : Boxed W (w.heap.size + 1) 22 v) (hS : Boxed W w.heap.size 3 (.int .i64 (seq : Int))) (hB : Below w.heap.size w W) (hZ : w.heap.size + 3 ≤ W.heap.size) (h4 : Below W.heap.size W W4)
    (hP4 : OwnP W4 (w.heap.size + 3) v N L F) (hP5 : OwnP W5 (w.heap.size + 3) v' (pre ++ [x]).length (fun _ => 64) (fun i => leafF seq len f ((pre ++ [x]).getD i 0))) (hg : (W4.alloc (.cells #[u] 44)).grownBy W5 v.ownBlock) :
    Boxed W5 (w.heap.size + 1) 22 v ∧ KeepsFrom (w.heap.size + 1 + 1 + 1) W (W5.setCell ⟨w.heap.size + 1, 0, none⟩ v') ∧ KeepsBox w.heap.size (w.heap.size + 2) W (W5.setCell ⟨w.heap.size + 1, 0, none⟩ v') ∧ LeavesI w seq len f (pre ++ [x]) (W5.setCell ⟨w.heap.size + 1, 0, none⟩ v') := by
  have hne : ∀ j, j < w.heap.size + 3 → some j ≠ v.ownBlock := fun j hj e => by have := (hP4.not_other e.symm).1; omega
  have s4 : W.heap.size ≤ W4.heap.size := h4.size
  have s5 : W4.heap.size + 1 ≤ W5.heap.size := by have := hg.size; simpa using this
  have old : ∀ j, j < w.heap.size + 3 → W5.heap[j]? = W.heap[j]? := fun j hj => by
    rw [hg.block j (by simp; omega) (hne j hj), Below.heap_alloc W4 _ j (by omega), h4.block j (by omega)]
  have hV5 : Boxed W5 (w.heap.size + 1) 22 v := (old _ (by omega)).trans hV
  have hset : ∀ j, j ≠ w.heap.size + 1 → (W5.setCell ⟨w.heap.size + 1, 0, none⟩ v').heap[j]? = W5.heap[j]? := fun j hj => Below.heap_setCell _ _ _ _ (fun e => hj e)
  have hb5 : Below w.heap.size W W5 := ((h4.mono (by omega)).alloc (by omega) _).grown hg (by simp; omega) fun k e => by have := (hP4.not_other e).1; omega
  have hb6 : Below w.heap.size W (W5.setCell ⟨w.heap.size + 1, 0, none⟩ v') := hb5.setCell (p := ⟨w.heap.size + 1, 0, none⟩) (by show w.heap.size ≤ w.heap.size + 1; omega) v'
  refine ⟨hV5, ?_, ⟨hb6, by rw [hset _ (by omega), old _ (by omega)]⟩, ⟨v', hV5.set v', hP5.set_other (by omega) v'⟩, ?_, hB.trans hb6, by have := hb6.size; omega⟩
  · refine ((keepsFrom_below h4).trans ((KeepsOthers.alloc W4 _).from _)).trans (((KeepsOthers.of_grownBy hg fun j o ej hj => ?_).from _).trans ((KeepsOthers.setCell _ _ _).from _))
    obtain ⟨cs, hcs⟩ := (hP4.not_other ej).2
    rw [Below.heap_alloc W4 _ j (Array.getElem?_eq_some_iff.1 hcs).1, hcs] at hj
    cases hj
    rfl
  · exact ((hset _ (by omega)).trans (old _ (by omega))).trans hS

theorem leafB_lt {seq n : Nat} {f : Nat → Nat} {k : Nat} (hf : ∀ i, i < n → f i < 256) {i : Nat} (hi : i < 6 + plen n k) : leafB seq n f k i < 256 := by
  unfold leafB
  refine behind_lt (fun i hi => behind_lt (n := 4) (m := 2) (fun i _ => dig_lt _ _ _) (fun i _ => ?_) i hi) (fun i hi => hf _ ?_) i hi
  · unfold pair
    split
    · omega
    · have := plen_le n k
      omega
  · unfold plen at hi
    omega

set_option maxRecDepth 100000 in
set_option maxHeartbeats 2000000 in
theorem leaves_in (seq : Nat) (A : Option Addr) (len cap : Nat) (f : Nat → Nat) (w : World) (hs : seq < 4294967296) (hlen : len ≤ 1000000) (hcap : len ≤ cap) (hmost : cap ≤ 9223372036854775807) (hA : A = none → len = 0) (hT : BytesAt w A len f) :
    Calls Tryz.prog 47 #[.slice A len cap, .int .i64 (seq : Int)] w fun e w' => ∃ v, e = .returned v ∧ OwnP w' w.heap.size v (pcount len) (fun _ => 64) (fun i => leafF seq len f i) ∧ Below w.heap.size w w' := by
  refine (callsIn_wide (n := 3)).1 ?_
  refine callsIn_of_wp_marks Tryz.func47 rfl trivial ?_ rfl
  simp only [Tryz.ntmps47, List.size_toArray, List.length_cons, List.length_nil, Nat.reduceAdd, Nat.reduceSub, Array.replicate_succ, Array.replicate_zero, List.push_toArray, List.append_toArray, List.nil_append, List.cons_append]
  gi_wp2_with fail
  refine ⟨trivial, ?_⟩
  refine (parts_in Fence.wide _ trivial rfl _ _ _ _).mono ?_
  rintro e w' ⟨rfl, rfl⟩
  gi_wp2_with fail
  have bS := Boxed.new w 3 (.int .i64 (seq : Int))
  have bL := Boxed.new (w.alloc (.cells #[.int .i64 (seq : Int)] 3)) 22 (.slice none 0 0)
  have bT := Boxed.new ((w.alloc (.cells #[.int .i64 (seq : Int)] 3)).alloc (.cells #[.slice none 0 0] 22)) 44 (.slice A len cap)
  simp only [World.size_alloc] at bL bT
  have hB0 : Below w.heap.size w (((w.alloc (.cells #[.int .i64 (seq : Int)] 3)).alloc (.cells #[.slice none 0 0] 22)).alloc (.cells #[.slice A len cap] 44)) := (((Below.refl _ w).alloc (Nat.le_refl _) _).alloc (by simp) _).alloc (by simp; omega) _
  refine wpIn_rangeFunc_ownG rfl (by omega) (gf := 95) (lb := #[.pointer (some ⟨w.heap.size + 2, 0, none⟩)]) rfl trivial (enters_of Tryz.func95 (by kernel_rfl) rfl)
    (parts_stops Fence.wide _ trivial rfl (by omega) (w.heap.size + 2) w.heap.size A len cap (by omega) hcap hA _ (by simp) bT.cell) keepsBox_t (keepsBox_b (by simp; omega) (by simp)) (Below.refl _ _) (fun _ => rfl)
    (LeavesI w seq len f) (fun _ _ _ => False)
    (leavesI_own w seq len f (by simp; omega))
    (fun _ _ _ _ _ hs _ _ => hs)
    ⟨⟨_, bL.alloc _, OwnP.nil _ _ _ _⟩, (bS.alloc _).alloc _, hB0, by simp⟩
    (fun x => { tmps := #[.slice A len cap, .int .i64 (seq : Int), undef, .pointer (some ⟨w.heap.size, 0, none⟩), .pointer (some ⟨w.heap.size + 1, 0, none⟩), .int .i64 (x : Int), pval A len cap x, undef, undef, undef, undef, .slice A len cap, .func (.func 95) #[] #[.pointer (some ⟨w.heap.size + 2, 0, none⟩)], .int .i64 (x : Int), pval A len cap x, undef, undef, undef, undef, undef, undef, undef, undef, undef, undef, undef, undef, undef, undef, undef, undef, undef, undef, undef, undef, undef, undef, undef, undef, undef, undef], defers := [] }) ?assign ?body ?done ?stop
  case assign =>
    intro l x W K hK
    gi_wp2
    exact hK
  case body =>
    rintro l pre x W ⟨⟨v, hv, hp⟩, hsq, hB, hz⟩ hlt
    have hc := hv.cell
    have hc2 := hsq.cell
    have PT := Lib.hid (part_reads hcap hmost hT x)
    have HP := Lib.hid hp
    have HV := Lib.hid hv
    have HS := Lib.hid hsq
    have HB := Lib.hid hB
    have HZ := Lib.hid hz
    have hlt2 : pre.length ≤ 20000 := by unfold pcount at hlt; omega
    clear hp hv hsq hB hz hlt
    obtain ⟨q, hq⟩ : ∃ q, q = plen len x := ⟨_, rfl⟩
    obtain ⟨y, hy⟩ : ∃ y, y = x % 256 := ⟨_, rfl⟩
    have hq52 : q ≤ 52 := by rw [hq]; exact plen_le _ _
    have hy256 : y < 256 := by rw [hy]; omega
    have hyI : (x : Int) % 256 = (y : Int) := by omega
    obtain ⟨A1, c1, ep, p1, p2, p3, p4⟩ := PT.out
    rw [ep] at PT
    rw [← hq] at PT ep p1 p4
    have HQ := Lib.hid hq
    have HY := Lib.hid hy
    clear hq hy
    gi_wp2_with fail
    refine ⟨trivial, ?_⟩
    refine (CallsIn.inRound l (callsIn_wide.2 (seq_row W seq hs))).mono ?_
    rintro e W1 ⟨v1, rfl, ho1, hb1⟩
    have O1 := Lib.hid ho1
    have B1 := Lib.hid hb1
    clear ho1 hb1
    -- the number and the length behind it
    have hbx : Below W.heap.size W (W1.alloc (.cells #[.int .u8 (y : Int), .int .u8 (q : Int)] 5)) := B1.out.alloc B1.out.size _
    obtain ⟨v2, W2, r2, o2, n2, g2⟩ := run_bytes (c := 2) 44 (O1.out.alloc (.cells #[.int .u8 (y : Int), .int .u8 (q : Int)] 5)) (pair_new W1 y q hy256 (by omega)) (by intro e; cases e) (by omega) hbx.size
    have hb2 : Below W.heap.size W W2 := (O1.out.alloc (.cells #[.int .u8 (y : Int), .int .u8 (q : Int)] 5)).grown_below hbx (Nat.le_refl _) hbx.size g2
    -- the part behind them
    have hT2 : BytesAt W2 A1 q fun j => f (x * 52 + j) := by
      obtain ⟨A', c', e', _, _, _, hs'⟩ := (PT.out.below HB.out).below hb2
      cases e'
      exact hs'
    obtain ⟨v3, W3, r3, o3, n3, g3⟩ := run_bytes (c := c1) 44 o2 hT2 p3 (by omega) hb2.size
    have hb3 : Below W.heap.size W W3 := o2.grown_below hb2 (Nat.le_refl _) hb2.size g3
    have hle : Hid (behind (behind (dig seq 4) 4 (pair y q)) 6 (fun j => f (x * 52 + j)) = leafB seq len f x) := Lib.hid (by unfold leafB; rw [HY.out, HQ.out])
    rw [show 4 + 2 = 6 from rfl, hle.out] at o3
    have R2 := Lib.hid r2
    have R3 := Lib.hid r3
    have O3 := Lib.hid o3
    have B3 := Lib.hid hb3
    clear r2 o2 n2 g2 hb2 hT2 r3 o3 n3 g3 hb3 hbx hle p4 O1 B1
    have hsm : ∀ i, i < 6 + q → leafB seq len f x i < 256 := fun i hi => leafB_lt hT.small (by rw [← HQ.out]; exact hi)
    have RD := Lib.hid (O3.out.reads hsm)
    gi_wp2_with (first
      | (gi_at_builtin; refine wpListIn_append_run _ rfl (.tmp 21) (.tmp 27) _ _ rfl _ _ rfl rfl _ _ R2.out ?_)
      | (gi_at_builtin; refine wpListIn_append_run _ rfl (.tmp 30) (.tmp 31) _ _ rfl _ _ rfl rfl _ _ R3.out ?_))
    obtain ⟨A3, c3, e3, _, _, _, h3⟩ := RD.out
    rw [e3]
    refine ⟨trivial, ?_⟩
    refine (CallsIn.inRound l (callsIn_wide.2 (close_any A3 (6 + q) c3 (leafB seq len f x) W3 (by omega) h3))).mono ?_
    rintro e W4 ⟨u, rfl, hu, hb4⟩
    have hb4' : Below W.heap.size W W4 := B3.out.trans (hb4.mono B3.out.size)
    have hu2 : Row (w.heap.size + 3) W4 u 64 (leafF seq len f ((pre ++ [x]).getD pre.length 0)) := by
      rw [List.getD_eq_getElem?_getD, List.getElem?_append_right (Nat.le_refl _), Nat.sub_self]
      show Row (w.heap.size + 3) W4 u 64 (leafF seq len f x)
      unfold leafF
      rw [← HQ.out]
      exact hu.base (by have := B3.out.size; have := HZ.out; omega)
    have hp4 : OwnP W4 (w.heap.size + 3) v pre.length (fun _ => 64) (fun i => leafF seq len f ((pre ++ [x]).getD i 0)) := (HP.out.below_ hb4').congr (fun _ _ => rfl) fun i hi j _ => by
      rw [List.getD_eq_getElem?_getD, List.getD_eq_getElem?_getD, List.getElem?_append_left hi]
    obtain ⟨gu, cu, eu, _⟩ := hu.open_
    have h1c : u.oneCell' = true := by rw [eu]; rfl
    obtain ⟨v5, W5, r5, p5, ⟨g5, c5, e5⟩, gr5⟩ := run_page 22 hp4 hu2 h1c (by have := plen_le len x; have := hlt2; omega) (by have := hb4'.size; have := HZ.out; omega)
    subst e5
    have hst := leaves_step HV.out HS.out HB.out HZ.out hb4' hp4 (by rw [List.length_append]; exact p5) gr5
    have ST := Lib.hid hst.2
    have c4 : W4.cell? ⟨w.heap.size + 1, 0, none⟩ = some v := (show Boxed W4 (w.heap.size + 1) _ v from (hb4'.block _ HV.out.lt).trans HV.out).cell
    have c5 := hst.1.cell
    have f5 := hst.1.frozen
    have R5 := Lib.hid r5
    subst eu
    clear hst hb4' hu2 hp4 h1c r5 p5 gr5 hb4 hu h3
    gi_wp2_with (first
      | (gi_at_builtin; refine wpListIn_append_run _ rfl (.tmp 36) (.tmp 38) _ _ rfl _ _ rfl rfl _ _ R5.out ?_))
    exact ⟨by simpa using ST.out.1, ST.out.2.1, ST.out.2.2⟩
  case done =>
    rintro D xs W hD rfl ⟨⟨v, hv, hp⟩, hsq, hB, hz⟩ hK
    have hc := hv.cell
    have hf := hv.frozen
    have HP := Lib.hid (hp.congr (L' := fun _ => 64) (F' := fun i => leafF seq len f i) (fun _ _ => rfl) (fun i hi j _ => by
      rw [List.length_range] at hi
      show leafF seq len f ((List.range (pcount len)).getD i 0) j = leafF seq len f i j
      rw [List.getD_eq_getElem?_getD, List.getElem?_range hi]
      rfl))
    rw [List.length_range] at HP
    have hb2 := Lib.hid hB
    have hfm := Lib.hid hp.form
    clear hp hB
    have HZ := Lib.hid hz
    have hB2 := hb2
    clear hb2 hz
    rw [List.length_range] at hfm
    rcases hfm.out with rfl | ⟨g, cap', rfl⟩
    · gi_wp2
      refine ⟨by simp, .inl ⟨_, _, rfl, run_takeDeferred ((KeepsOthers.setCell _ _ _).same D _ hK rfl), ?_⟩⟩
      refine ⟨_, results_cell_one (fn := Tryz.f47) rfl _ _ ⟨w.heap.size + 1, 0, none⟩ _ rfl (run_loadVar_cell Tryz.underlying22 rfl (cell_kept (Boxed.cell (hv.set _)) (grownBy_putObj' _ D (.deferred none)) (fun r e => by cases e; exact ⟨_, (KeepsOthers.setCell _ _ _).same D _ hK rfl, rfl⟩))), _, rfl, ?_, ?_⟩
      · exact leaves_done HP.out hK
      · exact leaves_below hB2.out (by simpa using hD) hK
    · gi_wp2
      refine ⟨by simp, .inl ⟨_, _, rfl, run_takeDeferred ((KeepsOthers.setCell _ _ _).same D _ hK rfl), ?_⟩⟩
      refine ⟨_, results_cell_one (fn := Tryz.f47) rfl _ _ ⟨w.heap.size + 1, 0, none⟩ _ rfl (run_loadVar_cell Tryz.underlying22 rfl (cell_kept (Boxed.cell (hv.set _)) (grownBy_putObj' _ D (.deferred none)) (fun r e => by cases e; exact ⟨_, (KeepsOthers.setCell _ _ _).same D _ hK rfl, rfl⟩))), _, rfl, ?_, ?_⟩
      · exact leaves_done HP.out hK
      · exact leaves_below hB2.out (by simpa using hD) hK
  case stop =>
    rintro D c pre W _ _ h _
    exact h.elim
end Go.Proofs.YtdocclkphffpkaaGreat
