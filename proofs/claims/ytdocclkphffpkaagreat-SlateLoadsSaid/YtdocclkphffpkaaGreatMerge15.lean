/- What is read of pages whose header is one. What is read of a header alone; and of any pages whose header is one. -/
import Derived.Test.YtdocclkphffpkaaGreatLfPartsOf
import Derived.Test.YtdocclkphffpkaaGreatLfState
import Derived.Deep.RegionHeld3
namespace Go.Proofs.YtdocclkphffpkaaGreat
open Go.RowKit Go.Shelf

attribute [local go_sem] Oper.semAt_some

/-- Parts, one behind the other. -/
def joinL (l : List (Nat × (Nat → Nat))) : Nat × (Nat → Nat) := l.foldl (fun a x => (a.1 + x.1, behind a.2 a.1 x.2)) (0, z0)
theorem joinL_snoc (l : List (Nat × (Nat → Nat))) (x : Nat × (Nat → Nat)) : joinL (l ++ [x]) = ((joinL l).1 + x.1, behind (joinL l).2 (joinL l).1 x.2) := by simp [joinL]

theorem joinL_small (l : List (Nat × (Nat → Nat))) (h : ∀ x ∈ l, ∀ i, i < x.1 → x.2 i < 256) : ∀ i, i < (joinL l).1 → (joinL l).2 i < 256 := by
  have h2 : ∀ (l : List (Nat × (Nat → Nat))) (a : Nat × (Nat → Nat)), (∀ i, i < a.1 → a.2 i < 256) → (∀ x ∈ l, ∀ i, i < x.1 → x.2 i < 256) → ∀ i, i < (l.foldl (fun a x => (a.1 + x.1, behind a.2 a.1 x.2)) a).1 → (l.foldl (fun a x => (a.1 + x.1, behind a.2 a.1 x.2)) a).2 i < 256 := by
    intro l
    induction l with
    | nil => intro a ha _ i hi; exact ha i hi
    | cons x l ih =>
      intro a ha hl
      refine ih _ (fun i hi => ?_) fun y hy => hl y (List.mem_cons_of_mem _ hy)
      exact behind_lt ha (hl x List.mem_cons_self) i hi
  exact h2 l (0, z0) (fun i hi => absurd hi (by simp)) h

theorem plat_zero : ∀ w, (zeroValue 34).run Tryz.prog w = .ok (.agg #[.int .i64 0, .int .i64 0]) w :=
  (zero_of_info (t := 34) (v := .agg #[.int .i64 0, .int .i64 0]) (n := 2) (by kernel_rfl)).1

/-- A state is stored whole: what is then there. -/
theorem store_state {w5 : World} {b : Nat} {K S K' S' : Nat → Nat} {V V' : Nat → Value} (h : StIs w5 b K S V) : ∃ w6, w6 = w5.setCells b 0 (scells K' S' V') ∧ StIs w6 b K' S' V' ∧ Apart (fun k => k = b) w5 w6 :=
  ⟨_, rfl, StIs.stored h, apart_setCells b _ 0 w5⟩
theorem cell_apart {X Y : World} {b g i : Nat} (h : Apart (fun k => k = b) X Y) (hg : g < X.heap.size) (hne : g ≠ b) : Y.cell? ⟨g, i, none⟩ = X.cell? ⟨g, i, none⟩ :=
  World.cell?_of_block (h.block g hg hne)

theorem plat_size : (Tryz.prog.info? 34).map (·.size) = some 2 := by kernel_rfl
/-- Two results that lie in cells, and one more. -/
theorem results_cells2 {P : Program} {fn : Func} {p q t : Tmp} {ty uy : TypeId} (h : fn.results = #[.cell p ty, .cell q uy, .tmp t]) (tmps : Array Value) (w : World) (a b : Addr) (v u : Value) (hp : tmps.getD p undef = .pointer (some a)) (hq : tmps.getD q undef = .pointer (some b))
    (hv : (loadVar ty a).run P w = .ok v w) (hu : (loadVar uy b).run P w = .ok u w) : (results fn tmps).run P w = .ok (.tuple #[v, u, tmps.getD t undef]) w := by
  have hp2 : tmps[p]?.getD undef = .pointer (some a) := by simpa using hp
  have hq2 : tmps[q]?.getD undef = .pointer (some b) := by simpa using hq
  simp only [results, h]
  simp [hp2, hq2, asAddr, hv, hu]

/-- What the loop holds when these parts have come. -/
def ReadI (W0 : World) (tb : Nat) (pre : List Part) (W : World) : Prop :=
  (∃ v, Boxed W tb 44 v ∧ Own W W0.heap.size v (joinL (pre.map (·.2))).1 (joinL (pre.map (·.2))).2 ∧ (joinL (pre.map (·.2))).1 ≤ 60 * pre.length) ∧ Apart (fun k => k = tb) W0 W
theorem own_cells {X Y : World} {base : Nat} {v : Value} {n : Nat} {f : Nat → Nat} (h : Own X base v n f) (hk : ∀ (g : Nat) (cs : Array Value) (t : TypeId) (fr : Nat × Nat), X.heap[g]? = some (.cells cs t fr) → Y.heap[g]? = X.heap[g]?) : Own Y base v n f := by
  refine ⟨h.1, ?_⟩
  rcases h.2 with h3 | ⟨g, cap, cur, e, hb, hg, rest⟩
  · exact .inl h3
  · exact .inr ⟨g, cap, cur, e, hb, (hk g _ _ _ hg).trans hg, rest⟩
theorem readI_own (W0 : World) (tb : Nat) : OwnFrom W0.heap.size (ReadI W0 tb) := by
  rintro s X Y row ⟨⟨v, hv, ho, hl⟩, ha⟩ hg hrow
  have hk : ∀ (g : Nat) (cs : Array Value) (t : TypeId) (fr : Nat × Nat), X.heap[g]? = some (.cells cs t fr) → Y.heap[g]? = X.heap[g]? := fun g cs t fr h => cells_kept hg (fun r e => (hrow r e).2) h
  refine ⟨⟨v, boxed_kept hv hk, own_cells ho hk, hl⟩, ?_⟩
  exact ⟨hg.os.trans ha.os, hg.tape.trans ha.tape, hg.output.trans ha.output, Nat.le_trans ha.size hg.size, fun k hlt hn => (hg.block k (Nat.lt_of_lt_of_le hlt ha.size) fun e => by have := (hrow k e.symm).1; omega).trans (ha.block k hlt hn)⟩
theorem partOk_own {B : Nat} : OwnFrom B PartOk := by
  rintro x X Y row ⟨h1, h60⟩ hg hrow
  refine ⟨?_, h60⟩
  obtain ⟨A, c, e, q1, q2, q3, q4⟩ := h1
  refine ⟨A, c, e, q1, q2, q3, q4.small, fun i hi => ?_⟩
  obtain ⟨ad, e1, hc⟩ := q4.cell i hi
  exact ⟨ad, e1, cell_kept hc hg fun r e => (hrow r e).2⟩

set_option maxRecDepth 100000 in
set_option maxHeartbeats 2000000 in
theorem read_most (v : Value) (N : Nat) (L : Nat → Nat) (F : Nat → Nat → Nat) (w : World) (hv : ReadsP w v (N + 1) L F) (hh : Header (L 0) (F 0)) (hc : F 0 10 = N) (hN : ∀ A c, v = .slice A (N + 1) c → c ≠ 1) (PS : (Nat → Nat) → (Nat → Nat) → (Nat → Value) → World → Prop)
    (hstate : ∀ k, Sound N (fun i => L (i + 1)) (fun i => F (i + 1)) k → ∀ W u, Below w.heap.size w W → w.heap.size + 2 ≤ W.heap.size → Reads W u (joinL ((List.range k).map (dpart fun i => F (i + 1)))).1 (joinL ((List.range k).map (dpart fun i => F (i + 1)))).2 →
      Calls Tryz.prog 82 #[u, .int .i64 (F 0 9 : Int)] W fun e w' => ∃ K S V, e = .returned (.agg (scells K S V).toArray) ∧ PS K S V w' ∧ (∀ i, i < 8 → (V i).oneCell' = true) ∧ Below W.heap.size W w')
    (hps : ∀ K S V W W', PS K S V W → Below w.heap.size w W → W.heap.size ≤ W'.heap.size → (∀ g o, g ≠ w.heap.size → W.heap[g]? = some o → (∀ x, o ≠ .deferred x) → W'.heap[g]? = some o) → PS K S V W') :
    Calls Tryz.prog 57 #[v] w fun e w' => ∃ K S V, e = .returned (.tuple #[.agg (scells K S V).toArray, .agg #[.int .i64 (F 0 8 : Int), .int .i64 (F 0 9 : Int)], .int .i64 (seqIn (F 0) : Int)]) ∧ PS K S V w' ∧ Below w.heap.size w w' := by
  obtain ⟨A, c, rfl, v1, v2, v3, v4⟩ := id hv
  obtain ⟨ad, u, rfl, hcu, hru⟩ := v4 0 (by omega)
  have hzs := zero_state
  have hzp := plat_zero
  have hcu' : w.cell? ad = some u := by simpa [Addr.add] using hcu
  have HCU := Lib.hid hcu'
  have HV := Lib.hid hv
  have RU := Lib.hid hru
  have HH := Lib.hid hh
  have HC := Lib.hid hc
  have N11 : Hid (N ≤ 11) := Lib.hid (by rw [← hc]; exact hh.2.2.2)
  have HST := Lib.hid hstate
  have HN := Lib.hid (hN _ _ rfl)
  obtain ⟨w1, hw1⟩ : ∃ w1, w1 = (w.alloc (.cells (scells z0 z0 zV).toArray 32)).alloc (.cells #[.int .i64 0, .int .i64 0] 34) := ⟨_, rfl⟩
  have B1 : Hid (Below w.heap.size w w1) := Lib.hid (by rw [hw1]; exact ((Below.refl _ w).alloc (Nat.le_refl _) _).alloc (by simp) _)
  have S1 : Hid (StIs w1 w.heap.size z0 z0 zV) := Lib.hid (by rw [hw1]; exact (st_new w z0 z0 zV).below ((Below.refl _ _).alloc (Nat.le_refl _) _))
  have P1 : Hid (RowIs w1 (w.heap.size + 1) 34 (fun _ => .int .i64 0) 2) := Lib.hid (by
    rw [hw1]
    have h := row_new (w.alloc (.cells (scells z0 z0 zV).toArray 32)) 34 (fun _ => .int .i64 0) 2 [.int .i64 0, .int .i64 0] rfl (fun i hi => by rcases (by omega : i = 0 ∨ i = 1) with rfl | rfl <;> rfl)
    rw [World.size_alloc] at h
    exact h)
  have hcu1 : ((w.alloc (.cells (scells z0 z0 zV).toArray 32)).alloc (.cells #[.int .i64 0, .int .i64 0] 34)).cell? ad = some u := by rw [← hw1]; exact cell_later B1.out hcu'
  clear hv v4 hcu hcu' hru hh hc hstate hN
  refine (callsIn_wide (n := 3)).1 ?_
  refine callsIn_of_wp_marks Tryz.func57 rfl trivial ?_ rfl
  simp only [Tryz.ntmps57, List.size_toArray, List.length_cons, List.length_nil, Nat.reduceAdd, Nat.reduceSub, Array.replicate_succ, Array.replicate_zero, List.push_toArray, List.append_toArray, List.nil_append, List.cons_append]
  refine wpIn_wide.2 ?_
  go_wp2_with fail
  rw [← hw1]
  clear hw1 hcu1
  with_reducible refine (count_any u (L 0) (F 0) w1 (RU.out.below B1.out)).mono ?_
  rintro e w2 ⟨⟨-, rfl⟩ | ⟨hno, rfl⟩, hb2⟩
  · have B2 := Lib.hid (B1.out.trans (hb2.mono B1.out.size))
    have S2 := Lib.hid (S1.out.below hb2)
    have P2 := Lib.hid (P1.out.below hb2)
    have hcu2 : w2.cell? ad = some u := cell_later B2.out HCU.out
    rw [HC.out]
    have hne : ((N : Int) != (N : Int)) = false := by simp
    clear hb2 S1 P1 B1
    go_wp2_with fail
    with_reducible refine (open_any u (L 0) (F 0) w2 (RU.out.below B2.out)).mono ?_
    rintro e w3 (⟨hs, hg⟩ | ⟨hs, x, hx, rfl, hb⟩)
    · have hsm : ∀ i, i < 60 → F 0 i < 256 := by
        obtain ⟨_, _, _, _, _, _, p⟩ := RU.out
        have := hs.1
        exact fun i hi => p.small i (by omega)
      obtain ⟨vb, rfl, hr, hb3⟩ := hg.reads hsm
      have B3 := Lib.hid (B2.out.trans (hb3.mono B2.out.size))
      have S3 := Lib.hid (S2.out.below hb3)
      have P3 := Lib.hid (P2.out.below hb3)
      obtain ⟨A3, c3, rfl, q1, q2, q3, q4⟩ := hr
      obtain ⟨bd, rfl⟩ := q4.addr (by omega)
      obtain ⟨s, es⟩ : ∃ s, s = F 0 8 := ⟨_, rfl⟩
      obtain ⟨b, eb⟩ : ∃ b, b = F 0 9 := ⟨_, rfl⟩
      have hs256 : s < 256 := by rw [es]; exact hsm 8 (by omega)
      have hb256 : b < 256 := by rw [eb]; exact hsm 9 (by omega)
      have x8 : w3.cell? ⟨bd.block, bd.off + 8, none⟩ = some (.int .u8 (s : Int)) := by rw [es]; exact q4.at_ (i := 8) (by omega)
      have x9 : w3.cell? ⟨bd.block, bd.off + 9, none⟩ = some (.int .u8 (b : Int)) := by rw [eb]; exact q4.at_ (i := 9) (by omega)
      have p0 := RowIs.cell P3.out (i := 0) (by omega)
      have p1 := RowIs.cell P3.out (i := 1) (by omega)
      have f0 := RowIs.free P3.out 0
      have f1 := RowIs.free P3.out 1
      have P4 : Hid (RowIs (w3.setCell ⟨w.heap.size + 1, 0, none⟩ (.int .i64 (s : Int))) (w.heap.size + 1) 34 (fun i => if i = 0 then .int .i64 (s : Int) else .int .i64 0) 2) := Lib.hid (P3.out.set_ (fun _ => by simp) (fun i _ hi => by simp [hi]))
      have P5 : Hid (RowIs ((w3.setCell ⟨w.heap.size + 1, 0, none⟩ (.int .i64 (s : Int))).setCell ⟨w.heap.size + 1, 1, none⟩ (.int .i64 (b : Int))) (w.heap.size + 1) 34 (fun i => if i = 0 then .int .i64 (s : Int) else .int .i64 (b : Int)) 2) := Lib.hid (P4.out.set_ (fun _ => by simp) (fun i hi hk => by rw [if_pos (show i = 0 by omega), if_pos (show i = 0 by omega)]))
      have p2 := RowIs.cell P4.out (i := 1) (by omega)
      have f2 := RowIs.free P4.out 1
      have ES := Lib.hid es
      have EB := Lib.hid eb
      clear hs hg hsm hb3 q4 hcu2 es eb S2 P2 B2
      have hmx : Tryz.prog.follows .mixedOrders = true := by kernel_rfl
      go_wp2
      go_region
      obtain ⟨w4, hw4⟩ : ∃ w4, w4 = ((w3.setCell ⟨w.heap.size + 1, 0, none⟩ (.int .i64 (s : Int))).setCell ⟨w.heap.size + 1, 1, none⟩ (.int .i64 (b : Int))).drew := ⟨_, rfl⟩
      have h34 : Apart (fun k => k = w.heap.size + 1) w3 w4 := by
        rw [hw4]
        exact (((Apart.refl (fun k => k = w.heap.size + 1) w3).setCell (p := ⟨w.heap.size + 1, 0, none⟩) (fun _ => rfl) _).setCell (p := ⟨w.heap.size + 1, 1, none⟩) (fun _ => rfl) _).drew
      have P6 : Hid (RowIs w4 (w.heap.size + 1) 34 (fun i => if i = 0 then .int .i64 (s : Int) else .int .i64 (b : Int)) 2) := Lib.hid (by rw [hw4]; exact P5.out)
      have S6 : Hid (StIs w4 w.heap.size z0 z0 zV) := Lib.hid (RowIs.apart S3.out h34 (by omega))
      have B6 : Hid (Below w.heap.size w w4) := Lib.hid (B3.out.trans (h34.below B3.out.size fun k hk e => by omega))
      rw [← hw4]
      clear hw4 h34 x8 x9 p0 p1 p2 f0 f1 f2 P3 P4 P5 S3 B3
      have hc1 : ¬ c = 1 := HN.out
      go_wp2_with fail
      refine (callsIn_wide.1 (partsOf_in Fence.wide 0 trivial rfl _ _ _ _)).mono ?_
      rintro e w' ⟨rfl, rfl⟩
      have bX := Boxed.new w4 44 (.slice none 0 0)
      obtain ⟨W0, hW0⟩ : ∃ W0, W0 = (w4.alloc (.cells #[.slice none 0 0] 44)).alloc (.cells #[.slice (some ⟨ad.block, ad.off + 1, none⟩) N (c - 1)] 22) := ⟨_, rfl⟩
      go_wp2_with fail
      have hW0s : W0.heap.size = w4.heap.size + 2 := by rw [hW0]; simp
      have bP : Boxed W0 (w4.heap.size + 1) 22 (.slice (some ⟨ad.block, ad.off + 1, none⟩) N (c - 1)) := by
        rw [hW0]
        have h := Boxed.new (w4.alloc (.cells #[.slice none 0 0] 44)) 22 (.slice (some ⟨ad.block, ad.off + 1, none⟩) N (c - 1))
        rw [World.size_alloc] at h
        exact h
      have bX0 : Boxed W0 w4.heap.size 44 (.slice none 0 0) := by rw [hW0]; exact bX.alloc _
      have hB0 : Below w4.heap.size w4 W0 := by rw [hW0]; exact ((Below.refl _ _).alloc (Nat.le_refl _) _).alloc (by simp) _
      have B0 := Lib.hid (B6.out.trans (hB0.mono B6.out.size))
      have S0 := Lib.hid (S6.out.below hB0)
      have P0 := Lib.hid (P6.out.below hB0)
      have PG : ReadsP w (.slice (some ⟨ad.block, ad.off + 1, none⟩) N (c - 1)) N (fun i => L (i + 1)) (fun i => F (i + 1)) := HV.out.tail (fun _ => ⟨rfl, rfl⟩) (fun h => absurd h hc1)
      have SW4 := Lib.hid B6.out.size
      have S6s := Lib.hid (RowIs.lt P6.out)
      rw [← hW0]
      clear hW0 hB0 bX P6 S6 B6
      refine (wpIn_wide (n := 3)).1 ?_
      refine wpIn_range_told (n := 3) rfl (by omega) (gf := 98) (lb := #[.pointer (some ⟨w4.heap.size + 1, 0, none⟩)]) rfl trivial (enters_of Tryz.func98 (by kernel_rfl) rfl)
        (partsOf_tells _ (by omega) (w4.heap.size + 1) _ N _ _ w W0 (by omega) bP.cell B0.out PG) (fun h k => h.trans k) (fun X l o o' hl h1 h2 h3 => belowK_b (w := W0) B0.out.size X l o o' hl h1 h2 h3) (fun _ => rfl) partOk_own
        (ReadI W0 w4.heap.size) (readI_own _ _) ⟨⟨_, bX0, own_none _ _ _, by simp [joinL]⟩, Apart.refl _ _⟩
        (fun x => { tmps := #[.slice (some ad) (N + 1) c, undef, .pointer (some ⟨w.heap.size, 0, none⟩), .pointer (some ⟨w.heap.size + 1, 0, none⟩), .int .i64 (seqIn (F 0) : Int), .int .i64 (N : Int), .int .i64 0, .slice (some bd) 60 c3, .int .i64 0, .pointer (some ⟨w4.heap.size, 0, none⟩), x.1, .slice (some ad) (N + 1) c, .int .i64 ((N : Int) + 1), .bool false, undef, undef, .tuple #[.int .i64 (N : Int), .int .i64 (seqIn (F 0) : Int), .int .i64 0], .slice (some ad) (N + 1) c, .pointer (some ad), u, .tuple #[.int .i64 (N : Int), .int .i64 (seqIn (F 0) : Int), .int .i64 0], .int .i64 (N : Int), .int .i64 (seqIn (F 0) : Int), .int .i64 0, .int .i64 0, .bool false, .bool false, .int .i64 (N : Int), .slice (some ad) (N + 1) c, .int .i64 ((N : Int) + 1), .int .i64 (N : Int), .bool false, .bool false, undef, undef, .tuple #[.slice (some bd) 60 c3, .int .i64 0], .slice (some ad) (N + 1) c, .pointer (some ad), u, .tuple #[.slice (some bd) 60 c3, .int .i64 0], .slice (some bd) 60 c3, .int .i64 0, .slice (some bd) 60 c3, .pointer (some ⟨bd.block, bd.off + 8, none⟩), .int .u8 (s : Int), .int .i64 (s : Int), .slice (some bd) 60 c3, .pointer (some ⟨bd.block, bd.off + 9, none⟩), .int .u8 (b : Int), .int .i64 (b : Int), .agg #[.int .i64 (s : Int), .int .i64 (b : Int)], .slice (some ad) (N + 1) c, .slice (some ⟨ad.block, ad.off + 1, none⟩) N (c - 1), .func (.func 98) #[] #[.pointer (some ⟨w4.heap.size + 1, 0, none⟩)], x.1, undef, undef, undef, undef, undef, undef, undef, undef, undef], defers := [] }) ?assign ?body ?done
      case assign =>
        intro l x W K hK
        gi_wp2
        exact hK
      case body =>
        rintro l pre ⟨xv, m, g⟩ W ⟨⟨v, hbx, ho, hlen⟩, hap⟩ hlt hok
        obtain ⟨⟨A1, d1, ev, r1, r2, r3, r4⟩, hm60⟩ := hok
        dsimp only at ev r1 r3 r4 hm60
        subst ev
        have cb := hbx.cell
        have sW : W0.heap.size ≤ W.heap.size := hap.size
        obtain ⟨v', W', r, o', -, gr⟩ := run_bytes (c := d1) 44 ho r4 r3 (by have := N11.out; omega) sW
        have nrow : ∀ k, v.ownBlock = some k → W0.heap.size ≤ k ∧ ∃ cs, W.heap[k]? = some (.cells cs 5 (0, 0)) := fun k hk => by
          rcases ho.2 with ⟨rfl, _⟩ | ⟨k', _, cur, rfl, hb', hg', _⟩
          · cases hk
          · obtain rfl : k' = k := by simpa [Value.ownBlock] using hk
            exact ⟨hb', cur, hg'⟩
        have bx2 : Boxed W' w4.heap.size 44 v := (gr.block _ hbx.lt fun e => by have := (nrow _ e.symm).1; omega).trans hbx
        have ap2 : Apart (fun k => k = w4.heap.size) W0 W' := ⟨gr.os.trans hap.os, gr.tape.trans hap.tape, gr.output.trans hap.output, Nat.le_trans hap.size gr.size, fun k hlt hn => (gr.block k (Nat.lt_of_lt_of_le hlt hap.size) fun e => by have := (nrow k e.symm).1; omega).trans (hap.block k hlt hn)⟩
        have ap3 : Apart (fun k => k = w4.heap.size) W0 (W'.setCell ⟨w4.heap.size, 0, none⟩ v') := ap2.setCell (p := ⟨w4.heap.size, 0, none⟩) (fun _ => rfl) v'
        have o3 : Own (W'.setCell ⟨w4.heap.size, 0, none⟩ v') W0.heap.size v' ((joinL (pre.map (·.2))).1 + m) (behind (joinL (pre.map (·.2))).2 (joinL (pre.map (·.2))).1 g) := by
          refine ⟨o'.1, o'.2.imp id fun ⟨k, cap, cur, e, hb, hg, rest⟩ => ⟨k, cap, cur, e, hb, ?_, rest⟩⟩
          rw [Below.heap_setCell _ _ _ _ (fun e => by have : k = w4.heap.size := e; omega)]
          exact hg
        have bx3 := bx2.set v'
        have c2 := bx2.cell
        have f2 := bx2.frozen
        have fm : v' = .slice none 0 0 ∨ ∃ k cap, v' = .slice (some ⟨k, 0, none⟩) ((joinL (pre.map (·.2))).1 + m) cap := by
          rcases o'.2 with ⟨rfl, _⟩ | ⟨k, cap, cur, rfl, _⟩
          · exact .inl rfl
          · exact .inr ⟨k, cap, rfl⟩
        have kf : KeepsFrom W0.heap.size W (W'.setCell ⟨w4.heap.size, 0, none⟩ v') := by
          refine ((KeepsOthers.of_grownBy gr fun j o ej hj => ?_).from _).trans ((KeepsOthers.setCell _ _ _).from _)
          obtain ⟨cs, hcs⟩ := (nrow j ej).2
          rw [hcs] at hj
          cases hj
          rfl
        have bw : Below w.heap.size W (W'.setCell ⟨w4.heap.size, 0, none⟩ v') := by
          have h1 : Below w.heap.size W W' := (Below.refl _ _).grown gr (by have := B0.out.size; omega) fun k hk => by have := (nrow k hk).1; have := B0.out.size; omega
          exact h1.setCell (p := ⟨w4.heap.size, 0, none⟩) (by have := SW4.out; show w.heap.size ≤ w4.heap.size; omega) v'
        have R := Lib.hid r
        have FIN : Hid (Stays W0.heap.size (Below w.heap.size) (ReadI W0 w4.heap.size) (pre ++ [((.slice A1 m d1, m, g) : Part)]) W .normal { tmps := #[], defers := [] } (W'.setCell ⟨w4.heap.size, 0, none⟩ v')) := Lib.hid ⟨kf, bw, ⟨v', bx3, by rw [List.map_append, List.map_cons, List.map_nil, joinL_snoc]; exact o3, by rw [List.map_append, List.map_cons, List.map_nil, joinL_snoc, List.length_append]; show _ + m ≤ 60 * (_ + 1); omega⟩, ap3⟩
        clear r o' gr nrow bx2 ap2 ap3 o3 bx3 kf bw ho hlen hap r4 hlt
        rcases fm with rfl | ⟨k, cap, rfl⟩
        all_goals (
          gi_wp2_with (gi_at_builtin; refine wpListIn_append_run _ rfl (.tmp 55) (.tmp 56) _ _ rfl _ _ rfl rfl _ _ R.out ?_)
          exact FIN.out)
      case done =>
        rintro D xs W hD ⟨k, hk, hxs⟩ ⟨⟨v, hbx, ho, hlen⟩, hap⟩ hK
        rw [hxs] at ho
        have hsmall : ∀ i, i < (joinL ((List.range k).map (dpart fun i => F (i + 1)))).1 → (joinL ((List.range k).map (dpart fun i => F (i + 1)))).2 i < 256 := by
          refine joinL_small _ fun x hx j hj => ?_
          obtain ⟨i, hi, rfl⟩ := List.mem_map.1 hx
          have hik : i < k := by simpa using hi
          have hlt : j < dlen (F (i + 1)) := hj
          obtain ⟨_, _, _, _, _, _, q⟩ := PG
          obtain ⟨_, _, _, _, _, _, _, _, _, _, q5⟩ := q i (by have := hk.1; omega)
          have h64 := (hk.2.1 i hik).1
          exact q5.small (6 + j) (by have : j < dlen (F (i + 1)) := hlt; unfold dlen at this; omega)
        have RV := Lib.hid (ho.reads hsmall)
        obtain ⟨tn, tf, htn⟩ : ∃ tn tf, joinL ((List.range k).map (dpart fun i => F (i + 1))) = (tn, tf) := ⟨_, _, rfl⟩
        have HT := Lib.hid (HST.out k hk)
        rw [htn] at RV HT
        have sB : W0.heap.size ≤ W.heap.size := hap.size
        have BW : Hid (Below w.heap.size w W) := Lib.hid (B0.out.trans (hap.below B0.out.size fun i hi e => by have := SW4.out; omega))
        have SW : Hid (StIs W w.heap.size z0 z0 zV) := Lib.hid (RowIs.apart S0.out hap (fun e => by have := S6s.out; omega))
        have PW : Hid (RowIs W (w.heap.size + 1) 34 (fun i => if i = 0 then .int .i64 (s : Int) else .int .i64 (b : Int)) 2) := Lib.hid (RowIs.apart P0.out hap (fun e => by have := S6s.out; omega))
        have cb := hbx.cell
        have p0 := RowIs.cell PW.out (i := 0) (by omega)
        have p1 := RowIs.cell PW.out (i := 1) (by omega)
        rename_i K hKk
        refine hKk _ _ ?_
        go_wp2
        refine wp_region_noPanic ?_
        refine wp_region_held_drew (S := fun w' => w'.cell? ⟨w4.heap.size, 0, none⟩ = some v ∧ w'.cell? ⟨w.heap.size + 1, 0, none⟩ = some (.int .i64 (s : Int)) ∧ w'.cell? ⟨w.heap.size + 1, 1, none⟩ = some (.int .i64 (b : Int))) (by kernel_rfl) ⟨cb, p0, p1⟩ (fun hH => ?_)
        refine wpAnyH_take (i := 0) (v := v) rfl (by kernel_rfl) (by kernel_rfl) (by kernel_rfl) (fun _ _ _ h => h) (Or.inl ⟨by rfl, fun w' hS => by have s1 := hS.1; go_simp⟩) hH ?_
        simp only [Act.put, List.setIfInBounds_toArray]
        refine wpAnyH_take (i := 1) (v := .pointer (some ⟨w.heap.size + 1, 1, none⟩)) rfl (by kernel_rfl) (by kernel_rfl) (by kernel_rfl) (fun _ _ _ h => h) (Or.inl ⟨by rfl, fun w' hS => by go_simp⟩) hH ?_
        simp only [Act.put]
        refine wpAnyH_take (i := 2) (v := .int .i64 (b : Int)) rfl (by kernel_rfl) (by kernel_rfl) (by kernel_rfl) (fun _ _ _ h => h) (Or.inl ⟨by rfl, fun w' hS => by have s1 := hS.2.2; go_simp⟩) hH ?_
        simp only [Act.put]
        refine wpAnyH_take (i := 4) (v := .agg #[.int .i64 (s : Int), .int .i64 (b : Int)]) rfl (by kernel_rfl) (by kernel_rfl) (by kernel_rfl) (fun _ _ _ h => h) (Or.inl ⟨by rfl, fun w' hS => by have s1 := hS.2.1; have s2 := hS.2.2; go_simp⟩) hH ?_
        simp only [Act.put]
        refine wpAnyH_take (i := 5) (v := .int .i64 (seqIn (F 0) : Int)) rfl (by kernel_rfl) (by kernel_rfl) (by kernel_rfl) (fun _ _ _ h => h) (Or.inl ⟨by rfl, fun w' hS => by go_simp⟩) hH ?_
        simp only [Act.put]
        refine wpAnyH_ready (rs := [3]) (by kernel_rfl) (by simp) ?_
        refine AllReadyH.cons rfl (fun K_ hK_ => ?_) AllReadyH.nil
        go_simp
        rw [← EB.out] at HT
        have DW : Below W.heap.size W W.drew := (Below.refl _ _).drew
        refine (HT.out W.drew v (BW.out.trans (DW.mono BW.out.size)) (by have := sB; have := SW4.out; show _ ≤ W.heap.size; omega) (RV.out.below DW)).mono ?_
        rintro e w5 ⟨K', S', V', rfl, hps5, hV1, hb5⟩
        have HP5 := Lib.hid hps5
        have HV1 := Lib.hid hV1
        have B5w : Hid (Below W.heap.size W w5) := Lib.hid (DW.trans hb5)
        have ST5 := Lib.hid (SW.out.below B5w.out)
        have PL5 := Lib.hid (RowIs.below PW.out B5w.out)
        have BW5 := Lib.hid (BW.out.trans (B5w.out.mono BW.out.size))
        have hK5 : w5.heap[D]? = some (.deferred (some [])) := (B5w.out.block D (Array.getElem?_eq_some_iff.1 hK).1).trans hK
        have HK5 := Lib.hid hK5
        have b5 := cell_later B5w.out cb
        refine hK_.out _ _ ⟨b5, RowIs.cell PL5.out (i := 0) (by omega), RowIs.cell PL5.out (i := 1) (by omega)⟩ (fun hH => ?_)
        clear hK_ K_
        have RT : w5.there w.heap.size 0 (scells K' S' V').toArray.size := StIs.there_ ST5.out
        obtain ⟨w6, hw6, st6, a6⟩ := store_state (K' := K') (S' := S') (V' := V') ST5.out
        have ST6 := Lib.hid st6
        have PL6 := Lib.hid (RowIs.apart PL5.out a6 (by omega))
        have b6 : w6.cell? ⟨w4.heap.size, 0, none⟩ = some v := (cell_apart a6 (by have := sB; have := B5w.out.size; omega) (by have := S6s.out; omega)).trans b5
        have HK6 : Hid (w6.heap[D]? = some (.deferred (some []))) := Lib.hid ((a6.block D (Array.getElem?_eq_some_iff.1 HK5.out).1 (fun e => by have := SW4.out; omega)).trans HK5.out)
        have B6w : Hid (Below w.heap.size w w6) := Lib.hid (BW5.out.trans (a6.below BW5.out.size fun i hi e => by omega))
        have HPS6 : Hid (PS K' S' V' w6) := Lib.hid (hps _ _ _ _ _ HP5.out BW5.out a6.size fun g o hg ho _ => (a6.block g (Array.getElem?_eq_some_iff.1 ho).1 hg).trans ho)
        clear a6 st6
        refine wpAnyH_ready (rs := [6]) (by kernel_rfl) (by simp) ?_
        refine AllReadyH.cons rfl (fun K_ hK_ => ?_) AllReadyH.nil
        rw [if_pos (by rfl)]
        refine wp_store_mid 32 (.tmp 2) (.tmp 61) rfl w.heap.size 0 (scells K' S' V').toArray rfl rfl RT (state_len' _ _ _) (scells_one HV1.out) ?_
        rw [show (scells K' S' V').toArray.toList = scells K' S' V' from rfl, ← hw6]
        clear hw6
        refine hK_.out _ _ ⟨b6, RowIs.cell PL6.out (i := 0) (by omega), RowIs.cell PL6.out (i := 1) (by omega)⟩ (fun hH => ?_)
        clear hK_ K_
        simp only [Act.put]
        clear RT b5 HV1
        have p0 := RowIs.cell PL6.out (i := 0) (by omega)
        have p1 := RowIs.cell PL6.out (i := 1) (by omega)
        have f0 := RowIs.free PL6.out 0
        have f1 := RowIs.free PL6.out 1
        have s0 : w6.setCell ⟨w.heap.size + 1, 0, none⟩ (.int .i64 (s : Int)) = w6 := RowIs.still PL6.out (by omega) (by rfl)
        have s1 : w6.setCell ⟨w.heap.size + 1, 1, none⟩ (.int .i64 (b : Int)) = w6 := RowIs.still PL6.out (by omega) (by rfl)
        refine wpAnyH_ready (rs := [7]) (by kernel_rfl) (by simp) ?_
        refine AllReadyH.cons rfl (fun K_ hK_ => ?_) AllReadyH.nil
        go_simp
        refine hK_.out _ _ hH (fun hH => ?_)
        clear hK_ K_
        refine wpAnyH_ready (rs := [8]) (by kernel_rfl) (by simp) ?_
        refine AllReadyH.cons rfl (fun K_ hK_ => ?_) AllReadyH.nil
        go_simp
        refine hK_.out _ _ hH (fun hH => ?_)
        clear hK_ K_ hH s0 s1 f0 f1 p0 p1
        refine wpAnyH_done (by kernel_rfl) ?_ _
        refine NoPanic.normal ?_
        have HK7 := Lib.hid (run_takeDeferred (P := Tryz.prog) HK6.out)
        have b7 : Below w.heap.size w (w6.putObj D (.deferred none)) := B6w.out.trans (belowK_b (w := W0) B0.out.size _ D _ _ hD HK6.out rfl rfl)
        have st7 : StIs (w6.putObj D (.deferred none)) w.heap.size K' S' V' := (World.putObj_heap_other (by have := SW4.out; omega)).trans ST6.out
        have pl7 : RowIs (w6.putObj D (.deferred none)) (w.heap.size + 1) 34 (fun i => if i = 0 then .int .i64 (s : Int) else .int .i64 (b : Int)) 2 := (World.putObj_heap_other (by have := S6s.out; omega)).trans PL6.out
        have l1 : (loadVar 32 ⟨w.heap.size, 0, none⟩).run Tryz.prog (w6.putObj D (.deferred none)) = .ok (.agg (scells K' S' V').toArray) (w6.putObj D (.deferred none)) := run_loadVar_mid _ _ _ _ (scells K' S' V') _ (StIs.whole st7) Tryz.underlying32 rfl (state_len _ _ _)
        have l2 : (loadVar 34 ⟨w.heap.size + 1, 0, none⟩).run Tryz.prog (w6.putObj D (.deferred none)) = .ok (.agg #[.int .i64 (s : Int), .int .i64 (b : Int)]) (w6.putObj D (.deferred none)) := run_loadVar_mid _ _ _ _ [.int .i64 (s : Int), .int .i64 (b : Int)] _ (RowIs.range pl7 (by simp) (fun j hj => by
          have : j = 0 ∨ j = 1 := by simp at hj; omega
          rcases this with rfl | rfl <;> rfl)) Tryz.underlying34 rfl plat_size
        have L1 := Lib.hid l1
        have L2 := Lib.hid l2
        have B7 := Lib.hid b7
        have HPS7 : Hid (PS K' S' V' (w6.putObj D (.deferred none))) := Lib.hid (hps _ _ _ _ _ HPS6.out B6w.out (by simp) fun g o hg ho hd => (World.putObj_heap_other (fun e => by subst e; rw [HK6.out] at ho; exact hd _ (Option.some.inj ho).symm)).trans ho)
        clear b7 st7 pl7 l1 l2
        go_wp2
        refine ⟨by simp, .inl ⟨_, _, rfl, HK7.out, ?_⟩⟩
        refine ⟨_, results_cells2 (fn := Tryz.f57) rfl _ _ ⟨w.heap.size, 0, none⟩ ⟨w.heap.size + 1, 0, none⟩ _ _ rfl rfl L1.out L2.out, K', S', V', ?_, HPS7.out, B7.out⟩
        rw [← ES.out, ← EB.out]
        rfl
    · exact absurd HH.out.1 hs
  · exact absurd HH.out hno

theorem read_good (v : Value) (N : Nat) (L : Nat → Nat) (F : Nat → Nat → Nat) (w : World) (hv : ReadsP w v (N + 1) L F) (hh : Header (L 0) (F 0)) (hc : F 0 10 = N) (hN : 1 ≤ N) (PS : (Nat → Nat) → (Nat → Nat) → (Nat → Value) → World → Prop)
    (hstate : ∀ k, Sound N (fun i => L (i + 1)) (fun i => F (i + 1)) k → ∀ W u, Below w.heap.size w W → w.heap.size + 2 ≤ W.heap.size → Reads W u (joinL ((List.range k).map (dpart fun i => F (i + 1)))).1 (joinL ((List.range k).map (dpart fun i => F (i + 1)))).2 →
      Calls Tryz.prog 82 #[u, .int .i64 (F 0 9 : Int)] W fun e w' => ∃ K S V, e = .returned (.agg (scells K S V).toArray) ∧ PS K S V w' ∧ (∀ i, i < 8 → (V i).oneCell' = true) ∧ Below W.heap.size W w')
    (hps : ∀ K S V W W', PS K S V W → Below w.heap.size w W → W.heap.size ≤ W'.heap.size → (∀ g o, g ≠ w.heap.size → W.heap[g]? = some o → (∀ x, o ≠ .deferred x) → W'.heap[g]? = some o) → PS K S V W') :
    Calls Tryz.prog 57 #[v] w fun e w' => ∃ K S V, e = .returned (.tuple #[.agg (scells K S V).toArray, .agg #[.int .i64 (F 0 8 : Int), .int .i64 (F 0 9 : Int)], .int .i64 (seqIn (F 0) : Int)]) ∧ PS K S V w' ∧ Below w.heap.size w w' :=
  read_most v N L F w hv hh hc (fun A c e h1 => by
    obtain ⟨A', c', e', q, _⟩ := hv
    rw [e] at e'
    injection e' with e1 e2 e3
    omega) PS hstate hps
end Go.Proofs.YtdocclkphffpkaaGreat

namespace Go.Proofs.YtdocclkphffpkaaGreat
open Go.RowKit Go.Shelf

attribute [local go_sem] Oper.semAt_some

set_option maxRecDepth 100000 in
set_option maxHeartbeats 1000000 in
theorem read_lone (v : Value) (L : Nat → Nat) (F : Nat → Nat → Nat) (w : World) (hv : ReadsP w v 1 L F) (hh : Header (L 0) (F 0)) (hc : F 0 10 = 0) (hN : ∃ A, v = .slice A 1 1) (PS : (Nat → Nat) → (Nat → Nat) → (Nat → Value) → World → Prop)
    (hstate : ∀ k, Sound 0 (fun i => L (i + 1)) (fun i => F (i + 1)) k → ∀ W u, Below w.heap.size w W → w.heap.size + 2 ≤ W.heap.size → Reads W u (joinL ((List.range k).map (dpart fun i => F (i + 1)))).1 (joinL ((List.range k).map (dpart fun i => F (i + 1)))).2 →
      Calls Tryz.prog 82 #[u, .int .i64 (F 0 9 : Int)] W fun e w' => ∃ K S V, e = .returned (.agg (scells K S V).toArray) ∧ PS K S V w' ∧ (∀ i, i < 8 → (V i).oneCell' = true) ∧ Below W.heap.size W w')
    (hps : ∀ K S V W W', PS K S V W → Below w.heap.size w W → W.heap.size ≤ W'.heap.size → (∀ g o, g ≠ w.heap.size → W.heap[g]? = some o → (∀ x, o ≠ .deferred x) → W'.heap[g]? = some o) → PS K S V W') :
    Calls Tryz.prog 57 #[v] w fun e w' => ∃ K S V, e = .returned (.tuple #[.agg (scells K S V).toArray, .agg #[.int .i64 (F 0 8 : Int), .int .i64 (F 0 9 : Int)], .int .i64 (seqIn (F 0) : Int)]) ∧ PS K S V w' ∧ Below w.heap.size w w' := by
  obtain ⟨A, rfl⟩ := hN
  obtain ⟨ad, u, rfl, hcu, hru⟩ := hv.page_at (show 0 < 1 by omega)
  have hzs := zero_state
  have hzp := plat_zero
  have hcu' : w.cell? ad = some u := by simpa [Addr.add] using hcu
  have HCU := Lib.hid hcu'
  have HV := Lib.hid hv
  have RU := Lib.hid hru
  have HH := Lib.hid hh
  have HC := Lib.hid hc
  have HST := Lib.hid hstate
  obtain ⟨w1, hw1⟩ : ∃ w1, w1 = (w.alloc (.cells (scells z0 z0 zV).toArray 32)).alloc (.cells #[.int .i64 0, .int .i64 0] 34) := ⟨_, rfl⟩
  have B1 : Hid (Below w.heap.size w w1) := Lib.hid (by rw [hw1]; exact ((Below.refl _ w).alloc (Nat.le_refl _) _).alloc (by simp) _)
  have S1 : Hid (StIs w1 w.heap.size z0 z0 zV) := Lib.hid (by rw [hw1]; exact (st_new w z0 z0 zV).below ((Below.refl _ _).alloc (Nat.le_refl _) _))
  have P1 : Hid (RowIs w1 (w.heap.size + 1) 34 (fun _ => .int .i64 0) 2) := Lib.hid (by
    rw [hw1]
    have h := row_new (w.alloc (.cells (scells z0 z0 zV).toArray 32)) 34 (fun _ => .int .i64 0) 2 [.int .i64 0, .int .i64 0] rfl (fun i hi => by rcases (by omega : i = 0 ∨ i = 1) with rfl | rfl <;> rfl)
    rw [World.size_alloc] at h
    exact h)
  have hcu1 : ((w.alloc (.cells (scells z0 z0 zV).toArray 32)).alloc (.cells #[.int .i64 0, .int .i64 0] 34)).cell? ad = some u := by rw [← hw1]; exact cell_later B1.out hcu'
  clear hv hcu hcu' hru hh hc hstate
  refine (callsIn_wide (n := 3)).1 ?_
  refine callsIn_of_wp_marks Tryz.func57 rfl trivial ?_ rfl
  simp only [Tryz.ntmps57, List.size_toArray, List.length_cons, List.length_nil, Nat.reduceAdd, Nat.reduceSub, Array.replicate_succ, Array.replicate_zero, List.push_toArray, List.append_toArray, List.nil_append, List.cons_append]
  refine wpIn_wide.2 ?_
  go_wp2_with fail
  rw [← hw1]
  clear hw1 hcu1
  with_reducible refine (count_any u (L 0) (F 0) w1 (RU.out.below B1.out)).mono ?_
  rintro e w2 ⟨⟨-, rfl⟩ | ⟨hno, rfl⟩, hb2⟩
  · have B2 := Lib.hid (B1.out.trans (hb2.mono B1.out.size))
    have S2 := Lib.hid (S1.out.below hb2)
    have P2 := Lib.hid (P1.out.below hb2)
    have hcu2 : w2.cell? ad = some u := cell_later B2.out HCU.out
    rw [HC.out]
    clear hb2 S1 P1 B1
    go_wp2_with fail
    with_reducible refine (open_any u (L 0) (F 0) w2 (RU.out.below B2.out)).mono ?_
    rintro e w3 (⟨hs, hg⟩ | ⟨hs, x, hx, rfl, hb⟩)
    · have hsm : ∀ i, i < 60 → F 0 i < 256 := by
        obtain ⟨_, _, _, _, _, _, p⟩ := RU.out
        have := hs.1
        exact fun i hi => p.small i (by omega)
      obtain ⟨vb, rfl, hr, hb3⟩ := hg.reads hsm
      have B3 := Lib.hid (B2.out.trans (hb3.mono B2.out.size))
      have S3 := Lib.hid (S2.out.below hb3)
      have P3 := Lib.hid (P2.out.below hb3)
      obtain ⟨A3, c3, rfl, q1, q2, q3, q4⟩ := hr
      obtain ⟨bd, rfl⟩ := q4.addr (by omega)
      obtain ⟨s, es⟩ : ∃ s, s = F 0 8 := ⟨_, rfl⟩
      obtain ⟨b, eb⟩ : ∃ b, b = F 0 9 := ⟨_, rfl⟩
      have hs256 : s < 256 := by rw [es]; exact hsm 8 (by omega)
      have hb256 : b < 256 := by rw [eb]; exact hsm 9 (by omega)
      have x8 : w3.cell? ⟨bd.block, bd.off + 8, none⟩ = some (.int .u8 (s : Int)) := by rw [es]; exact q4.at_ (i := 8) (by omega)
      have x9 : w3.cell? ⟨bd.block, bd.off + 9, none⟩ = some (.int .u8 (b : Int)) := by rw [eb]; exact q4.at_ (i := 9) (by omega)
      have p0 := RowIs.cell P3.out (i := 0) (by omega)
      have p1 := RowIs.cell P3.out (i := 1) (by omega)
      have f0 := RowIs.free P3.out 0
      have f1 := RowIs.free P3.out 1
      have P4 : Hid (RowIs (w3.setCell ⟨w.heap.size + 1, 0, none⟩ (.int .i64 (s : Int))) (w.heap.size + 1) 34 (fun i => if i = 0 then .int .i64 (s : Int) else .int .i64 0) 2) := Lib.hid (P3.out.set_ (fun _ => by simp) (fun i _ hi => by simp [hi]))
      have P5 : Hid (RowIs ((w3.setCell ⟨w.heap.size + 1, 0, none⟩ (.int .i64 (s : Int))).setCell ⟨w.heap.size + 1, 1, none⟩ (.int .i64 (b : Int))) (w.heap.size + 1) 34 (fun i => if i = 0 then .int .i64 (s : Int) else .int .i64 (b : Int)) 2) := Lib.hid (P4.out.set_ (fun _ => by simp) (fun i hi hk => by rw [if_pos (show i = 0 by omega), if_pos (show i = 0 by omega)]))
      have p2 := RowIs.cell P4.out (i := 1) (by omega)
      have f2 := RowIs.free P4.out 1
      have ES := Lib.hid es
      have EB := Lib.hid eb
      clear hs hg hsm hb3 q4 hcu2 es eb S2 P2 B2
      have hmx : Tryz.prog.follows .mixedOrders = true := by kernel_rfl
      go_wp2
      go_region
      obtain ⟨w4, hw4⟩ : ∃ w4, w4 = ((w3.setCell ⟨w.heap.size + 1, 0, none⟩ (.int .i64 (s : Int))).setCell ⟨w.heap.size + 1, 1, none⟩ (.int .i64 (b : Int))).drew := ⟨_, rfl⟩
      have h34 : Apart (fun k => k = w.heap.size + 1) w3 w4 := by
        rw [hw4]
        exact (((Apart.refl (fun k => k = w.heap.size + 1) w3).setCell (p := ⟨w.heap.size + 1, 0, none⟩) (fun _ => rfl) _).setCell (p := ⟨w.heap.size + 1, 1, none⟩) (fun _ => rfl) _).drew
      have P6 : Hid (RowIs w4 (w.heap.size + 1) 34 (fun i => if i = 0 then .int .i64 (s : Int) else .int .i64 (b : Int)) 2) := Lib.hid (by rw [hw4]; exact P5.out)
      have S6 : Hid (StIs w4 w.heap.size z0 z0 zV) := Lib.hid (RowIs.apart S3.out h34 (by omega))
      have B6 : Hid (Below w.heap.size w w4) := Lib.hid (B3.out.trans (h34.below B3.out.size fun k hk e => by omega))
      rw [← hw4]
      clear hw4 h34 x8 x9 p0 p1 p2 f0 f1 f2 P3 P4 P5 S3 B3
      go_wp2_with fail
      refine (callsIn_wide.1 (partsOf_in Fence.wide 0 trivial rfl _ _ _ _)).mono ?_
      rintro e w' ⟨rfl, rfl⟩
      have bX := Boxed.new w4 44 (.slice none 0 0)
      obtain ⟨W0, hW0⟩ : ∃ W0, W0 = (w4.alloc (.cells #[.slice none 0 0] 44)).alloc (.cells #[.slice (some ad) 0 0] 22) := ⟨_, rfl⟩
      go_wp2_with fail
      have hW0s : W0.heap.size = w4.heap.size + 2 := by rw [hW0]; simp
      have bP : Boxed W0 (w4.heap.size + 1) 22 (.slice (some ad) 0 0) := by
        rw [hW0]
        have h := Boxed.new (w4.alloc (.cells #[.slice none 0 0] 44)) 22 (.slice (some ad) 0 0)
        rw [World.size_alloc] at h
        exact h
      have bX0 : Boxed W0 w4.heap.size 44 (.slice none 0 0) := by rw [hW0]; exact bX.alloc _
      have hB0 : Below w4.heap.size w4 W0 := by rw [hW0]; exact ((Below.refl _ _).alloc (Nat.le_refl _) _).alloc (by simp) _
      have B0 := Lib.hid (B6.out.trans (hB0.mono B6.out.size))
      have S0 := Lib.hid (S6.out.below hB0)
      have P0 := Lib.hid (P6.out.below hB0)
      have PG : ReadsP w (.slice (some ad) 0 0) 0 (fun i => L (i + 1)) (fun i => F (i + 1)) := ⟨_, _, rfl, Nat.le_refl _, by omega, (fun _ => rfl), fun i hi => absurd hi (by omega)⟩
      have SW4 := Lib.hid B6.out.size
      have S6s := Lib.hid (RowIs.lt P6.out)
      rw [← hW0]
      clear hW0 hB0 bX P6 S6 B6
      refine (wpIn_wide (n := 3)).1 ?_
      refine wpIn_range_told (n := 3) rfl (by omega) (gf := 98) (lb := #[.pointer (some ⟨w4.heap.size + 1, 0, none⟩)]) rfl trivial (enters_of Tryz.func98 (by kernel_rfl) rfl)
        (partsOf_tells _ (by omega) (w4.heap.size + 1) _ 0 _ _ w W0 (by omega) bP.cell B0.out PG) (fun h k => h.trans k) (fun X l o o' hl h1 h2 h3 => belowK_b (w := W0) B0.out.size X l o o' hl h1 h2 h3) (fun _ => rfl) partOk_own
        (ReadI W0 w4.heap.size) (readI_own _ _) ⟨⟨_, bX0, own_none _ _ _, by simp [joinL]⟩, Apart.refl _ _⟩
        (fun x => { tmps := #[.slice (some ad) 1 1, undef, .pointer (some ⟨w.heap.size, 0, none⟩), .pointer (some ⟨w.heap.size + 1, 0, none⟩), .int .i64 (seqIn (F 0) : Int), .int .i64 0, .int .i64 0, .slice (some bd) 60 c3, .int .i64 0, .pointer (some ⟨w4.heap.size, 0, none⟩), x.1, .slice (some ad) 1 1, .int .i64 1, .bool false, undef, undef, .tuple #[.int .i64 0, .int .i64 (seqIn (F 0) : Int), .int .i64 0], .slice (some ad) 1 1, .pointer (some ad), u, .tuple #[.int .i64 0, .int .i64 (seqIn (F 0) : Int), .int .i64 0], .int .i64 0, .int .i64 (seqIn (F 0) : Int), .int .i64 0, .int .i64 0, .bool false, .bool false, .int .i64 0, .slice (some ad) 1 1, .int .i64 1, .int .i64 0, .bool false, .bool false, undef, undef, .tuple #[.slice (some bd) 60 c3, .int .i64 0], .slice (some ad) 1 1, .pointer (some ad), u, .tuple #[.slice (some bd) 60 c3, .int .i64 0], .slice (some bd) 60 c3, .int .i64 0, .slice (some bd) 60 c3, .pointer (some ⟨bd.block, bd.off + 8, none⟩), .int .u8 (s : Int), .int .i64 (s : Int), .slice (some bd) 60 c3, .pointer (some ⟨bd.block, bd.off + 9, none⟩), .int .u8 (b : Int), .int .i64 (b : Int), .agg #[.int .i64 (s : Int), .int .i64 (b : Int)], .slice (some ad) 1 1, .slice (some ad) 0 0, .func (.func 98) #[] #[.pointer (some ⟨w4.heap.size + 1, 0, none⟩)], x.1, undef, undef, undef, undef, undef, undef, undef, undef, undef], defers := [] }) ?assign ?body ?done
      case assign =>
        intro l x W K hK
        gi_wp2
        exact hK
      case body =>
        rintro l pre x W hI hlt hok
        exact absurd hlt (Nat.not_lt_zero _)
      case done =>
        rintro D xs W hD ⟨k, hk, hxs⟩ ⟨⟨v, hbx, ho, hlen⟩, hap⟩ hK
        rw [hxs] at ho
        have hsmall : ∀ i, i < (joinL ((List.range k).map (dpart fun i => F (i + 1)))).1 → (joinL ((List.range k).map (dpart fun i => F (i + 1)))).2 i < 256 := by
          refine joinL_small _ fun x hx j hj => ?_
          obtain ⟨i, hi, rfl⟩ := List.mem_map.1 hx
          have hik : i < k := by simpa using hi
          have hlt : j < dlen (F (i + 1)) := hj
          obtain ⟨_, _, _, _, _, _, q⟩ := PG
          obtain ⟨_, _, _, _, _, _, _, _, _, _, q5⟩ := q i (by have := hk.1; omega)
          have h64 := (hk.2.1 i hik).1
          exact q5.small (6 + j) (by have : j < dlen (F (i + 1)) := hlt; unfold dlen at this; omega)
        have RV := Lib.hid (ho.reads hsmall)
        obtain ⟨tn, tf, htn⟩ : ∃ tn tf, joinL ((List.range k).map (dpart fun i => F (i + 1))) = (tn, tf) := ⟨_, _, rfl⟩
        have HT := Lib.hid (HST.out k hk)
        rw [htn] at RV HT
        have sB : W0.heap.size ≤ W.heap.size := hap.size
        have BW : Hid (Below w.heap.size w W) := Lib.hid (B0.out.trans (hap.below B0.out.size fun i hi e => by have := SW4.out; omega))
        have SW : Hid (StIs W w.heap.size z0 z0 zV) := Lib.hid (RowIs.apart S0.out hap (fun e => by have := S6s.out; omega))
        have PW : Hid (RowIs W (w.heap.size + 1) 34 (fun i => if i = 0 then .int .i64 (s : Int) else .int .i64 (b : Int)) 2) := Lib.hid (RowIs.apart P0.out hap (fun e => by have := S6s.out; omega))
        have cb := hbx.cell
        have p0 := RowIs.cell PW.out (i := 0) (by omega)
        have p1 := RowIs.cell PW.out (i := 1) (by omega)
        rename_i K hKk
        refine hKk _ _ ?_
        go_wp2
        refine wp_region_noPanic ?_
        refine wp_region_held_drew (S := fun w' => w'.cell? ⟨w4.heap.size, 0, none⟩ = some v ∧ w'.cell? ⟨w.heap.size + 1, 0, none⟩ = some (.int .i64 (s : Int)) ∧ w'.cell? ⟨w.heap.size + 1, 1, none⟩ = some (.int .i64 (b : Int))) (by kernel_rfl) ⟨cb, p0, p1⟩ (fun hH => ?_)
        refine wpAnyH_take (i := 0) (v := v) rfl (by kernel_rfl) (by kernel_rfl) (by kernel_rfl) (fun _ _ _ h => h) (Or.inl ⟨by rfl, fun w' hS => by have s1 := hS.1; go_simp⟩) hH ?_
        simp only [Act.put, List.setIfInBounds_toArray]
        refine wpAnyH_take (i := 1) (v := .pointer (some ⟨w.heap.size + 1, 1, none⟩)) rfl (by kernel_rfl) (by kernel_rfl) (by kernel_rfl) (fun _ _ _ h => h) (Or.inl ⟨by rfl, fun w' hS => by go_simp⟩) hH ?_
        simp only [Act.put]
        refine wpAnyH_take (i := 2) (v := .int .i64 (b : Int)) rfl (by kernel_rfl) (by kernel_rfl) (by kernel_rfl) (fun _ _ _ h => h) (Or.inl ⟨by rfl, fun w' hS => by have s1 := hS.2.2; go_simp⟩) hH ?_
        simp only [Act.put]
        refine wpAnyH_take (i := 4) (v := .agg #[.int .i64 (s : Int), .int .i64 (b : Int)]) rfl (by kernel_rfl) (by kernel_rfl) (by kernel_rfl) (fun _ _ _ h => h) (Or.inl ⟨by rfl, fun w' hS => by have s1 := hS.2.1; have s2 := hS.2.2; go_simp⟩) hH ?_
        simp only [Act.put]
        refine wpAnyH_take (i := 5) (v := .int .i64 (seqIn (F 0) : Int)) rfl (by kernel_rfl) (by kernel_rfl) (by kernel_rfl) (fun _ _ _ h => h) (Or.inl ⟨by rfl, fun w' hS => by go_simp⟩) hH ?_
        simp only [Act.put]
        refine wpAnyH_ready (rs := [3]) (by kernel_rfl) (by simp) ?_
        refine AllReadyH.cons rfl (fun K_ hK_ => ?_) AllReadyH.nil
        go_simp
        rw [← EB.out] at HT
        have DW : Below W.heap.size W W.drew := (Below.refl _ _).drew
        refine (HT.out W.drew v (BW.out.trans (DW.mono BW.out.size)) (by have := sB; have := SW4.out; show _ ≤ W.heap.size; omega) (RV.out.below DW)).mono ?_
        rintro e w5 ⟨K', S', V', rfl, hps5, hV1, hb5⟩
        have HP5 := Lib.hid hps5
        have HV1 := Lib.hid hV1
        have B5w : Hid (Below W.heap.size W w5) := Lib.hid (DW.trans hb5)
        have ST5 := Lib.hid (SW.out.below B5w.out)
        have PL5 := Lib.hid (RowIs.below PW.out B5w.out)
        have BW5 := Lib.hid (BW.out.trans (B5w.out.mono BW.out.size))
        have hK5 : w5.heap[D]? = some (.deferred (some [])) := (B5w.out.block D (Array.getElem?_eq_some_iff.1 hK).1).trans hK
        have HK5 := Lib.hid hK5
        have b5 := cell_later B5w.out cb
        refine hK_.out _ _ ⟨b5, RowIs.cell PL5.out (i := 0) (by omega), RowIs.cell PL5.out (i := 1) (by omega)⟩ (fun hH => ?_)
        clear hK_ K_
        have RT : w5.there w.heap.size 0 (scells K' S' V').toArray.size := StIs.there_ ST5.out
        obtain ⟨w6, hw6, st6, a6⟩ := store_state (K' := K') (S' := S') (V' := V') ST5.out
        have ST6 := Lib.hid st6
        have PL6 := Lib.hid (RowIs.apart PL5.out a6 (by omega))
        have b6 : w6.cell? ⟨w4.heap.size, 0, none⟩ = some v := (cell_apart a6 (by have := sB; have := B5w.out.size; omega) (by have := S6s.out; omega)).trans b5
        have HK6 : Hid (w6.heap[D]? = some (.deferred (some []))) := Lib.hid ((a6.block D (Array.getElem?_eq_some_iff.1 HK5.out).1 (fun e => by have := SW4.out; omega)).trans HK5.out)
        have B6w : Hid (Below w.heap.size w w6) := Lib.hid (BW5.out.trans (a6.below BW5.out.size fun i hi e => by omega))
        have HPS6 : Hid (PS K' S' V' w6) := Lib.hid (hps _ _ _ _ _ HP5.out BW5.out a6.size fun g o hg ho _ => (a6.block g (Array.getElem?_eq_some_iff.1 ho).1 hg).trans ho)
        clear a6 st6
        refine wpAnyH_ready (rs := [6]) (by kernel_rfl) (by simp) ?_
        refine AllReadyH.cons rfl (fun K_ hK_ => ?_) AllReadyH.nil
        rw [if_pos (by rfl)]
        refine wp_store_mid 32 (.tmp 2) (.tmp 61) rfl w.heap.size 0 (scells K' S' V').toArray rfl rfl RT (state_len' _ _ _) (scells_one HV1.out) ?_
        rw [show (scells K' S' V').toArray.toList = scells K' S' V' from rfl, ← hw6]
        clear hw6
        refine hK_.out _ _ ⟨b6, RowIs.cell PL6.out (i := 0) (by omega), RowIs.cell PL6.out (i := 1) (by omega)⟩ (fun hH => ?_)
        clear hK_ K_
        simp only [Act.put]
        clear RT b5 HV1
        have p0 := RowIs.cell PL6.out (i := 0) (by omega)
        have p1 := RowIs.cell PL6.out (i := 1) (by omega)
        have f0 := RowIs.free PL6.out 0
        have f1 := RowIs.free PL6.out 1
        have s0 : w6.setCell ⟨w.heap.size + 1, 0, none⟩ (.int .i64 (s : Int)) = w6 := RowIs.still PL6.out (by omega) (by rfl)
        have s1 : w6.setCell ⟨w.heap.size + 1, 1, none⟩ (.int .i64 (b : Int)) = w6 := RowIs.still PL6.out (by omega) (by rfl)
        refine wpAnyH_ready (rs := [7]) (by kernel_rfl) (by simp) ?_
        refine AllReadyH.cons rfl (fun K_ hK_ => ?_) AllReadyH.nil
        go_simp
        refine hK_.out _ _ hH (fun hH => ?_)
        clear hK_ K_
        refine wpAnyH_ready (rs := [8]) (by kernel_rfl) (by simp) ?_
        refine AllReadyH.cons rfl (fun K_ hK_ => ?_) AllReadyH.nil
        go_simp
        refine hK_.out _ _ hH (fun hH => ?_)
        clear hK_ K_ hH s0 s1 f0 f1 p0 p1
        refine wpAnyH_done (by kernel_rfl) ?_ _
        refine NoPanic.normal ?_
        have HK7 := Lib.hid (run_takeDeferred (P := Tryz.prog) HK6.out)
        have b7 : Below w.heap.size w (w6.putObj D (.deferred none)) := B6w.out.trans (belowK_b (w := W0) B0.out.size _ D _ _ hD HK6.out rfl rfl)
        have st7 : StIs (w6.putObj D (.deferred none)) w.heap.size K' S' V' := (World.putObj_heap_other (by have := SW4.out; omega)).trans ST6.out
        have pl7 : RowIs (w6.putObj D (.deferred none)) (w.heap.size + 1) 34 (fun i => if i = 0 then .int .i64 (s : Int) else .int .i64 (b : Int)) 2 := (World.putObj_heap_other (by have := S6s.out; omega)).trans PL6.out
        have l1 : (loadVar 32 ⟨w.heap.size, 0, none⟩).run Tryz.prog (w6.putObj D (.deferred none)) = .ok (.agg (scells K' S' V').toArray) (w6.putObj D (.deferred none)) := run_loadVar_mid _ _ _ _ (scells K' S' V') _ (StIs.whole st7) Tryz.underlying32 rfl (state_len _ _ _)
        have l2 : (loadVar 34 ⟨w.heap.size + 1, 0, none⟩).run Tryz.prog (w6.putObj D (.deferred none)) = .ok (.agg #[.int .i64 (s : Int), .int .i64 (b : Int)]) (w6.putObj D (.deferred none)) := run_loadVar_mid _ _ _ _ [.int .i64 (s : Int), .int .i64 (b : Int)] _ (RowIs.range pl7 (by simp) (fun j hj => by
          have : j = 0 ∨ j = 1 := by simp at hj; omega
          rcases this with rfl | rfl <;> rfl)) Tryz.underlying34 rfl plat_size
        have L1 := Lib.hid l1
        have L2 := Lib.hid l2
        have B7 := Lib.hid b7
        have HPS7 : Hid (PS K' S' V' (w6.putObj D (.deferred none))) := Lib.hid (hps _ _ _ _ _ HPS6.out B6w.out (by simp) fun g o hg ho hd => (World.putObj_heap_other (fun e => by subst e; rw [HK6.out] at ho; exact hd _ (Option.some.inj ho).symm)).trans ho)
        clear b7 st7 pl7 l1 l2
        go_wp2
        refine ⟨by simp, .inl ⟨_, _, rfl, HK7.out, ?_⟩⟩
        refine ⟨_, results_cells2 (fn := Tryz.f57) rfl _ _ ⟨w.heap.size, 0, none⟩ ⟨w.heap.size + 1, 0, none⟩ _ _ rfl rfl L1.out L2.out, K', S', V', ?_, HPS7.out, B7.out⟩
        rw [← ES.out, ← EB.out]
        rfl
    · exact absurd HH.out.1 hs
  · exact absurd HH.out hno


theorem read_any (v : Value) (N : Nat) (L : Nat → Nat) (F : Nat → Nat → Nat) (w : World) (hv : ReadsP w v (N + 1) L F) (hh : Header (L 0) (F 0)) (hc : F 0 10 = N) (PS : (Nat → Nat) → (Nat → Nat) → (Nat → Value) → World → Prop)
    (hstate : ∀ k, Sound N (fun i => L (i + 1)) (fun i => F (i + 1)) k → ∀ W u, Below w.heap.size w W → w.heap.size + 2 ≤ W.heap.size → Reads W u (joinL ((List.range k).map (dpart fun i => F (i + 1)))).1 (joinL ((List.range k).map (dpart fun i => F (i + 1)))).2 →
      Calls Tryz.prog 82 #[u, .int .i64 (F 0 9 : Int)] W fun e w' => ∃ K S V, e = .returned (.agg (scells K S V).toArray) ∧ PS K S V w' ∧ (∀ i, i < 8 → (V i).oneCell' = true) ∧ Below W.heap.size W w')
    (hps : ∀ K S V W W', PS K S V W → Below w.heap.size w W → W.heap.size ≤ W'.heap.size → (∀ g o, g ≠ w.heap.size → W.heap[g]? = some o → (∀ x, o ≠ .deferred x) → W'.heap[g]? = some o) → PS K S V W') :
    Calls Tryz.prog 57 #[v] w fun e w' => ∃ K S V, e = .returned (.tuple #[.agg (scells K S V).toArray, .agg #[.int .i64 (F 0 8 : Int), .int .i64 (F 0 9 : Int)], .int .i64 (seqIn (F 0) : Int)]) ∧ PS K S V w' ∧ Below w.heap.size w w' := by
  obtain ⟨A, c, e, q1, _⟩ := id hv
  by_cases h1 : c = 1
  · obtain rfl : N = 0 := by omega
    subst h1
    exact read_lone v L F w hv hh hc ⟨A, e⟩ PS hstate hps
  · exact read_most v N L F w hv hh hc (fun A' c' e' h => by
      rw [e] at e'
      injection e' with e1 e2 e3
      omega) PS hstate hps
end Go.Proofs.YtdocclkphffpkaaGreat

