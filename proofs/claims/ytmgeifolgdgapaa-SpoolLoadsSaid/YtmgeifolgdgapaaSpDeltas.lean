
/- The deltas of a sector: the package's answer. -/
import Derived.Test.YtmgeifolgdgapaaSpSector
import Derived.Test.YtmgeifolgdgapaaSpParts
import Derived.Test.YtmgeifolgdgapaaAppIn
import Derived.Test.YtmgeifolgdgapaaMerge3
namespace Go.Proofs.Ytmgeifolgdgapaa
open Go.RowKit Go.Shelf

attribute [local go_sem] Oper.semAt_some

theorem OwnD.form {w : World} {base : Nat} {v : Value} {n : Nat} {ds : Nat → Del} (h : OwnD w base v n ds) : v = .slice none 0 0 ∨ ∃ g cap, v = .slice (some ⟨g, 0, none⟩) n cap := by
  rcases h.2 with ⟨rfl, _⟩ | ⟨g, cap, cur, rfl, _⟩
  · exact .inl rfl
  · exact .inr ⟨g, cap, rfl⟩
theorem OwnD.cells_kept {X Y : World} {base : Nat} {v : Value} {n : Nat} {ds : Nat → Del} (h : OwnD X base v n ds) (hk : ∀ (g : Nat) (cs : Array Value) (t : TypeId) (fr : Nat × Nat), X.heap[g]? = some (.cells cs t fr) → Y.heap[g]? = X.heap[g]?) : OwnD Y base v n ds := by
  refine ⟨h.1, ?_⟩
  rcases h.2 with h3 | ⟨g, cap, cur, e, hb, hg, rest⟩
  · exact .inl h3
  · exact .inr ⟨g, cap, cur, e, hb, (hk g _ _ _ hg).trans hg, rest⟩
theorem OwnD.not_other {w : World} {base : Nat} {v : Value} {n : Nat} {ds : Nat → Del} (h : OwnD w base v n ds) {k : Nat} (hk : v.ownBlock = some k) : base ≤ k ∧ ∃ cs, w.heap[k]? = some (.cells cs 52 (0, 0)) := by
  rcases h.2 with ⟨rfl, _⟩ | ⟨g, cap, cur, rfl, hb, hg, _⟩
  · cases hk
  · obtain rfl : g = k := by simpa [Value.ownBlock] using hk
    exact ⟨hb, _, hg⟩
theorem OwnD.set_other {w : World} {base : Nat} {v : Value} {n : Nat} {ds : Nat → Del} (h : OwnD w base v n ds) {B : Nat} (hB : B < base) (u : Value) : OwnD (w.setCell ⟨B, 0, none⟩ u) base v n ds := by
  refine ⟨h.1, ?_⟩
  rcases h.2 with h3 | ⟨g, cap, cur, e, hb, hg, rest⟩
  · exact .inl h3
  · exact .inr ⟨g, cap, cur, e, hb, (Below.heap_setCell _ _ _ _ (fun e => by dsimp only at e; omega)).trans hg, rest⟩
theorem OwnD.base {w : World} {base base' : Nat} {v : Value} {n : Nat} {ds : Nat → Del} (h : OwnD w base v n ds) (hb : base' ≤ base) : OwnD w base' v n ds :=
  ⟨h.1, h.2.imp id fun ⟨g, cap, cur, e, hb', r⟩ => ⟨g, cap, cur, e, Nat.le_trans hb hb', r⟩⟩

/-- Number i of those that have come. -/
def nthF {N : Nat} (pre : List (Fin N)) (i : Nat) : Nat := (pre.map (fun x => x.val)).getD i 0
/-- What the loop holds when these parts have come. -/
def SpI (w : World) (f : Nat → Nat) (N : Nat) (pre : List (Fin N)) (W : World) : Prop :=
  (∃ v, Boxed W (w.heap.size + 2) 32 v ∧ OwnD W (w.heap.size + 5) v pre.length (fun i => sdel f (nthF pre i))) ∧
    Boxed W w.heap.size 32 (.slice none 0 0) ∧ Boxed W (w.heap.size + 1) 24 (.int .i64 0) ∧ (∀ x ∈ pre, Valid (sdel f x.val)) ∧ Below w.heap.size w W ∧ w.heap.size + 5 ≤ W.heap.size
def SpX (w : World) (f : Nat → Nat) (N : Nat) (c : Code) (pre : List (Fin N)) (W : World) : Prop :=
  c = .ret ∧ (∃ x : Int, x ≠ 0 ∧ Boxed W (w.heap.size + 1) 24 (.int .i64 x)) ∧ Boxed W w.heap.size 32 (.slice none 0 0) ∧ (∃ x ∈ pre, ¬ Valid (sdel f x.val)) ∧ Below w.heap.size w W
theorem spI_own (w : World) (f : Nat → Nat) (N : Nat) {B : Nat} (hB : w.heap.size ≤ B) : OwnFrom B (SpI w f N) := by
  rintro s X Y row ⟨⟨v, hv, hp⟩, hr, he, ha, hb, hz⟩ hg hrow
  have hk : ∀ (g : Nat) (cs : Array Value) (t : TypeId) (fr : Nat × Nat), X.heap[g]? = some (.cells cs t fr) → Y.heap[g]? = X.heap[g]? := fun g cs t fr h => cells_kept hg (fun r e => (hrow r e).2) h
  exact ⟨⟨v, boxed_kept hv hk, hp.cells_kept hk⟩, boxed_kept hr hk, boxed_kept he hk, ha, hb.grown hg hb.size fun k e => Nat.le_trans hB (hrow k e).1, Nat.le_trans hz hg.size⟩
theorem spX_own (w : World) (f : Nat → Nat) (N : Nat) {B : Nat} (hB : w.heap.size ≤ B) (c : Code) : OwnFrom B (SpX w f N c) := by
  rintro s X Y row ⟨hc, ⟨x, hx, he⟩, hr, ha, hb⟩ hg hrow
  have hk : ∀ (g : Nat) (cs : Array Value) (t : TypeId) (fr : Nat × Nat), X.heap[g]? = some (.cells cs t fr) → Y.heap[g]? = X.heap[g]? := fun g cs t fr h => cells_kept hg (fun r e => (hrow r e).2) h
  exact ⟨hc, ⟨x, hx, boxed_kept he hk⟩, boxed_kept hr hk, ha, hb.grown hg hb.size fun k e => Nat.le_trans hB (hrow k e).1⟩
theorem nthF_low {N : Nat} {pre : List (Fin N)} {x : Fin N} {i : Nat} (hi : i < pre.length) : nthF (pre ++ [x]) i = nthF pre i := by
  unfold nthF
  rw [List.getD_eq_getElem?_getD, List.getD_eq_getElem?_getD, List.map_append, List.getElem?_append_left (by rw [List.length_map]; exact hi)]
theorem nthF_last {N : Nat} (pre : List (Fin N)) (x : Fin N) : nthF (pre ++ [x]) pre.length = x.val := by
  unfold nthF
  rw [List.getD_eq_getElem?_getD, List.map_append, List.getElem?_append_right (by rw [List.length_map]; exact Nat.le_refl _), List.length_map, Nat.sub_self]
  rfl
theorem nthF_all {N : Nat} {xs : List (Fin N)} (h : xs.map (fun x => x.val) = List.range N) {i : Nat} (hi : i < N) : nthF xs i = i := by
  unfold nthF
  rw [h, List.getD_eq_getElem?_getD, List.getElem?_range hi]
  rfl
/-- A round's end: a delta is put behind the row, the row into its box. -/
theorem sp_step {w W W2 W3 : World} {v v' : Value} {f : Nat → Nat} {N : Nat} {pre : List (Fin N)} {x : Fin N} {cs : Array Value}
    (hV : Boxed W (w.heap.size + 2) 32 v) (hR : Boxed W w.heap.size 32 (.slice none 0 0)) (hE : Boxed W (w.heap.size + 1) 24 (.int .i64 0)) (hA : ∀ x ∈ pre, Valid (sdel f x.val)) (hB : Below w.heap.size w W) (hZ : w.heap.size + 5 ≤ W.heap.size)
    (h2 : Below W.heap.size W W2) (hx : Valid (sdel f x.val)) (hP2 : OwnD W2 (w.heap.size + 5) v pre.length (fun i => sdel f (nthF (pre ++ [x]) i))) (hP3 : OwnD W3 (w.heap.size + 5) v' (pre.length + 1) (fun i => sdel f (nthF (pre ++ [x]) i)))
    (hg : (W2.alloc (.cells cs 52)).grownBy W3 v.ownBlock) :
    Boxed W3 (w.heap.size + 2) 32 v ∧ KeepsFrom (w.heap.size + 5) W (W3.setCell ⟨w.heap.size + 2, 0, none⟩ v') ∧ Keeps2 w.heap.size (w.heap.size + 4) (w.heap.size + 3) W (W3.setCell ⟨w.heap.size + 2, 0, none⟩ v') ∧ SpI w f N (pre ++ [x]) (W3.setCell ⟨w.heap.size + 2, 0, none⟩ v') := by
  have hne : ∀ j, j < w.heap.size + 5 → some j ≠ v.ownBlock := fun j hj e => by have := (hP2.not_other e.symm).1; omega
  have s2 : W.heap.size ≤ W2.heap.size := h2.size
  have s3 : W2.heap.size + 1 ≤ W3.heap.size := by have := hg.size; simpa using this
  have old : ∀ j, j < w.heap.size + 5 → W3.heap[j]? = W.heap[j]? := fun j hj => by
    rw [hg.block j (by simp <;> omega) (hne j hj), Below.heap_alloc W2 _ j (by omega), h2.block j (by omega)]
  have hV3 : Boxed W3 (w.heap.size + 2) 32 v := (old _ (by omega)).trans hV
  have hset : ∀ j, j ≠ w.heap.size + 2 → (W3.setCell ⟨w.heap.size + 2, 0, none⟩ v').heap[j]? = W3.heap[j]? := fun j hj => Below.heap_setCell _ _ _ _ (fun e => hj e)
  have hb5 : Below w.heap.size W W3 := ((h2.mono (by omega)).alloc (by omega) _).grown hg (by simp <;> omega) fun k e => by have := (hP2.not_other e).1; omega
  have hb6 : Below w.heap.size W (W3.setCell ⟨w.heap.size + 2, 0, none⟩ v') := hb5.setCell (p := ⟨w.heap.size + 2, 0, none⟩) (by show w.heap.size ≤ w.heap.size + 2; omega) v'
  refine ⟨hV3, ?_, ⟨hb6, by rw [hset _ (by omega), old _ (by omega)], by rw [hset _ (by omega), old _ (by omega)]⟩, ⟨v', hV3.set v', by rw [List.length_append]; exact hP3.set_other (by omega) v'⟩, ((hset _ (by omega)).trans (old _ (by omega))).trans hR, ((hset _ (by omega)).trans (old _ (by omega))).trans hE, ?_, hB.trans hb6, by have := hb6.size; omega⟩
  · refine ((keepsFrom_below h2).trans ((KeepsOthers.alloc W2 _).from _)).trans (((KeepsOthers.of_grownBy hg fun j o ej hj => ?_).from _).trans ((KeepsOthers.setCell _ _ _).from _))
    obtain ⟨cs, hcs⟩ := (hP2.not_other ej).2
    rw [Below.heap_alloc W2 _ j (Array.getElem?_eq_some_iff.1 hcs).1, hcs] at hj
    cases hj
    rfl
  · intro y hy
    rcases List.mem_append.1 hy with h | h
    · exact hA y h
    · rw [List.mem_singleton.1 h]
      exact hx

/-- A round that ends the loop: the results' boxes are written. -/
theorem sp_stop {w W W2 : World} {f : Nat → Nat} {N : Nat} {pre : List (Fin N)} {x : Fin N} {z : Int} (hR : Boxed W w.heap.size 32 (.slice none 0 0)) (hE : Boxed W (w.heap.size + 1) 24 (.int .i64 0)) (hB : Below w.heap.size w W)
    (h2 : Below W.heap.size W W2) (hx : ¬ Valid (sdel f x.val)) (hz : z ≠ 0) :
    KeepsFrom (w.heap.size + 5) W ((W2.setCell ⟨w.heap.size, 0, none⟩ (.slice none 0 0)).setCell ⟨w.heap.size + 1, 0, none⟩ (.int .i64 z)) ∧ SpX w f N .ret (pre ++ [x]) ((W2.setCell ⟨w.heap.size, 0, none⟩ (.slice none 0 0)).setCell ⟨w.heap.size + 1, 0, none⟩ (.int .i64 z)) := by
  have r2 : Boxed W2 w.heap.size 32 (.slice none 0 0) := (h2.block _ hR.lt).trans hR
  have e2 : Boxed W2 (w.heap.size + 1) 24 (.int .i64 0) := (h2.block _ hE.lt).trans hE
  have e3 := (e2.other (B' := w.heap.size) (by omega) (.slice none 0 0)).set (.int .i64 z)
  refine ⟨(keepsFrom_below h2).trans (((KeepsOthers.setCell _ _ _).from _).trans ((KeepsOthers.setCell _ _ _).from _)), rfl, ⟨z, hz, e3⟩, (r2.set (.slice none 0 0)).other (by omega) _, ⟨x, by simp, hx⟩, ?_⟩
  exact ((hB.trans (h2.mono hB.size)).setCell (p := ⟨w.heap.size, 0, none⟩) (Nat.le_refl _) _).setCell (p := ⟨w.heap.size + 1, 0, none⟩) (by show w.heap.size ≤ w.heap.size + 1; omega) _
theorem part_five {w W : World} {ad : Addr} {c : Nat} {f : Nat → Nat} (h : Reads w (.slice (some ad) 64 c) 64 f) (hB : Below w.heap.size w W) {x : Nat} (hx : x < 6) : BytesAt W (some ((ad.add 6).add (x * 5))) 5 (fun j => f (6 + 5 * x + j)) := by
  obtain ⟨A', c', e', _, _, _, p4⟩ := h.below hB
  cases e'
  refine ⟨fun i hi => p4.small _ (by omega), fun i hi => ⟨_, rfl, ?_⟩⟩
  rw [Addr.add_add, Addr.add_add, show 6 + (x * 5 + i) = 6 + 5 * x + i by omega]
  exact p4.at_ (by omega)

/-- What deltasOf answers. -/
def DeltasA (f : Nat → Nat) (q m : Nat) (w : World) (e : Ending) (w' : World) : Prop :=
  Below w.heap.size w w' ∧ ((IsSp f q m ∧ ∃ v, e = .returned (.tuple #[v, .int .i64 0]) ∧ OwnD w' w.heap.size v (f 5) (sdel f)) ∨ (¬ IsSp f q m ∧ ∃ x : Int, x ≠ 0 ∧ e = .returned (.tuple #[.slice none 0 0, .int .i64 x])))
/-- Two results that lie in cells. -/
theorem results_two {P : Program} {fn : Func} {p q : Tmp} {ty uy : TypeId} (h : fn.results = #[.cell p ty, .cell q uy]) (tmps : Array Value) (w : World) (a b : Addr) (v u : Value) (hp : tmps.getD p undef = .pointer (some a)) (hq : tmps.getD q undef = .pointer (some b))
    (hv : (loadVar ty a).run P w = .ok v w) (hu : (loadVar uy b).run P w = .ok u w) : (results fn tmps).run P w = .ok (.tuple #[v, u]) w := by
  have hp2 : tmps[p]?.getD undef = .pointer (some a) := by simpa using hp
  have hq2 : tmps[q]?.getD undef = .pointer (some b) := by simpa using hq
  simp only [results, h]
  simp [hp2, hq2, asAddr, hv, hu]
theorem deltas_back {w W : World} {v : Value} {x : Int} (h0 : Boxed W w.heap.size 32 v) (h1 : Boxed W (w.heap.size + 1) 24 (.int .i64 x)) (tmps : Array Value)
    (hp : tmps.getD 6 undef = .pointer (some ⟨w.heap.size, 0, none⟩)) (hq : tmps.getD 7 undef = .pointer (some ⟨w.heap.size + 1, 0, none⟩)) : (results Try.f21 tmps).run Try.prog W = .ok (.tuple #[v, .int .i64 x]) W :=
  results_two (fn := Try.f21) rfl tmps W _ _ _ _ hp hq (run_loadVar_cell Try.underlying32 rfl h0.cell) (run_loadVar_cell Try.underlying24 rfl h1.cell)

set_option maxRecDepth 100000 in
set_option maxHeartbeats 1000000 in
theorem deltasOf_any (ad : Addr) (c q m : Nat) (f : Nat → Nat) (w : World) (hq : q < 4294967296) (hm : m < 256) (hv : Reads w (.slice (some ad) 64 c) 64 f) :
    Calls Try.prog 21 #[.slice (some ad) 64 c, .int .i64 (q : Int), .int .i64 (m : Int)] w (DeltasA f q m w) := by
  obtain ⟨A', c', e', p1, p2, p3, p4⟩ := id hv
  cases e'
  have HV := Lib.hid hv
  have hst := put_complex
  obtain ⟨N, hN⟩ : ∃ N, N = f 5 := ⟨_, rfl⟩
  have h256 : N < 256 := by rw [hN]; exact p4.small 5 (by omega)
  have hc5 : w.cell? ⟨ad.block, ad.off + 5, none⟩ = some (.int .u8 (f 5 : Int)) := p4.at_ (i := 5) (by omega)
  rw [← hN] at hc5
  have hcl : ∀ o o', ((w.alloc o).alloc o').cell? ⟨ad.block, ad.off + 5, none⟩ = some (.int .u8 (N : Int)) := fun o o' => later2 hc5 o o'
  have HN := Lib.hid hN
  clear hv p3 p4 hN
  refine (callsIn_wide (n := 3)).1 ?_
  refine callsIn_of_wp_marks Try.func21 rfl trivial ?_ rfl
  simp only [Try.ntmps21, List.size_toArray, List.length_cons, List.length_nil, Nat.reduceAdd, Nat.reduceSub, Array.replicate_succ, Array.replicate_zero, List.push_toArray, List.append_toArray, List.nil_append, List.cons_append]
  by_cases h1 : 1 ≤ N
  · have d1 : decide ((N : Int) < 1) = false := by simp; omega
    by_cases h6 : N ≤ 6
    · have d6 : decide ((6 : Int) < (N : Int)) = false := by simp; omega
      obtain ⟨y, hy⟩ : ∃ y, y = N * 5 := ⟨_, rfl⟩
      have hyI : (N : Int) * 5 = (y : Int) := by omega
      have hy30 : y ≤ 30 := by omega
      have HY := Lib.hid hy
      clear hy
      gi_wp2_with fail
      refine ⟨trivial, ?_⟩
      refine (bparts_in Fence.wide _ trivial rfl _ _ _ _ _).mono ?_
      rintro e w' ⟨rfl, rfl⟩
      clear hcl hc5
      gi_wp2_with fail
      have b0 := Boxed.new w 32 (.slice none 0 0)
      have b1 := Boxed.new (w.alloc (.cells #[.slice none 0 0] 32)) 24 (.int .i64 0)
      have b2 := Boxed.new ((w.alloc (.cells #[.slice none 0 0] 32)).alloc (.cells #[.int .i64 0] 24)) 32 (.slice none 0 0)
      have b3 := Boxed.new (((w.alloc (.cells #[.slice none 0 0] 32)).alloc (.cells #[.int .i64 0] 24)).alloc (.cells #[.slice none 0 0] 32)) 28 (.slice (some (ad.add 6)) y (c - 6))
      have b4 := Boxed.new ((((w.alloc (.cells #[.slice none 0 0] 32)).alloc (.cells #[.int .i64 0] 24)).alloc (.cells #[.slice none 0 0] 32)).alloc (.cells #[.slice (some (ad.add 6)) y (c - 6)] 28)) 3 (.int .i64 5)
      simp only [World.size_alloc] at b1 b2 b3 b4
      have hB0 : Below w.heap.size w (((((w.alloc (.cells #[.slice none 0 0] 32)).alloc (.cells #[.int .i64 0] 24)).alloc (.cells #[.slice none 0 0] 32)).alloc (.cells #[.slice (some (ad.add 6)) y (c - 6)] 28)).alloc (.cells #[.int .i64 5] 3)) := ((((((Below.refl _ w).alloc (Nat.le_refl _) _).alloc (by simp) _).alloc (by simp <;> omega) _).alloc (by simp <;> omega) _)).alloc (by simp <;> omega) _
      refine wpIn_rangeFunc_ownG rfl (by omega) (gf := 49) (lb := #[.pointer (some ⟨w.heap.size + 4, 0, none⟩), .pointer (some ⟨w.heap.size + 3, 0, none⟩)]) rfl trivial (enters_of Try.func49 (by kernel_rfl) rfl)
        (bparts_stops Fence.wide _ trivial rfl (by omega) (w.heap.size + 4) (w.heap.size + 3) w.heap.size (ad.add 6) N y (c - 6) (by omega) HY.out (by omega) _ (by simp) (by simp <;> omega) b4.cell (b3.alloc _).cell) keeps2_t (keeps2_b (by simp <;> omega) (by simp) (by simp <;> omega)) (Below.refl _ _) (fun _ => rfl)
        (SpI w f N) (SpX w f N)
        (spI_own w f N (by simp <;> omega))
        (spX_own w f N (by simp <;> omega))
        ⟨⟨_, (b2.alloc _).alloc _, ownD_none _ _ _⟩, (((b0.alloc _).alloc _).alloc _).alloc _, ((b1.alloc _).alloc _).alloc _, (by intro x hx; cases hx), hB0, by simp⟩
        (fun x => { tmps := #[.slice (some ad) 64 c, .int .i64 (q : Int), .int .i64 (m : Int), undef, undef, undef, .pointer (some ⟨w.heap.size, 0, none⟩), .pointer (some ⟨w.heap.size + 1, 0, none⟩), .int .i64 (N : Int), .pointer (some ⟨w.heap.size + 2, 0, none⟩), undef, bpart (ad.add 6) (c - 6) x.val, undef, undef, .slice (some ad) 64 c, .pointer (some ⟨ad.block, ad.off + 5, none⟩), .int .u8 (N : Int), .int .i64 (N : Int), .int .i64 (N : Int), .bool false, .bool false, .int .i64 (N : Int), .bool false, .bool false, .slice (some ad) 64 c, .int .i64 (N : Int), .int .i64 (y : Int), .int .i64 (6 + (y : Int)), .slice (some (ad.add 6)) y (c - 6), .func (.func 49) #[] #[.pointer (some ⟨w.heap.size + 4, 0, none⟩), .pointer (some ⟨w.heap.size + 3, 0, none⟩)], .int .i64 (x.val : Int), bpart (ad.add 6) (c - 6) x.val, undef, undef, undef, undef, undef, undef, undef, undef, undef, undef, undef, undef, undef, undef, undef, undef, undef, undef, undef, undef], defers := [] }) ?assign ?body ?done ?stop
      case assign =>
        intro l x W K hK
        gi_wp2
        exact hK
      case body =>
        rintro l pre x W ⟨⟨v, hv, hp⟩, hr, he, ha, hB, hz⟩ hlt
        have HP := Lib.hid hp
        have HV2 := Lib.hid hv
        have HR := Lib.hid hr
        have HE := Lib.hid he
        have HA := Lib.hid ha
        have HB := Lib.hid hB
        have HZ := Lib.hid hz
        have hx6 : x.val < 6 := by have := x.isLt; omega
        have BF := Lib.hid (part_five HV.out hB hx6)
        have hl6 : pre.length ≤ 6 := by omega
        clear hp hv hr he ha hB hz hlt
        gi_wp2_with fail
        refine ⟨trivial, ?_⟩
        refine (CallsIn.inRound l (callsIn_wide.2 (ddecode_any _ (c - 6 - x.val * 5) _ W BF.out))).mono ?_
        rintro e W1 ⟨⟨-, hval, rfl⟩ | ⟨hnv, z, hz, rfl⟩, hb1⟩
        · have hval' : Valid (sdel f x.val) := hval
          obtain ⟨d, hd⟩ : ∃ d, d = sdel f x.val := ⟨_, rfl⟩
          have hev : (delOf fun j => f (6 + 5 * x.val + j)).val = d.val := by rw [hd]; rfl
          rw [hev]
          clear hev hval
          have hb2 : Below W.heap.size W (W1.alloc (.cells d.cells.toArray 52)) := hb1.alloc hb1.size _
          have hp2 : OwnD (W1.alloc (.cells d.cells.toArray 52)) (w.heap.size + 5) v pre.length (fun i => sdel f (nthF (pre ++ [x]) i)) := (HP.out.below_ hb2).congr fun i hi => by rw [nthF_low hi]
          have hdn : sdel f (nthF (pre ++ [x]) pre.length) = d := by rw [hd, nthF_last]
          obtain ⟨v5, W5, r5, p5, g5⟩ := run_del 32 hp2 (by omega) (by have := hb2.size; have := HZ.out; omega)
          obtain ⟨A5, cc5, rfl⟩ := p5.shape
          rw [hdn] at r5 g5
          rw [World.size_alloc] at r5
          have hst' := sp_step HV2.out HR.out HE.out HA.out HB.out HZ.out hb2 hval' hp2 p5 g5
          have c4 : (W1.alloc (.cells d.cells.toArray 52)).cell? ⟨w.heap.size + 2, 0, none⟩ = some v := (show Boxed _ (w.heap.size + 2) _ v from (hb2.block _ HV2.out.lt).trans HV2.out).cell
          have c5 := hst'.1.cell
          have f5 := hst'.1.frozen
          have ST := Lib.hid hst'.2
          clear hst' hb2 hp2 hdn p5 g5 hd hval' hb1
          obtain ⟨k, vo, o, b, a1, b1⟩ := d
          have R5 : Hid ((Builtin.append_ #[32, 32] 32 #[v, .slice (some ⟨W1.heap.size + 1, 0, none⟩) 1 1]).run Try.prog ((W1.alloc (.cells #[.int .i64 (k : Int), .int .i64 (vo : Int), .int .i64 (o : Int), .int .i64 (b : Int), .complex .f64 (fl a1) (fl b1)] 52)).alloc (.cells #[.int .i64 (k : Int), .int .i64 (vo : Int), .int .i64 (o : Int), .int .i64 (b : Int), .complex .f64 (fl a1) (fl b1)] 52)) = .ok (.slice A5 (pre.length + 1) cc5) W5) := Lib.hid r5
          have c4' : (W1.alloc (.cells #[.int .i64 (k : Int), .int .i64 (vo : Int), .int .i64 (o : Int), .int .i64 (b : Int), .complex .f64 (fl a1) (fl b1)] 52)).cell? ⟨w.heap.size + 2, 0, none⟩ = some v := c4
          clear c4 r5
          unfold Del.val
          dsimp only
          gi_wp2_with (first
            | (gi_at_builtin; refine wpListIn_append_run _ rfl (.tmp 40) (.tmp 42) _ _ rfl _ _ rfl rfl _ _ R5.out ?_))
          exact ⟨by simpa using ST.out.1, ST.out.2.1, ST.out.2.2⟩
        · have hb2 : Below W.heap.size W (W1.alloc (.cells #[.int .i64 0, .int .i64 0, .int .i64 0, .int .i64 0, .complex .f64 0 0] 52)) := hb1.alloc hb1.size _
          have hst' := sp_stop (pre := pre) HR.out HE.out HB.out hb2 (show ¬ Valid (sdel f x.val) from fun h => hnv ⟨rfl, h⟩) hz
          have r2 : Boxed (W1.alloc (.cells #[.int .i64 0, .int .i64 0, .int .i64 0, .int .i64 0, .complex .f64 0 0] 52)) w.heap.size 32 (.slice none 0 0) := (hb2.block _ HR.out.lt).trans HR.out
          have e2 : Boxed (W1.alloc (.cells #[.int .i64 0, .int .i64 0, .int .i64 0, .int .i64 0, .complex .f64 0 0] 52)) (w.heap.size + 1) 24 (.int .i64 0) := (hb2.block _ HE.out.lt).trans HE.out
          have e3 := e2.other (B' := w.heap.size) (by omega) (.slice none 0 0)
          have q1 := r2.cell
          have q2 := r2.frozen
          have q3 := e3.cell
          have q4 := e3.frozen
          have hz0 : (z != 0) = true := by simpa using hz
          have ST := Lib.hid hst'
          clear hst' r2 e2 e3 hb2 hb1 hnv hz
          unfold noDel
          gi_wp2
          exact ⟨by simpa using ST.out.1, ST.out.2⟩
      case done =>
        rintro D xs W hD hxs ⟨⟨v, hv, hp⟩, hr, he, ha, hB, hz⟩ hK
        have hl : xs.length = N := fin_length hxs
        have hall : ∀ i, i < N → Valid (sdel f i) := fun i hi => by
          have hm : i ∈ xs.map (fun x => x.val) := by rw [hxs]; exact List.mem_range.2 hi
          obtain ⟨x, hx, rfl⟩ := List.mem_map.1 hm
          exact ha x hx
        have hp' : OwnD W (w.heap.size + 5) v N (sdel f) := by
          rw [hl] at hp
          exact hp.congr fun i hi => by rw [nthF_all hxs hi]
        have HS := Lib.hid (sectorOf_ok v N q m (sdel f) W (by omega) hq hm hp'.reads hall)
        have cv := hv.cell
        have HP := Lib.hid hp'
        have HR := Lib.hid hr
        have HE := Lib.hid he
        have HA := Lib.hid hall
        have HB := Lib.hid hB
        have HZ := Lib.hid hz
        have HK := Lib.hid hK
        have HV2 := Lib.hid hv
        clear hp hp' hr he ha hB hz hK hl hall hxs hv
        gi_wp2_with fail
        refine ⟨trivial, ?_⟩
        refine (callsIn_wide.2 HS.out).mono ?_
        rintro e W1 ⟨u, rfl, hu, hb1⟩
        have hsm := spS_lt (q := q) (ds := sdel f) hm (show N < 256 by omega) HA.out
        obtain ⟨gu, cu, rfl, _, _, u1, u2, u3⟩ := hu.bytes (Nat.le_refl _) fun i _ => hsm i
        have HEQ := Lib.hid (equal_any (.slice (some ad) 64 c) (.slice (some ⟨gu, 0, none⟩) 64 cu) 64 64 f (spS q m N (sdel f)) W1 (HV.out.below (HB.out.trans (hb1.mono HB.out.size))) ⟨_, _, rfl, u1, u2, (by intro e; cases e), u3⟩)
        have HB1 := Lib.hid hb1
        clear hu hb1 hsm u1 u2 u3 cv
        gi_wp2_with fail
        refine ⟨trivial, ?_⟩
        refine (callsIn_wide.2 HEQ.out).mono ?_
        rintro e W2 ⟨b, rfl, hbb, rfl⟩
        have hD' : w.heap.size + 5 ≤ D := by simpa using hD
        have hK1 : W1.heap[D]? = some (.deferred (some [])) := (HB1.out.block D (Array.getElem?_eq_some_iff.1 HK.out).1).trans HK.out
        have HB2 : Hid (Below w.heap.size w W1) := Lib.hid (HB.out.trans (HB1.out.mono HB.out.size))
        have r1 : Boxed W1 w.heap.size 32 (.slice none 0 0) := (HB1.out.block _ HR.out.lt).trans HR.out
        have e1 : Boxed W1 (w.heap.size + 1) 24 (.int .i64 0) := (HB1.out.block _ HE.out.lt).trans HE.out
        have v1 : Boxed W1 (w.heap.size + 2) 32 v := (HB1.out.block _ HV2.out.lt).trans HV2.out
        have P1 : Hid (OwnD W1 (w.heap.size + 5) v N (sdel f)) := Lib.hid (HP.out.below_ HB1.out)
        have t1 := r1.cell
        have t2 := r1.frozen
        have t5 := v1.cell
        cases b with
        | true =>
          have e3 := e1.other (B' := w.heap.size) (by omega) v
          have t3 := e3.cell
          have t4 := e3.frozen
          have E3 := Lib.hid ((r1.set v).other (B' := w.heap.size + 1) (by omega) (.int .i64 0))
          have E4 := Lib.hid (e3.set (.int .i64 0))
          have hk3 : ((W1.setCell ⟨w.heap.size, 0, none⟩ v).setCell ⟨w.heap.size + 1, 0, none⟩ (.int .i64 0)).heap[D]? = some (.deferred (some [])) := by
            rw [Below.heap_setCell _ _ _ _ (by show D ≠ w.heap.size + 1; omega), Below.heap_setCell _ _ _ _ (by show D ≠ w.heap.size; omega)]
            exact hK1
          have K3 := Lib.hid hk3
          have P3 := Lib.hid ((P1.out.set_other (B := w.heap.size) (by omega) v).set_other (B := w.heap.size + 1) (by omega) (.int .i64 0))
          have B3 := Lib.hid ((HB2.out.setCell (p := ⟨w.heap.size, 0, none⟩) (Nat.le_refl _) v).setCell (p := ⟨w.heap.size + 1, 0, none⟩) (by show w.heap.size ≤ w.heap.size + 1; omega) (.int .i64 0))
          have IS : Hid (IsSp f q m) := Lib.hid (by
            have h := hbb.1 rfl
            rw [HN.out] at h h1 h6
            refine ⟨h1, h6, fun i hi => HA.out i (by rw [HN.out]; exact hi), h.2⟩)
          have HF : Hid (∃ A c, v = .slice A N c) := Lib.hid P1.out.shape
          clear hbb hK1 r1 e1 v1 e3 hk3
          obtain ⟨Av, cv, rfl⟩ := HF.out
          gi_wp2
          refine ⟨by simp, .inl ⟨_, _, rfl, run_takeDeferred K3.out, ?_⟩⟩
          refine ⟨_, deltas_back (w := w) ((World.putObj_heap_other (by omega)).trans E3.out) ((World.putObj_heap_other (by omega)).trans E4.out) _ rfl rfl, ?_⟩
          refine ⟨B3.out.trans (belowK_b (w := w) (Nat.le_refl _) _ D _ _ (by omega) K3.out rfl rfl), .inl ⟨IS.out, _, rfl, ?_⟩⟩
          rw [← HN.out]
          exact (P3.out.cells_kept fun g cs t fr hg => cells_kept (grownBy_putObj' _ D (.deferred none)) (fun r e => by cases e; exact ⟨_, K3.out, rfl⟩) hg).base (by omega)
        | false =>
          have e3 := e1.other (B' := w.heap.size) (by omega) (.slice none 0 0)
          have t3 := e3.cell
          have t4 := e3.frozen
          have E3 := Lib.hid ((r1.set (.slice none 0 0)).other (B' := w.heap.size + 1) (by omega) (.int .i64 2))
          have E4 := Lib.hid (e3.set (.int .i64 2))
          have hk3 : ((W1.setCell ⟨w.heap.size, 0, none⟩ (.slice none 0 0)).setCell ⟨w.heap.size + 1, 0, none⟩ (.int .i64 2)).heap[D]? = some (.deferred (some [])) := by
            rw [Below.heap_setCell _ _ _ _ (by show D ≠ w.heap.size + 1; omega), Below.heap_setCell _ _ _ _ (by show D ≠ w.heap.size; omega)]
            exact hK1
          have K3 := Lib.hid hk3
          have B3 := Lib.hid ((HB2.out.setCell (p := ⟨w.heap.size, 0, none⟩) (Nat.le_refl _) (.slice none 0 0)).setCell (p := ⟨w.heap.size + 1, 0, none⟩) (by show w.heap.size ≤ w.heap.size + 1; omega) (.int .i64 2))
          have IS : Hid (¬ IsSp f q m) := Lib.hid fun h => by
            have h2 := hbb.2 ⟨by trivial, fun i hi => by rw [HN.out]; exact h.2.2.2 i hi⟩
            cases h2
          clear hbb hK1 r1 e1 v1 e3 hk3
          gi_wp2
          refine ⟨by simp, .inl ⟨_, _, rfl, run_takeDeferred K3.out, ?_⟩⟩
          refine ⟨_, deltas_back (w := w) ((World.putObj_heap_other (by omega)).trans E3.out) ((World.putObj_heap_other (by omega)).trans E4.out) _ rfl rfl, ?_⟩
          exact ⟨B3.out.trans (belowK_b (w := w) (Nat.le_refl _) _ D _ _ (by omega) K3.out rfl rfl), .inr ⟨IS.out, 2, by omega, rfl⟩⟩
      case stop =>
        rintro D cd pre W hD - ⟨rfl, ⟨z, hz, he⟩, hr, ⟨x, hxp, hx⟩, hB⟩ hK
        have hD' : w.heap.size + 5 ≤ D := by simpa using hD
        have hNI : ¬ IsSp f q m := fun h => hx (h.2.2.1 _ (by rw [← HN.out]; exact x.isLt))
        have HR := Lib.hid hr
        have HE := Lib.hid he
        have HB := Lib.hid hB
        have HK := Lib.hid hK
        clear hr he hB hK hx hxp
        gi_wp2
        refine ⟨by simp, .inl ⟨_, _, rfl, run_takeDeferred HK.out, ?_⟩⟩
        refine ⟨_, deltas_back (w := w) ((World.putObj_heap_other (by omega)).trans HR.out) ((World.putObj_heap_other (by omega)).trans HE.out) _ rfl rfl, ?_⟩
        exact ⟨HB.out.trans (belowK_b (w := w) (Nat.le_refl _) _ D _ _ (by omega) HK.out rfl rfl), .inr ⟨hNI, z, hz, rfl⟩⟩
    · have d6 : decide ((6 : Int) < (N : Int)) = true := by simp; omega
      gi_wp2
      refine ⟨_, deltas_back (w := w) ((Boxed.new w _ _).alloc _) (by have h := Boxed.new (w.alloc (.cells #[.slice none 0 0] 32)) 24 (.int .i64 2); rw [World.size_alloc] at h; exact h) _ rfl rfl, ?_⟩
      exact ⟨((Below.refl _ w).alloc (Nat.le_refl _) _).alloc (by simp) _, .inr ⟨fun h => h6 (by rw [HN.out]; exact h.2.1), 2, by omega, rfl⟩⟩
  · have d1 : decide ((N : Int) < 1) = true := by simp; omega
    gi_wp2
    refine ⟨_, deltas_back (w := w) ((Boxed.new w _ _).alloc _) (by have h := Boxed.new (w.alloc (.cells #[.slice none 0 0] 32)) 24 (.int .i64 2); rw [World.size_alloc] at h; exact h) _ rfl rfl, ?_⟩
    exact ⟨((Below.refl _ w).alloc (Nat.le_refl _) _).alloc (by simp) _, .inr ⟨fun h => h1 (by rw [HN.out]; exact h.1), 2, by omega, rfl⟩⟩
end Go.Proofs.Ytmgeifolgdgapaa
