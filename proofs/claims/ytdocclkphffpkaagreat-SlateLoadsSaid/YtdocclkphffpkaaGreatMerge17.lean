/- What pages hold that were encoded. Decode of pages that are those of what is read of them. What is read of pages whose header is none: nothing. And Encode of what has no pages. Decode of pages that are not those of what is read of them: nothing, and Corrupt. -/
import Derived.Test.YtdocclkphffpkaaGreatMerge15
import Derived.Test.YtdocclkphffpkaaGreatMerge13
import Derived.Test.YtdocclkphffpkaaGreatLfSame
namespace Go.Proofs.YtdocclkphffpkaaGreat
open Go.RowKit

theorem headF_low {s b seq count len : Nat} {sum : BitVec 32} {i : Nat} (h : i < 17) : headF s b seq count len sum i = headB s b seq count len sum i := by
  unfold headF
  rw [sec_low (by omega)]
  unfold pad
  rw [if_pos h]
theorem dig_one {x : Nat} (h : x < 256) : dig x 1 0 = x := by unfold dig; simp; omega
theorem headB_at {s b seq count len : Nat} {sum : BitVec 32} {i : Nat} (h : i < 8) : headB s b seq count len sum i = if i < 4 then magic i else dig seq 4 (i - 4) := by
  unfold headB cat4 behind
  rw [if_pos (by omega), if_pos (by omega)]
theorem headB_num {s b seq count len : Nat} {sum : BitVec 32} {i : Nat} (h : i < 3) : headB s b seq count len sum (8 + i) = dig (trip s b count i) 1 0 := by
  unfold headB cat4 behind rowB
  rw [if_pos (by omega), if_neg (by omega)]
  show dig (trip s b count ((8 + i - (4 + 4)) / 1)) 1 ((8 + i - (4 + 4)) % 1) = _
  rw [Nat.div_one, Nat.mod_one, show 8 + i - (4 + 4) = i by omega]
theorem headF_s {s b seq count len : Nat} {sum : BitVec 32} (h : s < 256) : headF s b seq count len sum 8 = s := by
  rw [headF_low (by omega)]
  have := headB_num (s := s) (b := b) (seq := seq) (count := count) (len := len) (sum := sum) (i := 0) (by omega)
  exact this.trans (dig_one h)
theorem headF_b {s b seq count len : Nat} {sum : BitVec 32} (h : b < 256) : headF s b seq count len sum 9 = b := by
  rw [headF_low (by omega)]
  have := headB_num (s := s) (b := b) (seq := seq) (count := count) (len := len) (sum := sum) (i := 1) (by omega)
  exact this.trans (dig_one h)
theorem headF_count {s b seq count len : Nat} {sum : BitVec 32} (h : count < 256) : headF s b seq count len sum 10 = count := by
  rw [headF_low (by omega)]
  have := headB_num (s := s) (b := b) (seq := seq) (count := count) (len := len) (sum := sum) (i := 2) (by omega)
  exact this.trans (dig_one h)
theorem headF_seq {s b seq count len : Nat} {sum : BitVec 32} (h : seq < 4294967296) : seqIn (headF s b seq count len sum) = seq := by
  unfold seqIn
  rw [val_congr (g := dig seq 4) fun i hi => by rw [headF_low (by omega), headB_at (by omega), if_neg (by omega), Nat.add_sub_cancel_left]]
  exact val_dig h
theorem headF_sealed (s b seq count len : Nat) (sum : BitVec 32) : Sealed 64 (headF s b seq count len sum) := ⟨rfl, fun i _ => sec_sealed _ _ i⟩
theorem headF_header {s b seq count len : Nat} {sum : BitVec 32} (h1 : 1 ≤ seq) (h2 : seq ≤ 1073741824) (hc : count ≤ 11) : Header 64 (headF s b seq count len sum) := by
  refine ⟨headF_sealed _ _ _ _ _ _, ⟨?_, ?_, ?_, ?_⟩, by rw [headF_seq (by omega)]; exact ⟨h1, h2⟩, by rw [headF_count (by omega)]; exact hc⟩
  all_goals
    rw [headF_low (by omega), headB_at (by omega), if_pos (by omega)]
    rfl

theorem leafF_low {seq n : Nat} {f : Nat → Nat} {k i : Nat} (h : i < 6 + plen n k) : leafF seq n f k i = leafB seq n f k i := by
  have := plen_le n k
  unfold leafF
  rw [sec_low (by omega)]
  unfold pad
  rw [if_pos h]
theorem leafF_sealed (seq n : Nat) (f : Nat → Nat) (k : Nat) : Sealed 64 (leafF seq n f k) := ⟨rfl, fun i _ => sec_sealed _ _ i⟩
theorem leafF_size (seq n : Nat) (f : Nat → Nat) (k : Nat) : leafF seq n f k 5 = plen n k := by
  have := plen_le n k
  rw [leafF_low (by omega)]
  unfold leafB
  rw [behind_low (by omega), behind_high (by omega)]
  rfl
theorem leafF_text {seq n : Nat} {f : Nat → Nat} {k j : Nat} (h : j < plen n k) : leafF seq n f k (6 + j) = f (k * 52 + j) := by
  rw [leafF_low (by omega)]
  unfold leafB
  rw [behind_high (by omega), Nat.add_sub_cancel_left]
theorem leafF_dlen (seq n : Nat) (f : Nat → Nat) (k : Nat) : dlen (leafF seq n f k) = plen n k := by
  have := plen_le n k
  unfold dlen
  rw [leafF_size]
  omega
theorem encF_head {s b seq n : Nat} {f : Nat → Nat} : encF s b seq n f 0 = headF s b seq (pcount n) n (crc f n) := rfl
theorem encF_leaf {s b seq n : Nat} {f : Nat → Nat} (i : Nat) : encF s b seq n f (i + 1) = leafF seq n f i := rfl

/-- What is joined of a text's parts: the text. -/
theorem join_text (seq n : Nat) (f : Nat → Nat) (k : Nat) (hk : k ≤ pcount n) : (joinL ((List.range k).map (dpart fun i => leafF seq n f i))).1 = min n (k * 52) ∧ ∀ j, j < min n (k * 52) → (joinL ((List.range k).map (dpart fun i => leafF seq n f i))).2 j = f j := by
  induction k with
  | zero => exact ⟨by simp [joinL], fun j hj => by simp at hj⟩
  | succ k ih =>
    obtain ⟨e, hs⟩ := ih (by omega)
    have hlt : k * 52 < n := pcount_lt.1 (by omega)
    have hm : min n (k * 52) = k * 52 := by omega
    rw [List.range_succ, List.map_append, List.map_cons, List.map_nil, joinL_snoc, e, hm]
    rw [hm] at hs
    have hd : (dpart (fun i => leafF seq n f i) k).1 = plen n k := leafF_dlen seq n f k
    rw [hd]
    refine ⟨by unfold plen; omega, fun j hj => ?_⟩
    show behind _ (k * 52) (fun j => leafF seq n f k (6 + j)) j = f j
    by_cases h : j < k * 52
    · rw [behind_low h]; exact hs j h
    · rw [behind_high (by omega), leafF_text (by unfold plen; omega), Nat.add_sub_of_le (by omega)]
/-- All leaves are sealed: none is left out. -/
theorem sound_enc {s b seq n : Nat} {f : Nat → Nat} {k : Nat} (h : Sound (pcount n) (fun _ => 64) (fun i => encF s b seq n f (i + 1)) k) : k = pcount n := by
  by_cases hk : k < pcount n
  · exact absurd (leafF_sealed seq n f k) (h.2.2 hk)
  · have := h.1
    omega
end Go.Proofs.YtdocclkphffpkaaGreat

namespace Go.Proofs.YtdocclkphffpkaaGreat
open Go.RowKit

theorem headF_lt {s b seq count len : Nat} {sum : BitVec 32} (i : Nat) : headF s b seq count len sum i < 256 := sec_lt (fun j hj => headB_lt j hj) i
theorem encF_lt {s b seq n : Nat} {f : Nat → Nat} (hf : ∀ i, i < n → f i < 256) (i j : Nat) : encF s b seq n f i j < 256 := by
  unfold encF
  split
  · exact headF_lt j
  · exact sec_lt (fun k hk => leafB_lt hf hk) j

theorem setCells_still {w : World} {g : Nat} {cs : Array Value} {T : TypeId} {fr : Nat × Nat} (h : w.heap[g]? = some (.cells cs T fr)) : ∀ (vs : List Value) (o : Nat), (∀ (j : Nat) (v : Value), vs[j]? = some v → cs[o + j]? = some v) → w.setCells g o vs = w
  | [], _, _ => rfl
  | v :: r, o, hv => by
    rw [World.setCells, setCell_still h (by have := hv 0 v rfl; exact this)]
    exact setCells_still h r (o + 1) fun j u hu => by rw [Nat.add_assoc, Nat.add_comm 1 j]; exact hv (j + 1) u hu
theorem StIs.still {w : World} {b : Nat} {K S : Nat → Nat} {V : Nat → Value} (h : StIs w b K S V) : w.setCells b 0 (scells K S V) = w :=
  setCells_still h _ 0 fun j v hj => by rw [Nat.zero_add, List.getElem?_toArray]; exact hj

/-- Two results that lie in cells, and two more. -/
theorem results_cells22 {P : Program} {fn : Func} {p q t s : Tmp} {ty uy : TypeId} (h : fn.results = #[.cell p ty, .cell q uy, .tmp t, .tmp s]) (tmps : Array Value) (w : World) (a b : Addr) (v u : Value) (hp : tmps.getD p undef = .pointer (some a)) (hq : tmps.getD q undef = .pointer (some b))
    (hv : (loadVar ty a).run P w = .ok v w) (hu : (loadVar uy b).run P w = .ok u w) : (results fn tmps).run P w = .ok (.tuple #[v, u, tmps.getD t undef, tmps.getD s undef]) w := by
  have hp2 : tmps[p]?.getD undef = .pointer (some a) := by simpa using hp
  have hq2 : tmps[q]?.getD undef = .pointer (some b) := by simpa using hq
  simp only [results, h]
  simp [hp2, hq2, asAddr, hv, hu]

/-- What lies behind a certain block stays. -/
def StaysFrom (n : Nat) (W W' : World) : Prop := W.heap.size ≤ W'.heap.size ∧ ∀ g o, n ≤ g → W.heap[g]? = some o → (∀ x, o ≠ .deferred x) → W'.heap[g]? = some o
theorem staysFrom_below {n : Nat} {W W' : World} (h : Below W.heap.size W W') : StaysFrom n W W' := ⟨h.size, fun g _ _ hg _ => (h.block g (Array.getElem?_eq_some_iff.1 hg).1).trans hg⟩

set_option maxRecDepth 20000 in
set_option maxHeartbeats 1000000 in
theorem decode_good (v : Value) (N : Nat) (L : Nat → Nat) (F : Nat → Nat → Nat) (s b seq n : Nat) (f : Nat → Nat) (w : World) (hs : s < 256) (hb : b < 256) (h1 : 1 ≤ seq) (h2 : seq ≤ 1073741824) (hn : n ≤ 10000) (hf : ∀ i, i < n → f i < 256) (hv : ReadsP w v N L F)
    (PS : (Nat → Nat) → (Nat → Nat) → (Nat → Value) → World → Prop)
    (hps : ∀ K S V W W', PS K S V W → StaysFrom (w.heap.size + 2) W W' → PS K S V W')
    (hone : ∀ K S V W, PS K S V W → ∀ i, i < 8 → (V i).oneCell' = true)
    (hread : ∀ W, W.heap.size = w.heap.size + 2 → Below w.heap.size w W → Calls Tryz.prog 57 #[v] W fun e w' => ∃ K S V, e = .returned (.tuple #[.agg (scells K S V).toArray, .agg #[.int .i64 (s : Int), .int .i64 (b : Int)], .int .i64 (seq : Int)]) ∧ PS K S V w' ∧ Below W.heap.size W w')
    (hfit : ∀ K S V W, PS K S V W → Calls Tryz.prog 45 #[.agg (scells K S V).toArray, .agg #[.int .i64 (s : Int), .int .i64 (b : Int)]] W (Fresh (.int .i64 0) W))
    (htext : ∀ K S V W, PS K S V W → Calls Tryz.prog 46 #[.agg (scells K S V).toArray, .int .i64 (b : Int)] W fun e w' => ∃ v, e = .returned v ∧ Reads w' v n f ∧ Below W.heap.size W w')
    (hsame : SameP N (pcount n + 1) L (fun _ => 64) F (encF s b seq n f)) :
    Calls Tryz.prog 35 #[v] w fun e w' => ∃ K S V, e = .returned (.tuple #[.agg (scells K S V).toArray, .agg #[.int .i64 (s : Int), .int .i64 (b : Int)], .int .i64 (seq : Int), .int .i64 0]) ∧ PS K S V w' ∧ Below w.heap.size w w' := by
  obtain ⟨A, c, rfl, v1, v2, v3, v4⟩ := id hv
  have hzs := zero_state
  have hzp := plat_zero
  have HV := Lib.hid hv
  have HRD := Lib.hid hread
  have HFT := Lib.hid hfit
  have HTX := Lib.hid htext
  have HSM := Lib.hid hsame
  have HPS := Lib.hid hps
  have HON := Lib.hid hone
  have HF := Lib.hid hf
  obtain ⟨w1, hw1⟩ : ∃ w1, w1 = (w.alloc (.cells (scells z0 z0 zV).toArray 32)).alloc (.cells #[.int .i64 0, .int .i64 0] 34) := ⟨_, rfl⟩
  have Z1 : Hid (w1.heap.size = w.heap.size + 2) := Lib.hid (by rw [hw1]; simp)
  have B1 : Hid (Below w.heap.size w w1) := Lib.hid (by rw [hw1]; exact ((Below.refl _ w).alloc (Nat.le_refl _) _).alloc (by simp) _)
  have S1 : Hid (StIs w1 w.heap.size z0 z0 zV) := Lib.hid (by rw [hw1]; exact (st_new w z0 z0 zV).below ((Below.refl _ _).alloc (Nat.le_refl _) _))
  have P1 : Hid (RowIs w1 (w.heap.size + 1) 34 (fun _ => .int .i64 0) 2) := Lib.hid (by
    rw [hw1]
    have h := row_new (w.alloc (.cells (scells z0 z0 zV).toArray 32)) 34 (fun _ => .int .i64 0) 2 [.int .i64 0, .int .i64 0] rfl (fun i hi => by rcases (by omega : i = 0 ∨ i = 1) with rfl | rfl <;> rfl)
    rw [World.size_alloc] at h
    exact h)
  clear hv v4 hread hfit htext hsame hps hone hf
  go_enter Tryz.func35, Tryz.ntmps35
  go_wp2_with fail
  rw [← hw1]
  clear hw1
  with_reducible refine (HRD.out w1 Z1.out B1.out).mono ?_
  rintro e w2 ⟨K, S, V, rfl, hps2, hb2⟩
  have PS2 := Lib.hid hps2
  have VO := Lib.hid (HON.out _ _ _ _ hps2)
  have B2 := Lib.hid (B1.out.trans (hb2.mono B1.out.size))
  have S2 := Lib.hid (S1.out.below hb2)
  have P2 := Lib.hid (P1.out.below hb2)
  have Z2 : Hid (w.heap.size + 2 ≤ w2.heap.size) := Lib.hid (by have := Z1.out; have := hb2.size; omega)
  clear hps2 hb2 S1 P1 B1
  have RT : w2.there w.heap.size 0 (scells K S V).toArray.size := StIs.there_ S2.out
  obtain ⟨w3, hw3, st3, a3⟩ := store_state (K' := K) (S' := S) (V' := V) S2.out
  have S3 := Lib.hid st3
  have P3 : Hid (RowIs w3 (w.heap.size + 1) 34 (fun _ => .int .i64 0) 2) := Lib.hid (RowIs.apart P2.out a3 (by omega))
  have B3 : Hid (Below w.heap.size w w3) := Lib.hid (B2.out.trans (a3.below B2.out.size fun i hi e => by omega))
  have PS3 : Hid (PS K S V w3) := Lib.hid (HPS.out _ _ _ _ _ PS2.out ⟨a3.size, fun g o hg ho _ => (a3.block g (Array.getElem?_eq_some_iff.1 ho).1 (by omega)).trans ho⟩)
  have p0 := RowIs.cell P3.out (i := 0) (by omega)
  have p1 := RowIs.cell P3.out (i := 1) (by omega)
  have f0 := RowIs.free P3.out 0
  have f1 := RowIs.free P3.out 1
  have P4 : Hid (RowIs (w3.setCell ⟨w.heap.size + 1, 0, none⟩ (.int .i64 (s : Int))) (w.heap.size + 1) 34 (fun i => if i = 0 then .int .i64 (s : Int) else .int .i64 0) 2) := Lib.hid (P3.out.set_ (fun _ => by simp) (fun i _ hi => by simp [hi]))
  have P5 : Hid (RowIs ((w3.setCell ⟨w.heap.size + 1, 0, none⟩ (.int .i64 (s : Int))).setCell ⟨w.heap.size + 1, 1, none⟩ (.int .i64 (b : Int))) (w.heap.size + 1) 34 (fun i => if i = 0 then .int .i64 (s : Int) else .int .i64 (b : Int)) 2) := Lib.hid (P4.out.set_ (fun _ => by simp) (fun i hi hk => by rw [if_pos (show i = 0 by omega), if_pos (show i = 0 by omega)]))
  have p2 : (w3.setCell ⟨w.heap.size + 1, 0, none⟩ (.int .i64 (s : Int))).cell? ⟨w.heap.size + 1, 1, none⟩ = some (.int .i64 0) := RowIs.cell P4.out (i := 1) (by omega)
  have f2 := RowIs.free P4.out 1
  obtain ⟨w5, hw5⟩ : ∃ w5, w5 = (w3.setCell ⟨w.heap.size + 1, 0, none⟩ (.int .i64 (s : Int))).setCell ⟨w.heap.size + 1, 1, none⟩ (.int .i64 (b : Int)) := ⟨_, rfl⟩
  have a5 : Apart (fun k => k = w.heap.size + 1) w3 w5 := by
    rw [hw5]
    exact ((Apart.refl (fun k => k = w.heap.size + 1) w3).setCell (p := ⟨w.heap.size + 1, 0, none⟩) (fun _ => rfl) _).setCell (p := ⟨w.heap.size + 1, 1, none⟩) (fun _ => rfl) _
  have P6 : Hid (RowIs w5 (w.heap.size + 1) 34 (fun i => if i = 0 then .int .i64 (s : Int) else .int .i64 (b : Int)) 2) := Lib.hid (by rw [hw5]; exact P5.out)
  have S5 : Hid (StIs w5 w.heap.size K S V) := Lib.hid (RowIs.apart S3.out a5 (by omega))
  have B5 : Hid (Below w.heap.size w w5) := Lib.hid (B3.out.trans (a5.below B3.out.size fun i hi e => by omega))
  have PS5 : Hid (PS K S V w5) := Lib.hid (HPS.out _ _ _ _ _ PS3.out ⟨a5.size, fun g o hg ho _ => (a5.block g (Array.getElem?_eq_some_iff.1 ho).1 (by omega)).trans ho⟩)
  have q0 : w5.cell? ⟨w.heap.size + 1, 0, none⟩ = some (.int .i64 (s : Int)) := RowIs.cell P6.out (i := 0) (by omega)
  have q1 : w5.cell? ⟨w.heap.size + 1, 1, none⟩ = some (.int .i64 (b : Int)) := RowIs.cell P6.out (i := 1) (by omega)
  have V1 := scells_one VO.out (K := K) (S := S)
  clear a3 st3 a5 P4 P5 PS2 PS3 S3 P3 B3 P2 S2 B2
  have hmx : Tryz.prog.follows .mixedOrders = true := by kernel_rfl
  go_wp2_with (first
    | (refine wpList_store_mid rfl 32 (.tmp 2) (.tmp 10) rfl w.heap.size 0 (scells K S V).toArray rfl rfl RT (state_len' _ _ _) V1 ?_; rw [show (scells K S V).toArray.toList = scells K S V from rfl, ← hw3]; clear hw3 RT V1)
    | (rw [← hw5]; clear hw5 p0 p1 p2 f0 f1 f2; refine wpList_load_mid rfl 32 (.tmp 2) rfl w.heap.size 0 rfl (scells K S V) _ (StIs.whole S5.out) Tryz.underlying32 rfl (state_len _ _ _) ?_))
  refine (encode_fits K S V s b seq n f w5 hs hb h1 h2 hn (fun W hW => HFT.out _ _ _ _ (HPS.out _ _ _ _ _ PS5.out (staysFrom_below hW))) (fun W hW => HTX.out _ _ _ _ (HPS.out _ _ _ _ _ PS5.out (staysFrom_below hW)))).mono ?_
  rintro e w6 ⟨v6, rfl, hp6, hb6⟩
  obtain ⟨A6, c6, e6⟩ := hp6.shape
  subst e6
  have PS6 := Lib.hid (HPS.out _ _ _ _ _ PS5.out (staysFrom_below hb6))
  have S6 := Lib.hid (S5.out.below hb6)
  have P7 := Lib.hid (RowIs.below P6.out hb6)
  have B6 := Lib.hid (B5.out.trans (hb6.mono B5.out.size))
  have R6 := Lib.hid (hp6.reads (fun i _ j _ => encF_lt HF.out i j))
  have V6 := Lib.hid (HV.out.below B6.out)
  clear hp6 hb6 q0 q1 P6 S5 PS5 B5 HFT HTX HRD
  go_wp2_with fail
  with_reducible refine (sameFunc_any _ _ _ _ _ _ _ _ w6 V6.out R6.out).mono ?_
  rintro e w' ⟨x, rfl, hx, rfl⟩
  obtain rfl : x = true := hx.2 HSM.out
  clear hx
  go_wp2
  obtain ⟨w7, hw7⟩ : ∃ w7, w7 = w6.drew := ⟨_, rfl⟩
  have S7 : Hid (StIs w7 w.heap.size K S V) := Lib.hid (by rw [hw7]; exact S6.out)
  have P8 : Hid (RowIs w7 (w.heap.size + 1) 34 (fun i => if i = 0 then .int .i64 (s : Int) else .int .i64 (b : Int)) 2) := Lib.hid (by rw [hw7]; exact P7.out)
  have B7 : Hid (Below w.heap.size w w7) := Lib.hid (by rw [hw7]; exact B6.out.drew)
  have PS7 : Hid (PS K S V w7) := Lib.hid (HPS.out _ _ _ _ _ PS6.out (by rw [hw7]; exact ⟨Nat.le_refl _, fun g o _ ho _ => ho⟩))
  have q0 : w7.cell? ⟨w.heap.size + 1, 0, none⟩ = some (.int .i64 (s : Int)) := RowIs.cell P8.out (i := 0) (by omega)
  have q1 : w7.cell? ⟨w.heap.size + 1, 1, none⟩ = some (.int .i64 (b : Int)) := RowIs.cell P8.out (i := 1) (by omega)
  have RT : w7.there w.heap.size 0 (scells K S V).toArray.size := StIs.there_ S7.out
  have V1 := scells_one VO.out (K := K) (S := S)
  have s7 : w7.setCells w.heap.size 0 (scells K S V) = w7 := StIs.still S7.out
  clear S6 P7 B6 PS6 R6 V6 HV HSM
  refine wp_region_noPanic ?_
  refine wp_region_held_drew (S := fun w' => w' = w7) (by kernel_rfl) hw7.symm (fun hH => ?_)
  rw [← hw7] at hH ⊢
  clear hw7
  refine wpAnyH_take (i := 0) (v := .agg (scells K S V).toArray) rfl (by kernel_rfl) (by kernel_rfl) (by kernel_rfl) (fun _ _ _ h => h) (yieldsIf_load_mid (by rfl) 32 (.tmp 2) rfl w.heap.size 0 rfl (scells K S V) _ (fun w' hS => by rw [hS]; exact StIs.whole S7.out) Tryz.underlying32 rfl (state_len _ _ _)) hH ?_
  simp only [Act.put, List.setIfInBounds_toArray]
  refine wpAnyH_take (i := 1) (v := .agg #[.int .i64 (s : Int), .int .i64 (b : Int)]) rfl (by kernel_rfl) (by kernel_rfl) (by kernel_rfl) (fun _ _ _ h => h) (Or.inl ⟨by rfl, fun w' hS => by subst hS; go_simp⟩) hH ?_
  simp only [Act.put]
  refine wpAnyH_take (i := 2) (v := .int .i64 (seq : Int)) rfl (by kernel_rfl) (by kernel_rfl) (by kernel_rfl) (fun _ _ _ h => h) (Or.inl ⟨by rfl, fun w' hS => by go_simp⟩) hH ?_
  simp only [Act.put]
  refine wpAnyH_ready (rs := [3]) (by kernel_rfl) (by simp) ?_
  refine AllReadyH.cons rfl (fun K_ hK_ => ?_) AllReadyH.nil
  rw [if_pos (by rfl)]
  refine wp_store_mid 32 (.tmp 2) (.tmp 30) rfl w.heap.size 0 (scells K S V).toArray rfl rfl RT (state_len' _ _ _) V1 ?_
  rw [show (scells K S V).toArray.toList = scells K S V from rfl, s7]
  refine hK_.out _ _ hH (fun hH => ?_)
  clear hK_ K_ RT V1 s7
  have f0 := RowIs.free P8.out 0
  have f1 := RowIs.free P8.out 1
  have s0 : w7.setCell ⟨w.heap.size + 1, 0, none⟩ (.int .i64 (s : Int)) = w7 := RowIs.still P8.out (by omega) (by rfl)
  have s1 : w7.setCell ⟨w.heap.size + 1, 1, none⟩ (.int .i64 (b : Int)) = w7 := RowIs.still P8.out (by omega) (by rfl)
  refine wpAnyH_ready (rs := [4]) (by kernel_rfl) (by simp) ?_
  refine AllReadyH.cons rfl (fun K_ hK_ => ?_) AllReadyH.nil
  go_simp
  refine hK_.out _ _ hH (fun hH => ?_)
  clear hK_ K_ s0 s1 f0 f1
  refine wpAnyH_ready (rs := [5]) (by kernel_rfl) (by simp) ?_
  refine AllReadyH.cons rfl (fun K_ hK_ => ?_) AllReadyH.nil
  go_simp
  refine hK_.out _ _ hH (fun hH => ?_)
  clear hK_ K_
  refine wpAnyH_ready (rs := [6]) (by kernel_rfl) (by simp) ?_
  refine AllReadyH.cons rfl (fun K_ hK_ => ?_) AllReadyH.nil
  go_simp
  refine hK_.out _ _ hH (fun hH => ?_)
  clear hK_ K_ hH q0 q1
  refine wpAnyH_done (by kernel_rfl) ?_ _
  refine NoPanic.normal ?_
  have l1 : (loadVar 32 ⟨w.heap.size, 0, none⟩).run Tryz.prog w7 = .ok (.agg (scells K S V).toArray) w7 := run_loadVar_mid _ _ _ _ (scells K S V) _ (StIs.whole S7.out) Tryz.underlying32 rfl (state_len _ _ _)
  have l2 : (loadVar 34 ⟨w.heap.size + 1, 0, none⟩).run Tryz.prog w7 = .ok (.agg #[.int .i64 (s : Int), .int .i64 (b : Int)]) w7 := run_loadVar_mid _ _ _ _ [.int .i64 (s : Int), .int .i64 (b : Int)] _ (RowIs.range P8.out (by simp) (fun j hj => by
    have : j = 0 ∨ j = 1 := by simp at hj; omega
    rcases this with rfl | rfl <;> rfl)) Tryz.underlying34 rfl plat_size
  have L1 := Lib.hid l1
  have L2 := Lib.hid l2
  clear l1 l2
  go_wp2
  refine bodyPost_ret (results_cells22 (fn := Tryz.f35) rfl _ _ ⟨w.heap.size, 0, none⟩ ⟨w.heap.size + 1, 0, none⟩ _ _ rfl rfl L1.out L2.out) rfl ?_
  exact ⟨K, S, V, rfl, PS7.out, B7.out⟩
end Go.Proofs.YtdocclkphffpkaaGreat

namespace Go.Proofs.YtdocclkphffpkaaGreat
open Go.RowKit Go.Shelf

attribute [local go_sem] Oper.semAt_some

set_option maxRecDepth 100000 in
set_option maxHeartbeats 1000000 in
theorem read_bad (v : Value) (N : Nat) (L : Nat → Nat) (F : Nat → Nat → Nat) (w : World) (hv : ReadsP w v N L F) (hbad : N = 0 ∨ ¬ Header (L 0) (F 0) ∨ F 0 10 + 1 ≠ N) :
    Calls Tryz.prog 57 #[v] w fun e w' => e = .returned (.tuple #[.agg (scells z0 z0 zV).toArray, .agg #[.int .i64 0, .int .i64 0], .int .i64 0]) ∧ Below w.heap.size w w' := by
  obtain ⟨A, c, rfl, v1, v2, v3, v4⟩ := id hv
  have hzs := zero_state
  have hzp := plat_zero
  have HV := Lib.hid hv
  have HBAD := Lib.hid hbad
  obtain ⟨w1, hw1⟩ : ∃ w1, w1 = (w.alloc (.cells (scells z0 z0 zV).toArray 32)).alloc (.cells #[.int .i64 0, .int .i64 0] 34) := ⟨_, rfl⟩
  have B1 : Hid (Below w.heap.size w w1) := Lib.hid (by rw [hw1]; exact ((Below.refl _ w).alloc (Nat.le_refl _) _).alloc (by simp) _)
  have S1 : Hid (StIs w1 w.heap.size z0 z0 zV) := Lib.hid (by rw [hw1]; exact (st_new w z0 z0 zV).below ((Below.refl _ _).alloc (Nat.le_refl _) _))
  have P1 : Hid (RowIs w1 (w.heap.size + 1) 34 (fun _ => .int .i64 0) 2) := Lib.hid (by
    rw [hw1]
    have h := row_new (w.alloc (.cells (scells z0 z0 zV).toArray 32)) 34 (fun _ => .int .i64 0) 2 [.int .i64 0, .int .i64 0] rfl (fun i hi => by rcases (by omega : i = 0 ∨ i = 1) with rfl | rfl <;> rfl)
    rw [World.size_alloc] at h
    exact h)
  clear hv v4 hbad
  -- how it ends, wherever it returns
  have END : ∀ w2, StIs w2 w.heap.size z0 z0 zV → RowIs w2 (w.heap.size + 1) 34 (fun _ => .int .i64 0) 2 → (loadVar 32 ⟨w.heap.size, 0, none⟩).run Tryz.prog w2 = .ok (.agg (scells z0 z0 zV).toArray) w2 ∧ (loadVar 34 ⟨w.heap.size + 1, 0, none⟩).run Tryz.prog w2 = .ok (.agg #[.int .i64 0, .int .i64 0]) w2 := fun w2 s2 p2 =>
    ⟨run_loadVar_mid _ _ _ _ (scells z0 z0 zV) _ (StIs.whole s2) Tryz.underlying32 rfl (state_len _ _ _), run_loadVar_mid _ _ _ _ [.int .i64 0, .int .i64 0] _ (RowIs.range p2 (by simp) (fun j hj => by
      have : j = 0 ∨ j = 1 := by simp at hj; omega
      rcases this with rfl | rfl <;> rfl)) Tryz.underlying34 rfl plat_size⟩
  have END := Lib.hid END
  by_cases hN : N = 0
  · subst hN
    have RT : w1.there w.heap.size 0 (scells z0 z0 zV).toArray.size := StIs.there_ S1.out
    have V1 : (scells z0 z0 zV).toArray.all (·.oneCell') = true := scells_one fun _ _ => rfl
    have still : w1.setCells w.heap.size 0 (scells z0 z0 zV) = w1 := StIs.still S1.out
    have p0 : w1.cell? ⟨w.heap.size + 1, 0, none⟩ = some (.int .i64 0) := RowIs.cell P1.out (i := 0) (by omega)
    have p1 : w1.cell? ⟨w.heap.size + 1, 1, none⟩ = some (.int .i64 0) := RowIs.cell P1.out (i := 1) (by omega)
    have f0 := RowIs.free P1.out 0
    have f1 := RowIs.free P1.out 1
    have t0 : w1.setCell ⟨w.heap.size + 1, 0, none⟩ (.int .i64 0) = w1 := RowIs.still P1.out (by omega) rfl
    have t1 : w1.setCell ⟨w.heap.size + 1, 1, none⟩ (.int .i64 0) = w1 := RowIs.still P1.out (by omega) rfl
    refine (callsIn_wide (n := 3)).1 ?_
    refine callsIn_of_wp_marks Tryz.func57 rfl trivial ?_ rfl
    simp only [Tryz.ntmps57, List.size_toArray, List.length_cons, List.length_nil, Nat.reduceAdd, Nat.reduceSub, Array.replicate_succ, Array.replicate_zero, List.push_toArray, List.append_toArray, List.nil_append, List.cons_append]
    refine wpIn_wide.2 ?_
    go_wp2_with (rw [← hw1]; clear hw1; refine wpList_store_mid rfl 32 (.tmp 2) (.tmp 14) rfl w.heap.size 0 (scells z0 z0 zV).toArray rfl rfl RT (state_len' _ _ _) V1 ?_; rw [show (scells z0 z0 zV).toArray.toList = scells z0 z0 zV from rfl, still]; clear still RT V1)
    exact ⟨_, results_cells2 (fn := Tryz.f57) rfl _ _ ⟨w.heap.size, 0, none⟩ ⟨w.heap.size + 1, 0, none⟩ _ _ rfl rfl (END.out _ S1.out P1.out).1 (END.out _ S1.out P1.out).2, rfl, B1.out⟩
  · obtain ⟨ad, u, rfl, hcu, hru⟩ := HV.out.page_at (show 0 < N by omega)
    have hcu' : w.cell? ad = some u := by simpa [Addr.add] using hcu
    have RU := Lib.hid hru
    have hcu1 : ((w.alloc (.cells (scells z0 z0 zV).toArray 32)).alloc (.cells #[.int .i64 0, .int .i64 0] 34)).cell? ad = some u := by rw [← hw1]; exact cell_later B1.out hcu'
    have hN0 : ((N : Int) == 0) = false := by simpa using hN
    have hNp : 0 < N := by omega
    have N0 := Lib.hid hN
    clear hcu hcu' hru hN
    refine (callsIn_wide (n := 3)).1 ?_
    refine callsIn_of_wp_marks Tryz.func57 rfl trivial ?_ rfl
    simp only [Tryz.ntmps57, List.size_toArray, List.length_cons, List.length_nil, Nat.reduceAdd, Nat.reduceSub, Array.replicate_succ, Array.replicate_zero, List.push_toArray, List.append_toArray, List.nil_append, List.cons_append]
    refine wpIn_wide.2 ?_
    go_wp2_with fail
    rw [← hw1]
    clear hw1 hcu1
    with_reducible refine (count_any u (L 0) (F 0) w1 (RU.out.below B1.out)).mono ?_
    rintro e w2 ⟨⟨hh, rfl⟩ | ⟨hno, rfl⟩, hb2⟩
    all_goals
      have B2 := Lib.hid (B1.out.trans (hb2.mono B1.out.size))
      have S2 := Lib.hid (S1.out.below hb2)
      have P2 := Lib.hid (P1.out.below hb2)
      have RT : w2.there w.heap.size 0 (scells z0 z0 zV).toArray.size := StIs.there_ S2.out
      have V1 : (scells z0 z0 zV).toArray.all (·.oneCell') = true := scells_one fun _ _ => rfl
      have still : w2.setCells w.heap.size 0 (scells z0 z0 zV) = w2 := StIs.still S2.out
      have p0 : w2.cell? ⟨w.heap.size + 1, 0, none⟩ = some (.int .i64 0) := RowIs.cell P2.out (i := 0) (by omega)
      have p1 : w2.cell? ⟨w.heap.size + 1, 1, none⟩ = some (.int .i64 0) := RowIs.cell P2.out (i := 1) (by omega)
      have f0 := RowIs.free P2.out 0
      have f1 := RowIs.free P2.out 1
      have t0 : w2.setCell ⟨w.heap.size + 1, 0, none⟩ (.int .i64 0) = w2 := RowIs.still P2.out (by omega) rfl
      have t1 : w2.setCell ⟨w.heap.size + 1, 1, none⟩ (.int .i64 0) = w2 := RowIs.still P2.out (by omega) rfl
      clear hb2 S1 P1 B1
    · have hne : ((F 0 10 : Int) != (N : Int) - 1) = true := by
        have := HBAD.out
        simp only [bne_iff_ne, ne_eq]
        rcases this with h | h | h
        · exact absurd h N0.out
        · exact absurd hh h
        · omega
      go_wp2_with (refine wpList_store_mid rfl 32 (.tmp 2) (.tmp 33) rfl w.heap.size 0 (scells z0 z0 zV).toArray rfl rfl RT (state_len' _ _ _) V1 ?_; rw [show (scells z0 z0 zV).toArray.toList = scells z0 z0 zV from rfl, still]; clear still RT V1)
      exact ⟨_, results_cells2 (fn := Tryz.f57) rfl _ _ ⟨w.heap.size, 0, none⟩ ⟨w.heap.size + 1, 0, none⟩ _ _ rfl rfl (END.out _ S2.out P2.out).1 (END.out _ S2.out P2.out).2, rfl, B2.out⟩
    · go_wp2_with (refine wpList_store_mid rfl 32 (.tmp 2) (.tmp 33) rfl w.heap.size 0 (scells z0 z0 zV).toArray rfl rfl RT (state_len' _ _ _) V1 ?_; rw [show (scells z0 z0 zV).toArray.toList = scells z0 z0 zV from rfl, still]; clear still RT V1)
      exact ⟨_, results_cells2 (fn := Tryz.f57) rfl _ _ ⟨w.heap.size, 0, none⟩ ⟨w.heap.size + 1, 0, none⟩ _ _ rfl rfl (END.out _ S2.out P2.out).1 (END.out _ S2.out P2.out).2, rfl, B2.out⟩
end Go.Proofs.YtdocclkphffpkaaGreat

namespace Go.Proofs.YtdocclkphffpkaaGreat
open Go.RowKit

theorem P9_of {w : World} {g : Nat} {T : TypeId} {s b : Int} (h : RowIs w g T (fun i => if i = 0 then .int .i64 s else .int .i64 b) 2) :
    RowIs ((w.setCell ⟨g, 0, none⟩ (.int .i64 0)).setCell ⟨g, 1, none⟩ (.int .i64 0)) g T (fun _ => .int .i64 0) 2 :=
  (h.set_ (k := 0) (C' := fun i => if i = 0 then .int .i64 0 else .int .i64 b) (v := .int .i64 0) (fun _ => rfl) (fun i _ hi => by simp [hi])).set_ (fun _ => rfl)
    (fun i hi hk => by rw [if_pos (show i = 0 by omega)])

theorem S9_of {w : World} {g : Nat} {K S : Nat → Nat} {V : Nat → Value} (h : StIs w g K S V) : StIs ((w.setCell ⟨g + 1, 0, none⟩ (.int .i64 0)).setCell ⟨g + 1, 1, none⟩ (.int .i64 0)) g K S V :=
  RowIs.apart h (((Apart.refl (fun k => k = g + 1) w).setCell (p := ⟨g + 1, 0, none⟩) (fun _ => rfl) _).setCell (p := ⟨g + 1, 1, none⟩) (fun _ => rfl) _) (by omega)

theorem B9_of {w w1 : World} {g : Nat} (h : Below g w w1) : Below g w ((w1.setCell ⟨g + 1, 0, none⟩ (.int .i64 0)).setCell ⟨g + 1, 1, none⟩ (.int .i64 0)) :=
  (h.setCell (p := ⟨g + 1, 0, none⟩) (Nat.le_succ g) _).setCell (p := ⟨g + 1, 1, none⟩) (Nat.le_succ g) _

set_option maxRecDepth 20000 in
set_option maxHeartbeats 1000000 in
theorem decode_bad (v : Value) (N : Nat) (L : Nat → Nat) (F : Nat → Nat → Nat) (s b seq : Int) (w : World) (hv : ReadsP w v N L F)
    (PS : (Nat → Nat) → (Nat → Nat) → (Nat → Value) → World → Prop)
    (hps : ∀ K S V W W', PS K S V W → StaysFrom (w.heap.size + 2) W W' → PS K S V W')
    (hone : ∀ K S V W, PS K S V W → ∀ i, i < 8 → (V i).oneCell' = true)
    (hread : ∀ W, W.heap.size = w.heap.size + 2 → Below w.heap.size w W → Calls Tryz.prog 57 #[v] W fun e w' => ∃ K S V, e = .returned (.tuple #[.agg (scells K S V).toArray, .agg #[.int .i64 s, .int .i64 b], .int .i64 seq]) ∧ PS K S V w' ∧ Below W.heap.size W w')
    (henc : ∀ K S V W, PS K S V W → Calls Tryz.prog 28 #[.agg (scells K S V).toArray, .agg #[.int .i64 s, .int .i64 b], .int .i64 seq] W fun e w' => ((∃ x, e = .returned (.tuple #[.slice none 0 0, .int .i64 x]) ∧ x ≠ 0) ∨ (∃ u M L' F', e = .returned (.tuple #[u, .int .i64 0]) ∧ ReadsP w' u M L' F' ∧ ¬ SameP N M L L' F F')) ∧ Below W.heap.size W w') :
    Calls Tryz.prog 35 #[v] w fun e w' => e = .returned (.tuple #[.agg (scells z0 z0 zV).toArray, .agg #[.int .i64 0, .int .i64 0], .int .i64 0, .int .i64 11]) ∧ Below w.heap.size w w' := by
  obtain ⟨A, c, rfl, v1, v2, v3, v4⟩ := id hv
  have hzs := zero_state
  have hzp := plat_zero
  have HV := Lib.hid hv
  have HRD := Lib.hid hread
  have HEN := Lib.hid henc
  have HPS := Lib.hid hps
  have HON := Lib.hid hone
  obtain ⟨w1, hw1⟩ : ∃ w1, w1 = (w.alloc (.cells (scells z0 z0 zV).toArray 32)).alloc (.cells #[.int .i64 0, .int .i64 0] 34) := ⟨_, rfl⟩
  have Z1 : Hid (w1.heap.size = w.heap.size + 2) := Lib.hid (by rw [hw1]; simp)
  have B1 : Hid (Below w.heap.size w w1) := Lib.hid (by rw [hw1]; exact ((Below.refl _ w).alloc (Nat.le_refl _) _).alloc (by simp) _)
  have S1 : Hid (StIs w1 w.heap.size z0 z0 zV) := Lib.hid (by rw [hw1]; exact (st_new w z0 z0 zV).below ((Below.refl _ _).alloc (Nat.le_refl _) _))
  have P1 : Hid (RowIs w1 (w.heap.size + 1) 34 (fun _ => .int .i64 0) 2) := Lib.hid (by
    rw [hw1]
    have h := row_new (w.alloc (.cells (scells z0 z0 zV).toArray 32)) 34 (fun _ => .int .i64 0) 2 [.int .i64 0, .int .i64 0] rfl (fun i hi => by rcases (by omega : i = 0 ∨ i = 1) with rfl | rfl <;> rfl)
    rw [World.size_alloc] at h
    exact h)
  -- how it ends
  have END : ∀ w2, StIs w2 w.heap.size z0 z0 zV → RowIs w2 (w.heap.size + 1) 34 (fun _ => .int .i64 0) 2 → (loadVar 32 ⟨w.heap.size, 0, none⟩).run Tryz.prog w2 = .ok (.agg (scells z0 z0 zV).toArray) w2 ∧ (loadVar 34 ⟨w.heap.size + 1, 0, none⟩).run Tryz.prog w2 = .ok (.agg #[.int .i64 0, .int .i64 0]) w2 := fun w2 s2 p2 =>
    ⟨run_loadVar_mid _ _ _ _ (scells z0 z0 zV) _ (StIs.whole s2) Tryz.underlying32 rfl (state_len _ _ _), run_loadVar_mid _ _ _ _ [.int .i64 0, .int .i64 0] _ (RowIs.range p2 (by simp) (fun j hj => by
      have : j = 0 ∨ j = 1 := by simp at hj; omega
      rcases this with rfl | rfl <;> rfl)) Tryz.underlying34 rfl plat_size⟩
  have END := Lib.hid END
  clear hv v4 hread henc hps hone
  go_enter Tryz.func35, Tryz.ntmps35
  go_wp2_with fail
  rw [← hw1]
  clear hw1
  with_reducible refine (HRD.out w1 Z1.out B1.out).mono ?_
  rintro e w2 ⟨K, S, V, rfl, hps2, hb2⟩
  have PS2 := Lib.hid hps2
  have VO := Lib.hid (HON.out _ _ _ _ hps2)
  have B2 := Lib.hid (B1.out.trans (hb2.mono B1.out.size))
  have S2 := Lib.hid (S1.out.below hb2)
  have P2 := Lib.hid (P1.out.below hb2)
  clear hps2 hb2 S1 P1 B1
  have RT : w2.there w.heap.size 0 (scells K S V).toArray.size := StIs.there_ S2.out
  obtain ⟨w3, hw3, st3, a3⟩ := store_state (K' := K) (S' := S) (V' := V) S2.out
  have S3 := Lib.hid st3
  have P3 : Hid (RowIs w3 (w.heap.size + 1) 34 (fun _ => .int .i64 0) 2) := Lib.hid (RowIs.apart P2.out a3 (by omega))
  have B3 : Hid (Below w.heap.size w w3) := Lib.hid (B2.out.trans (a3.below B2.out.size fun i hi e => by omega))
  have PS3 : Hid (PS K S V w3) := Lib.hid (HPS.out _ _ _ _ _ PS2.out ⟨a3.size, fun g o hg ho _ => (a3.block g (Array.getElem?_eq_some_iff.1 ho).1 (by omega)).trans ho⟩)
  have p0 := RowIs.cell P3.out (i := 0) (by omega)
  have p1 := RowIs.cell P3.out (i := 1) (by omega)
  have f0 := RowIs.free P3.out 0
  have f1 := RowIs.free P3.out 1
  have P4 : Hid (RowIs (w3.setCell ⟨w.heap.size + 1, 0, none⟩ (.int .i64 s)) (w.heap.size + 1) 34 (fun i => if i = 0 then .int .i64 s else .int .i64 0) 2) := Lib.hid (P3.out.set_ (fun _ => by simp) (fun i _ hi => by simp [hi]))
  have P5 : Hid (RowIs ((w3.setCell ⟨w.heap.size + 1, 0, none⟩ (.int .i64 s)).setCell ⟨w.heap.size + 1, 1, none⟩ (.int .i64 b)) (w.heap.size + 1) 34 (fun i => if i = 0 then .int .i64 s else .int .i64 b) 2) := Lib.hid (P4.out.set_ (fun _ => by simp) (fun i hi hk => by rw [if_pos (show i = 0 by omega), if_pos (show i = 0 by omega)]))
  have p2 : (w3.setCell ⟨w.heap.size + 1, 0, none⟩ (.int .i64 s)).cell? ⟨w.heap.size + 1, 1, none⟩ = some (.int .i64 0) := RowIs.cell P4.out (i := 1) (by omega)
  have f2 := RowIs.free P4.out 1
  obtain ⟨w5, hw5⟩ : ∃ w5, w5 = (w3.setCell ⟨w.heap.size + 1, 0, none⟩ (.int .i64 s)).setCell ⟨w.heap.size + 1, 1, none⟩ (.int .i64 b) := ⟨_, rfl⟩
  have a5 : Apart (fun k => k = w.heap.size + 1) w3 w5 := by
    rw [hw5]
    exact ((Apart.refl (fun k => k = w.heap.size + 1) w3).setCell (p := ⟨w.heap.size + 1, 0, none⟩) (fun _ => rfl) _).setCell (p := ⟨w.heap.size + 1, 1, none⟩) (fun _ => rfl) _
  have P6 : Hid (RowIs w5 (w.heap.size + 1) 34 (fun i => if i = 0 then .int .i64 s else .int .i64 b) 2) := Lib.hid (by rw [hw5]; exact P5.out)
  have S5 : Hid (StIs w5 w.heap.size K S V) := Lib.hid (RowIs.apart S3.out a5 (by omega))
  have B5 : Hid (Below w.heap.size w w5) := Lib.hid (B3.out.trans (a5.below B3.out.size fun i hi e => by omega))
  have PS5 : Hid (PS K S V w5) := Lib.hid (HPS.out _ _ _ _ _ PS3.out ⟨a5.size, fun g o hg ho _ => (a5.block g (Array.getElem?_eq_some_iff.1 ho).1 (by omega)).trans ho⟩)
  have q0 : w5.cell? ⟨w.heap.size + 1, 0, none⟩ = some (.int .i64 s) := RowIs.cell P6.out (i := 0) (by omega)
  have q1 : w5.cell? ⟨w.heap.size + 1, 1, none⟩ = some (.int .i64 b) := RowIs.cell P6.out (i := 1) (by omega)
  have V1 := scells_one VO.out (K := K) (S := S)
  clear a3 st3 a5 P4 P5 PS2 PS3 S3 P3 B3 P2 S2 B2
  have hmx : Tryz.prog.follows .mixedOrders = true := by kernel_rfl
  go_wp2_with (first
    | (refine wpList_store_mid rfl 32 (.tmp 2) (.tmp 10) rfl w.heap.size 0 (scells K S V).toArray rfl rfl RT (state_len' _ _ _) V1 ?_; rw [show (scells K S V).toArray.toList = scells K S V from rfl, ← hw3]; clear hw3 RT V1)
    | (rw [← hw5]; clear hw5 p0 p1 p2 f0 f1 f2; refine wpList_load_mid rfl 32 (.tmp 2) rfl w.heap.size 0 rfl (scells K S V) _ (StIs.whole S5.out) Tryz.underlying32 rfl (state_len _ _ _) ?_))
  with_reducible refine (HEN.out K S V w5 PS5.out).mono ?_
  rintro e w6 ⟨⟨x, rfl, hx⟩ | ⟨u6, M, L', F', rfl, hu6, hns⟩, hb6⟩
  · have S6 := Lib.hid (S5.out.below hb6)
    have P7 := Lib.hid (RowIs.below P6.out hb6)
    have B6 := Lib.hid (B5.out.trans (hb6.mono B5.out.size))
    clear hb6 q0 q1 P6 S5 PS5 B5 HRD
    have hne : (x != 0) = true := by simpa using hx
    have RT : w6.there w.heap.size 0 (scells z0 z0 zV).toArray.size := StIs.there_ S6.out
    have V1 : (scells z0 z0 zV).toArray.all (·.oneCell') = true := scells_one fun _ _ => rfl
    obtain ⟨w7, hw7, st7, a7⟩ := store_state (K' := z0) (S' := z0) (V' := zV) S6.out
    have S7 := Lib.hid st7
    have P8 : Hid (RowIs w7 (w.heap.size + 1) 34 (fun i => if i = 0 then .int .i64 s else .int .i64 b) 2) := Lib.hid (RowIs.apart P7.out a7 (by omega))
    have B7 : Hid (Below w.heap.size w w7) := Lib.hid (B6.out.trans (a7.below B6.out.size fun i hi e => by omega))
    have q0 := RowIs.cell P8.out (i := 0) (by omega)
    have q1 := RowIs.cell P8.out (i := 1) (by omega)
    have g0 := RowIs.free P8.out 0
    have g1 := RowIs.free P8.out 1
    have q2 := RowIs.cell (P8.out.set_ (k := 0) (C' := fun i => if i = 0 then .int .i64 0 else .int .i64 b) (v := .int .i64 0) (fun _ => rfl) (fun i _ hi => by simp [hi])) (i := 1) (by omega)
    have g2 := RowIs.free (P8.out.set_ (k := 0) (C' := fun i => if i = 0 then .int .i64 0 else .int .i64 b) (v := .int .i64 0) (fun _ => rfl) (fun i _ hi => by simp [hi])) 1
    have P9 := Lib.hid (P9_of P8.out)
    have S9 := Lib.hid (S9_of S7.out)
    have B9 := Lib.hid (B9_of B7.out)
    clear a7 st7 P8 S7 B7
    go_wp2_with (refine wpList_store_mid rfl 32 (.tmp 2) (.tmp 28) rfl w.heap.size 0 (scells z0 z0 zV).toArray rfl rfl RT (state_len' _ _ _) V1 ?_; rw [show (scells z0 z0 zV).toArray.toList = scells z0 z0 zV from rfl, ← hw7]; clear hw7 RT V1)
    refine bodyPost_ret (results_cells22 (fn := Tryz.f35) rfl _ _ ⟨w.heap.size, 0, none⟩ ⟨w.heap.size + 1, 0, none⟩ _ _ rfl rfl (END.out _ S9.out P9.out).1 (END.out _ S9.out P9.out).2) rfl ?_
    exact ⟨rfl, B9.out⟩
  · have V6 := Lib.hid (HV.out.below (B5.out.trans (hb6.mono B5.out.size)))
    obtain ⟨A6, c6, rfl, _, _, _, _⟩ := id hu6
    have R6 := Lib.hid hu6
    have S6 := Lib.hid (S5.out.below hb6)
    have P7 := Lib.hid (RowIs.below P6.out hb6)
    have B6 := Lib.hid (B5.out.trans (hb6.mono B5.out.size))
    have NS := Lib.hid hns
    clear hb6 q0 q1 P6 S5 PS5 B5 HRD hu6 hns
    go_wp2_with fail
    with_reducible refine (sameFunc_any _ _ _ _ _ _ _ _ w6 V6.out R6.out).mono ?_
    rintro e w' ⟨x, rfl, hx, rfl⟩
    obtain rfl : x = false := by cases x with
      | false => rfl
      | true => exact absurd (hx.1 rfl) NS.out
    clear hx
    have RT : w6.there w.heap.size 0 (scells z0 z0 zV).toArray.size := StIs.there_ S6.out
    have V1 : (scells z0 z0 zV).toArray.all (·.oneCell') = true := scells_one fun _ _ => rfl
    obtain ⟨w7, hw7, st7, a7⟩ := store_state (K' := z0) (S' := z0) (V' := zV) S6.out
    have S7 := Lib.hid st7
    have P8 : Hid (RowIs w7 (w.heap.size + 1) 34 (fun i => if i = 0 then .int .i64 s else .int .i64 b) 2) := Lib.hid (RowIs.apart P7.out a7 (by omega))
    have B7 : Hid (Below w.heap.size w w7) := Lib.hid (B6.out.trans (a7.below B6.out.size fun i hi e => by omega))
    have q0 := RowIs.cell P8.out (i := 0) (by omega)
    have q1 := RowIs.cell P8.out (i := 1) (by omega)
    have g0 := RowIs.free P8.out 0
    have g1 := RowIs.free P8.out 1
    have q2 := RowIs.cell (P8.out.set_ (k := 0) (C' := fun i => if i = 0 then .int .i64 0 else .int .i64 b) (v := .int .i64 0) (fun _ => rfl) (fun i _ hi => by simp [hi])) (i := 1) (by omega)
    have g2 := RowIs.free (P8.out.set_ (k := 0) (C' := fun i => if i = 0 then .int .i64 0 else .int .i64 b) (v := .int .i64 0) (fun _ => rfl) (fun i _ hi => by simp [hi])) 1
    have P9 := Lib.hid (P9_of P8.out)
    have S9 := Lib.hid (S9_of S7.out)
    have B9 := Lib.hid (B9_of B7.out)
    clear a7 st7 P8 S7 B7
    go_wp2_with (refine wpList_store_mid rfl 32 (.tmp 2) (.tmp 28) rfl w.heap.size 0 (scells z0 z0 zV).toArray rfl rfl RT (state_len' _ _ _) V1 ?_; rw [show (scells z0 z0 zV).toArray.toList = scells z0 z0 zV from rfl, ← hw7]; clear hw7 RT V1)
    refine bodyPost_ret (results_cells22 (fn := Tryz.f35) rfl _ _ ⟨w.heap.size, 0, none⟩ ⟨w.heap.size + 1, 0, none⟩ _ _ rfl rfl (END.out _ S9.out P9.out).1 (END.out _ S9.out P9.out).2) rfl ?_
    exact ⟨rfl, B9.out⟩
end Go.Proofs.YtdocclkphffpkaaGreat

