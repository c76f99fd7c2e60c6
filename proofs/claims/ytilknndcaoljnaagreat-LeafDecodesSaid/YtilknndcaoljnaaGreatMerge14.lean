/- Pages that are those of a state that fits: what they hold, pure. The document's Same: of rows of places that are alike, and of states that are. The document's Sound, of any state whose places are places or none. The document's answers for geometries and for whose places are (layers 6 and 10): whether a state fits. The document's Sort: how many unlike places a list names. And whether a state fits. -/
import Derived.Test.YtilknndcaoljnaaGreatMerge13
import Derived.Test.YtilknndcaoljnaaGreatMerge12
import Derived.Test.YtilknndcaoljnaaGreatMerge8
import Derived.Test.YtilknndcaoljnaaGreatCalm
import Derived.Test.YtilknndcaoljnaaGreatMerge10
namespace Go.Proofs.YtilknndcaoljnaaGreat
open Go.RowKit

theorem sealed_congr {n : Nat} {f g : Nat → Nat} (h : Sealed n f) (he : ∀ i, i < 64 → f i = g i) : Sealed n g :=
  ⟨h.1, fun i hi => by rw [← he _ (by omega), h.2 i hi, crc_congr fun j hj => he j (by omega)]⟩
theorem seqIn_congr {f g : Nat → Nat} (he : ∀ i, i < 64 → f i = g i) : seqIn f = seqIn g := val_congr fun j hj => he _ (by omega)
theorem header_congr {n : Nat} {f g : Nat → Nat} (h : Header n f) (he : ∀ i, i < 64 → f i = g i) : Header n g :=
  ⟨sealed_congr h.1 he, ⟨by rw [← he _ (by omega)]; exact h.2.1.1, by rw [← he _ (by omega)]; exact h.2.1.2.1, by rw [← he _ (by omega)]; exact h.2.1.2.2.1, by rw [← he _ (by omega)]; exact h.2.1.2.2.2⟩,
    by rw [← seqIn_congr he]; exact h.2.2.1, by rw [← he _ (by omega)]; exact h.2.2.2⟩

/-- Parts that are alike make one text. -/
theorem join_congr {k : Nat} {G H : Nat → Nat × (Nat → Nat)} (h : ∀ i, i < k → (G i).1 = (H i).1 ∧ ∀ j, j < (G i).1 → (G i).2 j = (H i).2 j) :
    (joinL ((List.range k).map G)).1 = (joinL ((List.range k).map H)).1 ∧ ∀ j, j < (joinL ((List.range k).map G)).1 → (joinL ((List.range k).map G)).2 j = (joinL ((List.range k).map H)).2 j := by
  induction k with
  | zero => exact ⟨rfl, fun j hj => rfl⟩
  | succ k ih =>
    obtain ⟨e, hs⟩ := ih fun i hi => h i (by omega)
    obtain ⟨e1, e2⟩ := h k (by omega)
    rw [List.range_succ, List.map_append, List.map_append, List.map_cons, List.map_cons, List.map_nil, List.map_nil, joinL_snoc, joinL_snoc, ← e, ← e1]
    refine ⟨rfl, fun j hj => ?_⟩
    show behind _ _ _ j = behind _ _ _ j
    by_cases c : j < (joinL ((List.range k).map G)).1
    · rw [behind_low c, behind_low c]; exact hs j c
    · rw [behind_high (by omega), behind_high (by omega)]
      have hj' : j < (joinL ((List.range k).map G)).1 + (G k).1 := hj
      exact e2 _ (by omega)

theorem dpart_congr {F G : Nat → Nat → Nat} {i : Nat} (h : ∀ j, j < 64 → F i j = G i j) : (dpart F i).1 = (dpart G i).1 ∧ ∀ j, j < (dpart F i).1 → (dpart F i).2 j = (dpart G i).2 j := by
  have e : dlen (F i) = dlen (G i) := by unfold dlen; rw [h 5 (by omega)]
  refine ⟨e, fun j hj => ?_⟩
  have hj : j < dlen (F i) := hj
  exact h (6 + j) (by unfold dlen at hj; omega)

theorem hasP_congr {M M' : Nat → Nat} {Z Z' : Nat → Nat → Pl} (h : ∀ i, i < 8 → M i = M' i ∧ ∀ j, j < M i → Z i j = Z' i j) {p : Spot} (hp : HasP M Z 8 0 p) : HasP M' Z' 8 0 p := by
  rcases hp with ⟨i, j, hi, hj, e⟩ | ⟨j, hj, _⟩
  · exact .inl ⟨i, j, hi, by rw [← (h i hi).1]; exact hj, by rw [← (h i hi).2 j hj]; exact e⟩
  · exact absurd hj (Nat.not_lt_zero _)

/-- Two states that are one, as far as they are read. -/
def Alike (K S M K' S' M' : Nat → Nat) (Z Z' : Nat → Nat → Pl) : Prop := ∀ i, i < 8 → K i = K' i ∧ S i = S' i ∧ M i = M' i ∧ ∀ j, j < M i → Z i j = Z' i j
theorem Alike.symm {K S M K' S' M' : Nat → Nat} {Z Z' : Nat → Nat → Pl} (h : Alike K S M K' S' M' Z Z') : Alike K' S' M' K S M Z' Z := fun i hi => by
  obtain ⟨h1, h2, h3, h4⟩ := h i hi
  exact ⟨h1.symm, h2.symm, h3.symm, fun j hj => (h4 j (by omega)).symm⟩
theorem Alike.trans {K S M K' S' M' K2 S2 M2 : Nat → Nat} {Z Z' Z2 : Nat → Nat → Pl} (h : Alike K S M K' S' M' Z Z') (k : Alike K' S' M' K2 S2 M2 Z' Z2) : Alike K S M K2 S2 M2 Z Z2 := fun i hi => by
  obtain ⟨h1, h2, h3, h4⟩ := h i hi
  obtain ⟨k1, k2, k3, k4⟩ := k i hi
  exact ⟨h1.trans k1, h2.trans k2, h3.trans k3, fun j hj => (h4 j hj).trans (k4 j (by omega))⟩

theorem fitA_congr {s b : Int} {K S M K' S' M' : Nat → Nat} {Z Z' : Nat → Nat → Pl} (h : FitA s b K S M Z) (ha : Alike K S M K' S' M' Z Z') : FitA s b K' S' M' Z' := by
  obtain ⟨h1, h2, h3, E, e1, e2, e3⟩ := h
  have up : ∀ p, HasP M Z 8 0 p → HasP M' Z' 8 0 p := fun p => hasP_congr fun i hi => ⟨(ha i hi).2.2.1, (ha i hi).2.2.2⟩
  have dn : ∀ p, HasP M' Z' 8 0 p → HasP M Z 8 0 p := fun p => hasP_congr fun i hi => ⟨(ha.symm i hi).2.2.1, (ha.symm i hi).2.2.2⟩
  refine ⟨h1, fun i hi => ?_, fun p hp => h3 p (dn p hp), E, e1, fun p => ⟨fun hp => up p ((e2 p).1 hp), fun hp => (e2 p).2 (dn p hp)⟩, e3⟩
  obtain ⟨k1, k2, k3, _⟩ := ha i hi
  rw [← k1, ← k2, ← k3]
  exact h2 i hi

/-- Places as they are, and none where nothing is read. -/
def kept (M : Nat → Nat) (Z : Nat → Nat → Pl) (i j : Nat) : Pl := if i < 8 ∧ j < M i then Z i j else none
theorem kept_alike (K S M : Nat → Nat) (Z : Nat → Nat → Pl) : Alike K S M K S M Z (kept M Z) := fun i hi => ⟨rfl, rfl, rfl, fun j hj => by unfold kept; rw [if_pos ⟨hi, hj⟩]⟩
theorem kept_narrow {s b : Nat} {K S M : Nat → Nat} {Z : Nat → Nat → Pl} (h : FitA s b K S M Z) : Narrow b (kept M Z) := fun i j q hq => by
  unfold kept at hq
  by_cases c : i < 8 ∧ j < M i
  · rw [if_pos c] at hq
    have h1 := h.2.2.1 q (.inl ⟨i, j, c.1, c.2, hq⟩)
    have g := h.1.1
    omega
  · rw [if_neg c] at hq
    cases hq

/-- These pages are those of this state, in this geometry, with this number; and it fits. -/
def Laid (N : Nat) (L : Nat → Nat) (F : Nat → Nat → Nat) (s b seq : Nat) (K S M : Nat → Nat) (Z : Nat → Nat → Pl) : Prop :=
  FitA s b K S M Z ∧ 1 ≤ seq ∧ seq ≤ 1073741824 ∧ SameP N (pcount (tx b K S M Z 8).1 + 1) L (fun _ => 64) F (encF s b seq (tx b K S M Z 8).1 (tx b K S M Z 8).2)

theorem sameP_congr {N n n' s b seq : Nat} {L : Nat → Nat} {F : Nat → Nat → Nat} {f f' : Nat → Nat} (e : n = n') (he : ∀ t, t < n → f t = f' t) (h : SameP N (pcount n + 1) L (fun _ => 64) F (encF s b seq n f)) : SameP N (pcount n' + 1) L (fun _ => 64) F (encF s b seq n' f') := by
  subst e
  refine ⟨h.1, fun i hi => ⟨(h.2 i hi).1, fun j hj => ?_⟩⟩
  rw [(h.2 i hi).2 j hj]
  cases i with
  | zero => rw [encF_head, encF_head, crc_congr he]
  | succ i =>
    rw [encF_leaf, encF_leaf]
    unfold leafF
    refine sec_congr (fun t ht => ?_) j
    unfold pad
    by_cases c : t < 6 + plen n i
    · rw [if_pos c, if_pos c]
      unfold leafB
      by_cases c6 : t < 6
      · rw [behind_low c6, behind_low c6]
      · rw [behind_high (by omega), behind_high (by omega)]
        exact he _ (by unfold plen at c; omega)
    · rw [if_neg c, if_neg c]

theorem Laid.alike {N : Nat} {L : Nat → Nat} {F : Nat → Nat → Nat} {s b seq : Nat} {K S M K' S' M' : Nat → Nat} {Z Z' : Nat → Nat → Pl} (h : Laid N L F s b seq K S M Z) (ha : Alike K S M K' S' M' Z Z') : Laid N L F s b seq K' S' M' Z' :=
  ⟨fitA_congr h.1 ha, h.2.1, h.2.2.1, sameP_congr (tx_congr (Nat.le_refl _) ha).1 (tx_congr (Nat.le_refl _) ha).2 h.2.2.2⟩

theorem fit_small {s b : Int} {K S M : Nat → Nat} {Z : Nat → Nat → Pl} (h : FitA s b K S M Z) {i : Nat} (hi : i < 8) : K i ≤ 2 ∧ S i ≤ 32 ∧ M i = S i := by
  obtain ⟨h1, h2⟩ := h.2.1 i hi
  unfold EntryA at h1
  omega

theorem tx_fits {s b : Int} {c : Nat} {K S M : Nat → Nat} {Z : Nat → Nat → Pl} (h : FitA s b K S M Z) {i : Nat} (hi : i ≤ 8) : (tx c K S M Z i).1 ≤ 66 * i ∧ 2 * i ≤ (tx c K S M Z i).1 := by
  induction i with
  | zero => exact ⟨Nat.le_refl _, Nat.le_refl _⟩
  | succ i ih =>
    have := ih (by omega)
    have h3 := fit_small h (i := i) (by omega)
    rw [tx_next]
    show _ + 2 + M i * 2 ≤ _ ∧ _ ≤ _ + 2 + M i * 2
    omega

/-- What is read of pages that are laid. -/
theorem Laid.holds {N : Nat} {L : Nat → Nat} {F : Nat → Nat → Nat} {s b seq : Nat} {K S M : Nat → Nat} {Z : Nat → Nat → Pl} (h : Laid N L F s b seq K S M Z) :
    Header (L 0) (F 0) ∧ F 0 10 + 1 = N ∧ F 0 8 = s ∧ F 0 9 = b ∧ seqIn (F 0) = seq ∧ N = pcount (tx b K S M Z 8).1 + 1 ∧ 2 ≤ N ∧ N ≤ 12 ∧ (∀ i, i < N → Sealed (L i) (F i)) ∧
      (∀ i, i + 1 < N → F (i + 1) 5 ≤ 52) ∧
      (joinL ((List.range (N - 1)).map (dpart fun i => F (i + 1)))).1 = (tx b K S M Z 8).1 ∧
      ∀ j, j < (tx b K S M Z 8).1 → (joinL ((List.range (N - 1)).map (dpart fun i => F (i + 1)))).2 j = (tx b K S M Z 8).2 j := by
  obtain ⟨hf, q1, q2, hN, hs⟩ := h
  have t1 := tx_fits (c := b) hf (Nat.le_refl 8)
  have pc : 1 ≤ pcount (tx b K S M Z 8).1 ∧ pcount (tx b K S M Z 8).1 ≤ 11 := by unfold pcount; omega
  have g := hf.1
  have s256 : s < 256 := by have := g.1.2; omega
  have b256 : b < 256 := by have := g.2.2; omega
  obtain ⟨l0, f0⟩ := hs 0 (by omega)
  have l0 : L 0 = 64 := l0
  rw [l0] at f0 ⊢
  have at0 : ∀ i, i < 64 → headF s b seq (pcount (tx b K S M Z 8).1) (tx b K S M Z 8).1 (crc (tx b K S M Z 8).2 (tx b K S M Z 8).1) i = F 0 i := fun i hi => by rw [f0 i hi, encF_head]
  have ati : ∀ k, k + 1 < N → ∀ i, i < 64 → leafF seq (tx b K S M Z 8).1 (tx b K S M Z 8).2 k i = F (k + 1) i := fun k hk i hi => by
    obtain ⟨lk, fk⟩ := hs (k + 1) hk
    have lk : L (k + 1) = 64 := lk
    rw [fk i (by rw [lk]; exact hi), encF_leaf]
  refine ⟨header_congr (headF_header q1 q2 pc.2) at0, by rw [← at0 10 (by omega), headF_count (by omega)]; exact hN.symm, by rw [← at0 8 (by omega), headF_s s256], by rw [← at0 9 (by omega), headF_b b256], by rw [← seqIn_congr at0, headF_seq (by omega)],
    hN, by omega, by omega, fun i hi => ?_, fun i hi => ?_, ?_⟩
  · cases i with
    | zero => rw [l0]; exact sealed_congr (headF_sealed _ _ _ _ _ _) at0
    | succ i => rw [(hs _ hi).1]; exact sealed_congr (leafF_sealed _ _ _ _) (ati i hi)
  · rw [← ati i hi 5 (by omega), leafF_size]
    exact plen_le _ _
  · have jc := join_congr (k := N - 1) (G := dpart fun i => leafF seq (tx b K S M Z 8).1 (tx b K S M Z 8).2 i) (H := dpart fun i => F (i + 1)) fun i hi => dpart_congr (ati i (by omega))
    have jt := join_text seq (tx b K S M Z 8).1 (tx b K S M Z 8).2 (N - 1) (by omega)
    have hm : min (tx b K S M Z 8).1 ((N - 1) * 52) = (tx b K S M Z 8).1 := by
      have : N - 1 = pcount (tx b K S M Z 8).1 := by omega
      rw [this]
      unfold pcount
      omega
    rw [hm] at jt
    exact ⟨jc.1.symm.trans jt.1, fun j hj => (jc.2 j (by rw [jt.1]; exact hj)).symm.trans (jt.2 j hj)⟩

/- A text as far as it is read. -/
theorem vstep_congr {n : Nat} {f g : Nat → Nat} (h : ∀ i, i < n → f i = g i) (p : Nat) : vstep n f p = vstep n g p := by
  unfold vstep
  by_cases c : p + 1 < n
  · rw [h _ c]
  · omega
theorem vpos_congr {n : Nat} {f g : Nat → Nat} (h : ∀ i, i < n → f i = g i) (k : Nat) : vpos n f k = vpos n g k := by
  induction k with
  | zero => rfl
  | succ k ih => unfold vpos; rw [ih, vstep_congr h]
theorem vols_congr {n k : Nat} {f g : Nat → Nat} (h : ∀ i, i < n → f i = g i) (hv : Vols n f k) : Vols n g k :=
  ⟨hv.1, fun i hi => by rw [← vpos_congr h]; exact hv.2.1 i hi, fun hk => by rw [← vpos_congr h]; exact hv.2.2 hk⟩
theorem vols_one {n k m : Nat} {f : Nat → Nat} (h : Vols n f k) (h' : Vols n f m) : k = m := by
  rcases Nat.lt_trichotomy k m with c | c | c
  · exact absurd (h'.2.1 k c) (h.2.2 (by have := h'.1; omega))
  · exact c
  · exact absurd (h.2.1 m c) (h'.2.2 (by have := h.1; omega))
theorem st_congr {n k b : Nat} {f g : Nat → Nat} (h : ∀ i, i < n → f i = g i) (hv : Vols n f k) : Alike (stK n f k) (stS n f k) (stM n f k) (stK n g k) (stS n g k) (stM n g k) (stZ b n f) (stZ b n g) := by
  intro i hi
  unfold stK stS stM stZ
  by_cases c : i < k
  · have hp := hv.2.1 i c
    rw [if_pos c, if_pos c, if_pos c, if_pos c, if_pos c, if_pos c, ← vpos_congr h, h _ (by omega), h _ (by omega), vstep_congr h]
    refine ⟨rfl, rfl, rfl, fun j hj => ?_⟩
    have e : rowN (fun t => f (vpos n f i + (2 + t))) 2 j = rowN (fun t => g (vpos n f i + (2 + t))) 2 j := by
      unfold rowN
      refine val_congr fun t ht => h _ ?_
      have hv1 : vstep n g (vpos n f i) ≤ n - vpos n f i := by unfold vstep; exact Nat.min_le_right _ _
      unfold halves at hj
      split at hj <;> omega
    rw [e]
  · rw [if_neg c, if_neg c, if_neg c, if_neg c, if_neg c, if_neg c]
    exact ⟨rfl, rfl, rfl, fun j hj => absurd hj (Nat.not_lt_zero _)⟩

/-- The state that is read of them is theirs. -/
theorem Laid.state {N : Nat} {L : Nat → Nat} {F : Nat → Nat → Nat} {s b seq : Nat} {K S M : Nat → Nat} {Z : Nat → Nat → Pl} (h : Laid N L F s b seq K S M Z) {n nv : Nat} {f : Nat → Nat} (hn : n = (tx b K S M Z 8).1) (hf : ∀ j, j < n → f j = (tx b K S M Z 8).2 j) (hv : Vols n f nv) :
    Alike (stK n f nv) (stS n f nv) (stM n f nv) K S M (stZ b n f) Z := by
  have ka := kept_alike K S M Z
  have h' := h.alike ka
  have tc := tx_congr (b := b) (Nat.le_refl 8) ka
  have g := h.1.1
  have hM : ∀ i, i < 8 → M i = S i := fun i hi => (fit_small h.1 hi).2.2
  have e : n = (tx b K S M (kept M Z) 8).1 := hn.trans tc.1
  have hf' : ∀ j, j < n → f j = (tx b K S M (kept M Z) 8).2 j := fun j hj => (hf j hj).trans (tc.2 j (by omega))
  subst e
  have hv' := vols_congr hf' hv
  refine (st_congr hf' hv).trans (Alike.trans (K' := K) (S' := S) (M' := M) (Z' := kept M Z) (fun i hi => ?_) ka.symm)
  have := st_tx (b := b) (K := K) (S := S) (M := M) (Z := kept M Z) (by have := g.2.1; omega) (by have := g.2.2; omega) hM (kept_narrow h.1) hv' hi
  exact ⟨this.1, this.2.1, this.2.2.1, fun j hj => this.2.2.2 j (by rw [← this.2.2.1]; exact hj)⟩

/-- They are no other's. -/
theorem Laid.one {N : Nat} {L : Nat → Nat} {F : Nat → Nat → Nat} {s b seq s' b' seq' : Nat} {K S M K' S' M' : Nat → Nat} {Z Z' : Nat → Nat → Pl} (h : Laid N L F s b seq K S M Z) (h' : Laid N L F s' b' seq' K' S' M' Z') :
    s = s' ∧ b = b' ∧ seq = seq' ∧ Alike K S M K' S' M' Z Z' := by
  obtain ⟨_, _, e1, e2, e3, _, _, _, _, _, j1, j2⟩ := h.holds
  obtain ⟨_, _, f1, f2, f3, _, _, _, _, _, k1, k2⟩ := h'.holds
  obtain rfl : b = b' := e2.symm.trans f2
  have g := h.1.1
  have hv : Vols (tx b K S M Z 8).1 (tx b K S M Z 8).2 8 := by
    have ka := kept_alike K S M Z
    have hM : ∀ i, i < 8 → M i = S i := fun i hi => (fit_small h.1 hi).2.2
    refine ⟨Nat.le_refl _, fun i hi => ?_, fun c => absurd c (Nat.lt_irrefl _)⟩
    rw [vpos_tx hM (by omega)]
    have := tx_len_le b K S M Z (i := i + 1) (j := 8) (by omega)
    rw [tx_next] at this
    have this : (tx b K S M Z i).1 + 2 + M i * 2 ≤ (tx b K S M Z 8).1 := this
    omega
  have a1 := h.state rfl (fun _ _ => rfl) hv
  have a2 := h'.state (n := (tx b K S M Z 8).1) (f := (tx b K S M Z 8).2) (j1.symm.trans k1) (fun j hj => (j2 j hj).symm.trans (k2 j (by rw [← k1, j1]; exact hj))) hv
  exact ⟨e1.symm.trans f1, rfl, e3.symm.trans f3, a1.symm.trans a2⟩
end Go.Proofs.YtilknndcaoljnaaGreat

namespace Go.Proofs.YtilknndcaoljnaaGreat
open Go.RowKit

/-- At a call that makes memory, in a later world. -/
theorem later_fresh_at {P : Program} {f : FuncId} {args : Array Value} {w : World} {v : Value} {n : Later w} (h : ∀ W, Below w.heap.size w W → Calls P f args W (Fresh v W)) :
    Calls P f args n.val fun e w'' => e = .returned v ∧ ∃ m : Later w, w'' = m.val :=
  (h n.val n.ext).mono fun _ w' ⟨he, hb⟩ => ⟨he, ⟨w', n.ext.trans (hb.mono n.ext.size)⟩, rfl⟩

set_option maxRecDepth 20000 in
theorem refSame_rows (v u : Value) (n : Nat) (Z Z' : Nat → Pl) (w : World) (hv : ReadsZ w v n Z) (hu : ReadsZ w u n Z') (hg : ∀ j, Good (Z j)) (he : ∀ j, j < n → Z j = Z' j) :
    Calls Tryz.prog 18 #[v, u] w (Fresh (.bool true) w) := by
  obtain ⟨A, c, rfl, v1, v2, v3, -⟩ := id hv
  obtain ⟨B, d, rfl, u1, u2, u3, -⟩ := id hu
  have HV := Lib.hid hv
  have HU := Lib.hid hu
  have HE := Lib.hid he
  clear hv hu he
  have hnn : ((n : Int) != (n : Int)) = false := by simp
  go_enter Tryz.func18, Tryz.ntmps18
  go_wp2_with fail
  clear hnn
  go_loopw [5] (fun x wr => (∃ i : Nat, i ≤ n ∧ x = .int .i64 (i : Int)) ∧ ∃ k, w.drewN k = wr) (fun x _ => n - (intOf x).toNat)
  case atStart => exact ⟨⟨0, by omega, rfl⟩, 0, rfl⟩
  case round =>
    obtain ⟨⟨i, hi, rfl⟩, k, hk⟩ := hrel
    have HK := Lib.hid hk
    by_cases hlt : i < n
    · obtain ⟨ad, rfl⟩ := HV.out.addr (by omega)
      obtain ⟨bd, rfl⟩ := HU.out.addr (by omega)
      have hB : Below w.heap.size w wr := by rw [← hk]; exact below_drewN (Below.refl _ _) k
      have hc := (HV.out.below hB).at_ hlt
      have hd := (HU.out.below hB).at_ hlt
      rw [← HE.out i hlt] at hd
      obtain ⟨o1, o2⟩ := (z_order (hg i) (hg i)).1 rfl
      obtain ⟨X, eX⟩ : ∃ X, X = zre (Z i) := ⟨_, rfl⟩
      obtain ⟨Y, eY⟩ : ∃ Y, Y = zim (Z i) := ⟨_, rfl⟩
      have ez : zval (Z i) = .complex .f64 X Y := by rw [eX, eY]; rfl
      rw [← eX] at o1
      rw [← eY] at o2
      rw [ez] at hc hd
      clear eX eY ez hk hB
      go_wp2
      go_quiet (fail)
      clear hc hd o1 o2
      go_wp2
      go_roundw
      case rel => exact ⟨⟨i + 1, by omega, by go_num⟩, k + nq, by rw [← HK.out, World.drewN_drewN]⟩
      case measure => simp [intOf]; omega
    · obtain rfl : i = n := by omega
      clear hk
      go_wp2
      go_ret
      exact ⟨rfl, by rw [← HK.out]; exact below_drewN (Below.refl _ _) k⟩

set_option maxRecDepth 20000 in
theorem refSame_states (K S M K' S' M' : Nat → Nat) (V V' : Nat → Value) (Z Z' : Nat → Nat → Pl) (w : World) (hv : ∀ i, i < 8 → ReadsZ w (V i) (M i) (Z i)) (hu : ∀ i, i < 8 → ReadsZ w (V' i) (M' i) (Z' i)) (hg : ∀ i j, Good (Z i j)) (ha : Alike K S M K' S' M' Z Z') :
    Calls Tryz.prog 7 #[.agg (scells K S V).toArray, .agg (scells K' S' V').toArray] w (Fresh (.bool true) w) := by
  obtain ⟨w1, hw1⟩ : ∃ w1, w1 = (w.alloc (.cells (scells K S V).toArray 29)).alloc (.cells (scells K' S' V').toArray 29) := ⟨_, rfl⟩
  have B1 : Hid (Below w.heap.size w w1) := Lib.hid (by rw [hw1]; exact ((Below.refl _ w).alloc (Nat.le_refl _) _).alloc (by simp) _)
  have S1 : Hid (StIs w1 w.heap.size K S V) := Lib.hid (by rw [hw1]; exact (st_new w K S V).below ((Below.refl _ _).alloc (Nat.le_refl _) _))
  have T1 : Hid (StIs w1 (w.heap.size + 1) K' S' V') := Lib.hid (by
    rw [hw1]
    have h := st_new (w.alloc (.cells (scells K S V).toArray 29)) K' S' V'
    rw [World.size_alloc] at h
    exact h)
  have HV := Lib.hid hv
  have HU := Lib.hid hu
  have HA := Lib.hid ha
  clear hv hu ha
  go_enter Tryz.func7, Tryz.ntmps7
  go_wp2_with fail
  rw [← hw1]
  clear hw1
  go_loopw [5] (fun v wr => ∃ i : Nat, i ≤ 8 ∧ v = .int .i64 (i : Int) ∧ StIs wr w.heap.size K S V ∧ StIs wr (w.heap.size + 1) K' S' V' ∧ Below w.heap.size w wr) (fun v _ => 8 - (intOf v).toNat)
  case atStart => exact ⟨0, by omega, rfl, S1.out, T1.out, B1.out⟩
  case round =>
    clear B1 S1 T1
    obtain ⟨i, hi, rfl, hs, ht, hb⟩ := hrel
    have HS := Lib.hid hs
    have HT := Lib.hid ht
    have HB := Lib.hid hb
    clear hs ht hb
    by_cases h8 : i < 8
    · obtain ⟨e1, e2, e3, e4⟩ := HA.out i h8
      obtain ⟨x, ex⟩ : ∃ x, x = K i := ⟨_, rfl⟩
      obtain ⟨y, ey⟩ : ∃ y, y = S i := ⟨_, rfl⟩
      obtain ⟨A, ca, ev, -⟩ := HV.out i h8
      obtain ⟨C, cc, eu, -⟩ := HU.out i h8
      have SM := Lib.hid (refSame_rows (V i) (V' i) (M i) (Z i) (Z' i))
      have ZV := Lib.hid (HV.out i h8)
      have ZU := Lib.hid (HU.out i h8)
      have GI := Lib.hid (hg i)
      have E4 := Lib.hid e4
      rw [← e3] at ZU eu
      obtain ⟨m, em⟩ : ∃ m, m = M i := ⟨_, rfl⟩
      rw [← em] at ev eu ZV ZU SM E4
      rw [ev] at ZV SM
      rw [eu] at ZU SM
      have a0 : ∀ z : Later wr, z.val.cell? ⟨w.heap.size, i * 2, none⟩ = some (.int .i64 (x : Int)) := fun z => by rw [ex]; exact StIs.kind (HS.out.below z.ext) h8
      have a1 : ∀ z : Later wr, z.val.cell? ⟨w.heap.size, i * 2 + 1, none⟩ = some (.int .i64 (y : Int)) := fun z => by rw [ey]; exact StIs.size (HS.out.below z.ext) h8
      have a2 : ∀ z : Later wr, z.val.cell? ⟨w.heap.size, 16 + i, none⟩ = some (.slice A m ca) := fun z => by rw [← ev]; exact StIs.row (HS.out.below z.ext) h8
      have b0 : ∀ z : Later wr, z.val.cell? ⟨w.heap.size + 1, i * 2, none⟩ = some (.int .i64 (x : Int)) := fun z => by rw [ex, e1]; exact StIs.kind (HT.out.below z.ext) h8
      have b1 : ∀ z : Later wr, z.val.cell? ⟨w.heap.size + 1, i * 2 + 1, none⟩ = some (.int .i64 (y : Int)) := fun z => by rw [ey, e2]; exact StIs.size (HT.out.below z.ext) h8
      have b2 : ∀ z : Later wr, z.val.cell? ⟨w.heap.size + 1, 16 + i, none⟩ = some (.slice C m cc) := fun z => by rw [← eu]; exact StIs.row (HT.out.below z.ext) h8
      clear e1 e2 e3 e4 ex ey ev eu em
      have qx : ((x : Int) != (x : Int)) = false := by simp
      have qy : ((y : Int) != (y : Int)) = false := by simp
      go_wp2
      refine region_later (by kernel_rfl) (by kernel_rfl) ?_
      repeat (go_big_quiet_step (first
        | (go_at_call 18; exact later_fresh_at (fun W hW => SM.out W (ZV.out.below (HB.out.trans (hW.mono HB.out.size))) (ZU.out.below (HB.out.trans (hW.mono HB.out.size))) GI.out E4.out))))
      refine wpQuiet_nil ?_
      rintro w9 ⟨⟨w3, hb3⟩, hw9⟩
      obtain rfl : w9 = w3 := hw9
      have S3 := Lib.hid (HS.out.below hb3)
      have T3 := Lib.hid (HT.out.below hb3)
      have B3 := Lib.hid (HB.out.trans (hb3.mono HB.out.size))
      clear a0 a1 a2 b0 b1 b2 hb3
      go_wp2
      go_roundw
      case rel => exact ⟨i + 1, by omega, by go_num, S3.out, T3.out, B3.out⟩
      case measure => simp [intOf]; omega
    · obtain rfl : i = 8 := by omega
      go_wp2
      go_ret
      exact ⟨rfl, HB.out⟩
end Go.Proofs.YtilknndcaoljnaaGreat

namespace Go.Proofs.YtilknndcaoljnaaGreat
open Go.RowKit

set_option maxRecDepth 100000 in
set_option maxHeartbeats 2000000 in
theorem refSound_any (K S M : Nat → Nat) (V : Nat → Value) (Z : Nat → Nat → Pl) (w : World) (hr : ∀ i, i < 8 → ReadsZ w (V i) (M i) (Z i)) (hg : ∀ i j, Good (Z i j)) :
    Calls Tryz.prog 17 #[.agg (scells K S V).toArray] w fun e w' => (∃ x, e = .returned (.bool x) ∧ (x = true ↔ SoundA K S M)) ∧ Below w.heap.size w w' := by
  have ZB := Lib.hid (st_new w K S V)
  have B0 : Hid (Below w.heap.size w (w.alloc (.cells (scells K S V).toArray 29))) := Lib.hid ((Below.refl _ w).alloc (Nat.le_refl _) _)
  have HR := Lib.hid hr
  have HG := Lib.hid hg
  clear hr hg
  go_enter Tryz.func17, Tryz.ntmps17
  go_wp2_with fail
  go_loopw [3] (fun v wr => ∃ i : Nat, i ≤ 8 ∧ v = .int .i64 (i : Int) ∧ StIs wr w.heap.size K S V ∧ Below w.heap.size w wr ∧ ∀ j, j < i → EntryA (K j) (S j) ∧ M j = S j) (fun v _ => 8 - (intOf v).toNat)
  case atStart => exact ⟨0, by omega, rfl, ZB.out, B0.out, fun j hj => absurd hj (by omega)⟩
  case round =>
    clear ZB B0
    obtain ⟨i, hi, rfl, hs, hb, hp⟩ := hrel
    have HS := Lib.hid hs
    have HB := Lib.hid hb
    have HP := Lib.hid hp
    clear hs hb hp
    by_cases h8 : i < 8
    · obtain ⟨A, c, ev, q1, q2, q3, -⟩ := HR.out i h8
      have HRI := Lib.hid (HR.out i h8)
      obtain ⟨x, ex⟩ : ∃ x, x = K i := ⟨_, rfl⟩
      obtain ⟨y, ey⟩ : ∃ y, y = S i := ⟨_, rfl⟩
      obtain ⟨m, em⟩ : ∃ m, m = M i := ⟨_, rfl⟩
      rw [← em] at ev HRI
      rw [ev] at HRI
      have x0 := HS.out.kind h8
      have x1 := HS.out.size h8
      rw [← ex] at x0
      rw [← ey] at x1
      obtain ⟨w2, hw2⟩ : ∃ w2, w2 = wr.alloc (.cells #[.int .i64 (x : Int), .int .i64 (y : Int)] 24) := ⟨_, rfl⟩
      have hc0 : w2.cell? ⟨wr.heap.size, 0, none⟩ = some (.int .i64 (x : Int)) := by rw [hw2, World.cell?_alloc_mark]; rfl
      have hc1 : w2.cell? ⟨wr.heap.size, 1, none⟩ = some (.int .i64 (y : Int)) := by rw [hw2, World.cell?_alloc_mark]; rfl
      have hb2 : Below wr.heap.size wr w2 := by rw [hw2]; exact (Below.refl _ _).alloc (Nat.le_refl _) _
      have hr : w2.cell? ⟨w.heap.size, 16 + i, none⟩ = some (.slice A m c) := by rw [← ev]; exact StIs.row (HS.out.below hb2) h8
      have l0 : ∀ z : Later w2, z.val.cell? ⟨wr.heap.size, 0, none⟩ = some (.int .i64 (x : Int)) := fun z => cell_later z.ext hc0
      have l1 : ∀ z : Later w2, z.val.cell? ⟨wr.heap.size, 1, none⟩ = some (.int .i64 (y : Int)) := fun z => cell_later z.ext hc1
      have lr : ∀ z : Later w2, z.val.cell? ⟨w.heap.size, 16 + i, none⟩ = some (.slice A m c) := fun z => cell_later z.ext hr
      have B2 := Lib.hid (HB.out.trans (hb2.mono HB.out.size))
      have S2 := Lib.hid (HS.out.below hb2)
      have EX := Lib.hid ex
      have EY := Lib.hid ey
      have EM := Lib.hid em
      have EV := Lib.hid ev
      clear hc0 hc1 hb2 hr ex ey em ev
      by_cases hgood : EntryA x y ∧ m = y
      · have OKE : Hid (∀ j, j < i + 1 → EntryA (K j) (S j) ∧ M j = S j) := Lib.hid fun j hj => by
          by_cases hji : j < i
          · exact HP.out j hji
          · obtain rfl : j = i := by omega
            rw [← EX.out, ← EY.out, ← EM.out]
            exact hgood
        obtain ⟨he, rfl⟩ := hgood
        have d : ((m : Int) != (m : Int)) = false := by simp
        have cs : (x = 0 ∧ m = 0) ∨ (x = 1 ∧ 1 ≤ m ∧ m ≤ 32) ∨ (x = 2 ∧ 1 ≤ m ∧ m ≤ 32) := by
          rcases he with h | ⟨h | h, h2⟩
          · exact .inl h
          · exact .inr (.inl ⟨h, h2⟩)
          · exact .inr (.inr ⟨h, h2⟩)
        clear he EX EY EM
        go_wp2_with fail
        rw [← hw2]
        clear hw2 x0 x1
        have STEP : ∀ (Q : Prop), ((x = 0 ∧ m = 0) → Q) → ((x = 1 ∧ 1 ≤ m ∧ m ≤ 32) → Q) → ((x = 2 ∧ 1 ≤ m ∧ m ≤ 32) → Q) → Q := fun Q a b e => cs.elim a fun h => h.elim b e
        clear cs
        refine STEP _ (fun h => ?_) (fun h => ?_) (fun h => ?_)
        all_goals
          clear STEP
          obtain ⟨rfl, hm⟩ := h
          try have hm1 := And.left hm
          try have hm2 := And.right hm
          try have hm3 : ¬ (m : Int) < 1 := by omega
          try have hm4 : ¬ (32 : Int) < (m : Int) := by omega
          try have hm0 : ((m : Int) != 0) = false := by simp; omega
          have HM := Lib.hid hm
          clear hm
        all_goals
          refine region_later (by kernel_rfl) (by kernel_rfl) ?_
          repeat (go_big_quiet_step (fail))
          refine wpQuiet_nil ?_
          rintro w9 ⟨⟨w3, hb3⟩, hw9⟩
          obtain rfl : w9 = w3 := hw9
          have S3 := Lib.hid (S2.out.below hb3)
          have B3 := Lib.hid (B2.out.trans (hb3.mono B2.out.size))
          have R3 := Lib.hid (HRI.out.below B3.out)
          clear l0 l1 lr hb3 d
          go_wp2
          go_loopw [5] (fun v wq => ∃ j : Nat, j ≤ m ∧ v = .int .i64 (j : Int) ∧ StIs wq w.heap.size K S V ∧ Below w.heap.size w wq) (fun v _ => m - (intOf v).toNat)
          case atStart => exact ⟨0, by omega, rfl, S3.out, B3.out⟩
          case round =>
            clear S3 B3 R3 S2 B2
            obtain ⟨j, hj, rfl, hs, hb⟩ := hrel
            have S4 := Lib.hid hs
            have B4 := Lib.hid hb
            have c4 : wr.cell? ⟨w.heap.size, 16 + i, none⟩ = some (.slice A m c) := by rw [← EV.out]; exact StIs.row S4.out h8
            clear hs hb
            by_cases hlt : j < m
            · obtain ⟨ad, rfl⟩ := HRI.out.addr (by omega)
              have hc := (HRI.out.below B4.out).at_ hlt
              cases hz : Z i j with
              | none =>
                rw [hz] at hc
                have hc2 : wr.cell? (ad.add j) = some (Value.complex .f64 13830554455654793216 0) := hc
                clear hc hz
                have h1 := order_none
                have h2 := order_zero
                go_wp2
                go_roundw
                case rel => exact ⟨j + 1, by omega, by go_num, S4.out, B4.out⟩
                case measure => simp [intOf]; omega
              | some p =>
                have hok := HG.out i j p hz
                have WH : Hid (∀ w, Calls Tryz.prog 37 #[.complex .f64 (fl p.1) (fl p.2)] w fun e w' => e = .returned (.bool true) ∧ w = w') := Lib.hid (refWhole_any (some p) (fun q hq => by cases hq; exact hok))
                rw [hz] at hc
                have hc2 : wr.cell? (ad.add j) = some (Value.complex .f64 (fl p.1) (fl p.2)) := hc
                have h1 := order_some_none p.1 (by have := hok.1; omega)
                clear hc hz hok
                go_wp2_with fail
                with_reducible refine (WH.out _).mono ?_
                rintro e w' ⟨rfl, rfl⟩
                go_wp2
                go_roundw
                case rel => exact ⟨j + 1, by omega, by go_num, S4.out, B4.out⟩
                case measure => simp [intOf]; omega
            · obtain rfl : j = m := by omega
              go_wp2
              go_roundw
              case rel => exact ⟨i + 1, by omega, by go_num, S4.out, B4.out, OKE.out⟩
              case measure => simp [intOf]; omega
      · have NO : Hid (¬ SoundA K S M) := Lib.hid fun h => by
          have := h i h8
          rw [← EX.out, ← EY.out, ← EM.out] at this
          exact hgood this
        go_wp2_with fail
        rw [← hw2]
        clear hw2 x0 x1
        by_cases hmy : m = y
        · subst hmy
          have d : ((m : Int) != (m : Int)) = false := by simp
          have cs : 2 < x ∨ (x = 0 ∧ m ≠ 0) ∨ (x = 1 ∧ m = 0) ∨ (x = 1 ∧ 32 < m) ∨ (x = 2 ∧ m = 0) ∨ (x = 2 ∧ 32 < m) := by
            unfold EntryA at hgood
            omega
          clear hgood EX EY EM EV HRI
          rcases cs with h | ⟨rfl, h⟩ | ⟨rfl, rfl⟩ | ⟨rfl, h⟩ | ⟨rfl, rfl⟩ | ⟨rfl, h⟩
          all_goals
            try have hm0 : ((m : Int) != 0) = true := by simpa using h
            try have hx3 : (2 : Int) < (x : Int) := by omega
            try have hx4 : ¬ (x : Int) < 0 := by omega
            try have hm3 : (32 : Int) < (m : Int) := by omega
            try have hm4 : ¬ (m : Int) < 1 := by omega
            refine region_later (by kernel_rfl) (by kernel_rfl) ?_
            repeat (go_big_quiet_step (fail))
            refine wpQuiet_nil ?_
            rintro w9 ⟨⟨w3, hb3⟩, hw9⟩
            obtain rfl : w9 = w3 := hw9
            have B3 := Lib.hid (B2.out.trans (hb3.mono B2.out.size))
            clear l0 l1 lr hb3
            go_wp2
            go_ret
            first
              | exact ⟨⟨_, rfl, ⟨fun h => (by cases h), fun h => absurd h NO.out⟩⟩, B3.out⟩
              | exact ⟨.inl ⟨rfl, NO.out⟩, B3.out⟩
        · have d : ((m : Int) != (y : Int)) = true := by simp; omega
          clear hgood EX EY EM EV HRI hmy
          refine region_later (by kernel_rfl) (by kernel_rfl) ?_
          repeat (go_big_quiet_step (fail))
          refine wpQuiet_nil ?_
          rintro w9 ⟨⟨w3, hb3⟩, hw9⟩
          obtain rfl : w9 = w3 := hw9
          have B3 := Lib.hid (B2.out.trans (hb3.mono B2.out.size))
          clear l0 l1 lr hb3
          go_wp2
          go_ret
          exact ⟨⟨_, rfl, ⟨fun h => (by cases h), fun h => absurd h NO.out⟩⟩, B3.out⟩
    · obtain rfl : i = 8 := by omega
      go_wp2
      go_ret
      exact ⟨⟨_, rfl, ⟨fun _ => HP.out, fun _ => rfl⟩⟩, HB.out⟩
end Go.Proofs.YtilknndcaoljnaaGreat

namespace Go.Proofs.YtilknndcaoljnaaGreat
open Go.RowKit

theorem may_ok (s b : Int) (w : World) (g : Geo s b) :
    Calls Tryz.prog 73 #[.agg #[.int .i64 s, .int .i64 b]] w (Fresh (.bool true) w) := by
  obtain ⟨⟨g1, g2⟩, g3, g4⟩ := g
  go_enter Tryz.func73, Tryz.ntmps73
  go_wp2
  go_ret
  exact ⟨rfl, (Below.refl _ _).alloc (Nat.le_refl _) _⟩

theorem may_no (s b : Int) (w : World) (g : ¬ Geo s b) :
    Calls Tryz.prog 73 #[.agg #[.int .i64 s, .int .i64 b]] w (Fresh (.bool false) w) := by
  unfold Geo at g
  by_cases g1 : s < 6
  · clear g
    go_enter Tryz.func73, Tryz.ntmps73
    go_wp2
    go_ret
    exact ⟨rfl, (Below.refl _ _).alloc (Nat.le_refl _) _⟩
  by_cases g2 : 24 < s
  · clear g
    go_enter Tryz.func73, Tryz.ntmps73
    go_wp2
    go_ret
    exact ⟨rfl, (Below.refl _ _).alloc (Nat.le_refl _) _⟩
  by_cases g3 : b < 2
  · clear g
    go_enter Tryz.func73, Tryz.ntmps73
    go_wp2
    go_ret
    exact ⟨rfl, (Below.refl _ _).alloc (Nat.le_refl _) _⟩
  have g4 : decide (b ≤ 16) = false := decide_eq_false (by omega)
  clear g
  go_enter Tryz.func73, Tryz.ntmps73
  go_wp2
  go_ret
  exact ⟨rfl, (Below.refl _ _).alloc (Nat.le_refl _) _⟩

/-- What a geometry holds, as the chapter says it and as the document's answer does. -/
theorem holds_same (s b : Int) : (s - 2 - 2) * b = (s - 4) * b := by congr 1; omega
theorem holds_in {s b : Int} (g : Geo s b) : 4 ≤ (s - 4) * b ∧ (s - 4) * b ≤ 320 :=
  ⟨show 2 * 2 ≤ (s - 4) * b from Int.mul_le_mul (by have := g.1; omega) g.2.1 (by omega) (by have := g.1; omega), show (s - 4) * b ≤ 20 * 16 from Int.mul_le_mul (by have := g.1; omega) g.2.2 (by have := g.2; omega) (by omega)⟩
theorem refCapacity_ok (s b : Int) (w : World) (g : Geo s b) :
    Calls Tryz.prog 55 #[.agg #[.int .i64 s, .int .i64 b]] w (Fresh (.int .i64 ((s - 4) * b)) w) := by
  obtain ⟨h1, h2⟩ := holds_in g
  obtain ⟨g1, g2⟩ := g.1
  clear g
  go_enter Tryz.func55, Tryz.ntmps55
  go_wp2
  go_ret
  exact ⟨rfl, (Below.refl _ _).alloc (Nat.le_refl _) _⟩

theorem refAt_any (s b : Int) (a c : Nat) (w : World) (g : Geo s b) (ha : a < 24) (hc : c < 16) :
    Calls Tryz.prog 75 #[.agg #[.int .i64 s, .int .i64 b], .complex .f64 (fl a) (fl c)] w fun e w' => (∃ n x, e = .returned (.tuple #[.int .i64 n, .int .i64 x]) ∧ (x = 0 ↔ (a : Int) < s ∧ (c : Int) < b)) ∧ Below w.heap.size w w' := by
  have G := Lib.hid g
  obtain ⟨⟨g1, g2⟩, g3, g4⟩ := g
  have hsb : s * b ≤ 24 * 16 := Int.mul_le_mul (by omega) (by omega) (by omega) (by omega)
  have hsb0 : 0 ≤ s * b := Int.mul_nonneg (by omega) (by omega)
  have hab : (a : Int) * b ≤ 24 * 16 := Int.mul_le_mul (by omega) (by omega) (by omega) (by omega)
  have hab0 : 0 ≤ (a : Int) * b := Int.mul_nonneg (by omega) (by omega)
  go_enter Tryz.func75, Tryz.ntmps75
  go_wp2_with fail
  with_reducible refine (may_ok s b _ G.out).mono ?_
  rintro e w1 ⟨rfl, hb1⟩
  have x0 := geo_s hb1
  have x1 := geo_b hb1
  have B1 := Lib.hid (geo_below hb1)
  clear hb1
  by_cases hcb : (c : Int) < b
  · have hcb' : (c : Int) < b := hcb
    have FL := Lib.hid (refFlat_some a c b)
    go_wp2_with fail
    refine (FL.out _ ha hc (by omega) g4 hcb').mono ?_
    rintro e w' ⟨rfl, rfl⟩
    by_cases has : (a : Int) < s
    · have hlt : (a : Int) * b + c < s * b := by
        have : ((a : Int) + 1) * b ≤ s * b := Int.mul_le_mul_of_nonneg_right (by omega) (by omega)
        rw [Int.add_mul] at this
        omega
      have hge : ¬ s * b ≤ (a : Int) * b + c := by omega
      have AS := Lib.hid has
      clear has hcb FL
      go_wp2
      go_ret2
      exact ⟨⟨_, _, rfl, ⟨fun _ => ⟨AS.out, hcb'⟩, fun _ => rfl⟩⟩, B1.out⟩
    · have hge : s * b ≤ (a : Int) * b + c := by
        have : s * b ≤ (a : Int) * b := Int.mul_le_mul_of_nonneg_right (by omega) (by omega)
        omega
      have AS := Lib.hid has
      clear has hcb FL
      go_wp2
      go_ret2
      exact ⟨⟨_, _, rfl, ⟨fun h => absurd h (by decide), fun h => absurd h.1 (by have := AS.out; omega)⟩⟩, B1.out⟩
  · have CB := Lib.hid hcb
    have hle : b ≤ (c : Int) := by omega
    have FL := Lib.hid (refFlat_out a c b)
    clear hcb
    go_wp2_with fail
    refine (FL.out _ ha hc (by omega) g4 hle).mono ?_
    rintro e w' ⟨rfl, rfl⟩
    clear FL
    go_wp2
    go_ret2
    exact ⟨⟨_, _, rfl, ⟨fun h => absurd h (by decide), fun h => absurd h.2 (by have := CB.out; omega)⟩⟩, B1.out⟩

/-- A list that names just the places that some block has, up to block j of volume i. -/
def Names (M : Nat → Nat) (Z : Nat → Nat → Pl) (i j q : Nat) (P : Nat → Spot) : Prop := (∀ t, t < q → HasP M Z i j (P t)) ∧ ∀ p, HasP M Z i j p → ∃ t, t < q ∧ P t = p
theorem Names.has {M : Nat → Nat} {Z : Nat → Nat → Pl} {i j q : Nat} {P : Nat → Spot} (h : Names M Z i j q P) {t : Nat} (ht : t < q) : HasP M Z i j (P t) := h.1 t ht
theorem Names.every {M : Nat → Nat} {Z : Nat → Nat → Pl} {i j q : Nat} {P : Nat → Spot} (h : Names M Z i j q P) {p : Spot} (hp : HasP M Z i j p) : ∃ t, t < q ∧ P t = p := h.2 p hp
theorem names_none {M : Nat → Nat} {Z : Nat → Nat → Pl} {i j q : Nat} {P : Nat → Spot} (h : Names M Z i j q P) (hz : Z i j = none) : Names M Z i (j + 1) q P :=
  ⟨fun t ht => (hasP_none hz).2 (h.1 t ht), fun p hp => h.2 p ((hasP_none hz).1 hp)⟩
def snocP (P : Nat → Spot) (q : Nat) (p : Spot) (t : Nat) : Spot := if t = q then p else P t
theorem names_some {M : Nat → Nat} {Z : Nat → Nat → Pl} {i j q : Nat} {P : Nat → Spot} {p : Spot} (h : Names M Z i j q P) (hz : Z i j = some p) : Names M Z i (j + 1) (q + 1) (snocP P q p) := by
  refine ⟨fun t ht => ?_, fun r hr => ?_⟩
  · unfold snocP
    by_cases c : t = q
    · rw [if_pos c]; exact (hasP_some hz).2 (.inr rfl)
    · rw [if_neg c]; exact (hasP_some hz).2 (.inl (h.1 t (by omega)))
  · rcases (hasP_some hz).1 hr with h1 | rfl
    · obtain ⟨t, ht, e⟩ := h.2 r h1
      exact ⟨t, by omega, by unfold snocP; rw [if_neg (by omega)]; exact e⟩
    · exact ⟨q, by omega, by unfold snocP; rw [if_pos rfl]⟩
theorem names_next {M : Nat → Nat} {Z : Nat → Nat → Pl} {i q : Nat} {P : Nat → Spot} (h : Names M Z i (M i) q P) : Names M Z (i + 1) 0 q P :=
  ⟨fun t ht => hasP_next.1 (h.1 t ht), fun p hp => h.2 p (hasP_next.2 hp)⟩
theorem names_zero (M : Nat → Nat) (Z : Nat → Nat → Pl) (P : Nat → Spot) : Names M Z 0 0 0 P :=
  ⟨fun t ht => absurd ht (Nat.not_lt_zero _), fun p hp => by rcases hp with ⟨i, _, h, _⟩ | ⟨j, h, _⟩ <;> omega⟩

set_option maxRecDepth 20000 in
theorem all_any (K S M : Nat → Nat) (V : Nat → Value) (Z : Nat → Nat → Pl) (w : World) (hr : ∀ i, i < 8 → ReadsZ w (V i) (M i) (Z i)) (hg : ∀ i j, Good (Z i j)) (hM : ∀ i, i < 8 → M i ≤ 32) :
    Calls Tryz.prog 74 #[.agg (scells K S V).toArray] w fun e w' => ∃ v q P, e = .returned v ∧ OwnZ w' w.heap.size v q (fun t => some (P t)) ∧ q ≤ 256 ∧ Names M Z 8 0 q P ∧ Below w.heap.size w w' := by
  obtain ⟨w1, hw1⟩ : ∃ w1, w1 = (w.alloc (.cells (scells K S V).toArray 29)).alloc (.cells #[] 48) := ⟨_, rfl⟩
  have B1 : Hid (Below w.heap.size w w1) := Lib.hid (by rw [hw1]; exact ((Below.refl _ w).alloc (Nat.le_refl _) _).alloc (by simp) _)
  have S1 : Hid (StIs w1 w.heap.size K S V) := Lib.hid (by rw [hw1]; exact (st_new w K S V).below ((Below.refl _ _).alloc (Nat.le_refl _) _))
  have O1 : Hid (OwnZ w1 (w.heap.size + 1) (.slice (some ⟨w.heap.size + 1, 0, none⟩) 0 0) 0 (fun t => some ((fun _ => (0, 0)) t))) := Lib.hid (by
    rw [hw1]
    have h := ownZ_made (w.alloc (.cells (scells K S V).toArray 29)) 0 (by omega) (fun t => some ((fun _ => (0, 0)) t))
    rw [World.size_alloc] at h
    exact h)
  have Z1 : Hid (w.heap.size + 2 ≤ w1.heap.size) := Lib.hid (by rw [hw1]; simp)
  have HR := Lib.hid hr
  have HM := Lib.hid hM
  have HG := Lib.hid hg
  clear hr hM hg
  go_enter Tryz.func74, Tryz.ntmps74
  go_wp2_with fail
  rw [← hw1]
  clear hw1
  go_loopw [3, 4] (fun u x wr => ∃ (i q : Nat) (v : Value) (P : Nat → Spot), i ≤ 8 ∧ v = u ∧ x = .int .i64 (i : Int) ∧ OwnZ wr (w.heap.size + 1) v q (fun t => some (P t)) ∧ q ≤ 32 * i ∧ Names M Z i 0 q P ∧ StIs wr w.heap.size K S V ∧ Below w.heap.size w wr ∧ w.heap.size + 2 ≤ wr.heap.size) (fun _ x _ => 8 - (intOf x).toNat)
  case atStart => exact ⟨0, 0, _, _, by omega, rfl, rfl, O1.out, by omega, names_zero _ _ _, S1.out, B1.out, Z1.out⟩
  case round =>
    clear B1 S1 O1 Z1
    obtain ⟨i, q, v, P, hi, rfl, rfl, ho, hq, hn, hs, hb, hz⟩ := hrel
    have HO := Lib.hid ho
    have HQ := Lib.hid hq
    have HN := Lib.hid hn
    have HS := Lib.hid hs
    have HB := Lib.hid hb
    have HZ := Lib.hid hz
    clear ho hq hn hs hb hz
    by_cases h8 : i < 8
    · obtain ⟨A, c, ev, q1, q2, q3, -⟩ := HR.out i h8
      have HRI := Lib.hid (HR.out i h8)
      obtain ⟨m, em⟩ : ∃ m, m = M i := ⟨_, rfl⟩
      rw [← em] at ev HRI
      rw [ev] at HRI
      have hm32 : m ≤ 32 := by rw [em]; exact HM.out i h8
      have EM := Lib.hid em
      have EV := Lib.hid ev
      have d8 : decide ((i : Int) < 8) = true := by simp; omega
      clear ev em
      go_wp2
      clear d8
      go_loopw [3, 5] (fun u x wq => ∃ (j q : Nat) (v : Value) (P : Nat → Spot), j ≤ m ∧ v = u ∧ x = .int .i64 (j : Int) ∧ OwnZ wq (w.heap.size + 1) v q (fun t => some (P t)) ∧ q ≤ 32 * i + j ∧ Names M Z i j q P ∧ StIs wq w.heap.size K S V ∧ Below w.heap.size w wq ∧ w.heap.size + 2 ≤ wq.heap.size) (fun _ x _ => m - (intOf x).toNat)
      case atStart => exact ⟨0, q, v, P, by omega, rfl, rfl, HO.out, by have := HQ.out; omega, HN.out, HS.out, HB.out, HZ.out⟩
      case round =>
        clear HO HQ HN HS HB HZ
        obtain ⟨j, q, v, P, hj, rfl, rfl, ho, hq, hn, hs, hb, hz⟩ := hrel
        have HO := Lib.hid ho
        have HQ := Lib.hid hq
        have HN := Lib.hid hn
        have HS := Lib.hid hs
        have HB := Lib.hid hb
        have HZ := Lib.hid hz
        clear ho hq hn hs hb hz
        have c4 : wr.cell? ⟨w.heap.size, 16 + i, none⟩ = some (.slice A m c) := by rw [← EV.out]; exact StIs.row HS.out h8
        by_cases hlt : j < m
        · obtain ⟨ad, rfl⟩ := HRI.out.addr (by omega)
          have hc := (HRI.out.below HB.out).at_ hlt
          cases hzz : Z i j with
          | none =>
            rw [hzz] at hc
            have hc2 : wr.cell? (ad.add j) = some (Value.complex .f64 13830554455654793216 0) := hc
            have HZZ := Lib.hid hzz
            clear hc hzz
            have h1 := order_none
            have h2 := order_zero
            go_wp2
            go_roundw
            case rel => exact ⟨j + 1, q, _, P, by omega, rfl, by go_num, HO.out, by have := HQ.out; omega, names_none HN.out HZZ.out, HS.out, HB.out, HZ.out⟩
            case measure => simp [intOf]; omega
          | some p =>
            rw [hzz] at hc
            have hc2 : wr.cell? (ad.add j) = some (Value.complex .f64 (fl p.1) (fl p.2)) := hc
            have HZZ := Lib.hid hzz
            have hok := HG.out i j p hzz
            have h1 := order_some_none p.1 (by have := hok.1; omega)
            have M32 := HM.out i h8
            have hq8 : q ≤ 256 := by have := HQ.out; have := EM.out; omega
            have ho2 := HO.out.congr (Z' := fun t => some (snocP P q p t)) fun t ht => by unfold snocP; rw [if_neg (by omega)]
            obtain ⟨v', w', r, o', ⟨g, cap, ev'⟩, gr⟩ := run_z (p := some p) 26 ho2 (by unfold snocP; rw [if_pos rfl]) (by omega) (by have := HZ.out; omega)
            have r2 : (Builtin.append_ #[26, 26] 26 #[v, .slice (some ⟨wr.heap.size, 0, none⟩) 1 1]).run Tryz.prog (wr.alloc (.cells #[.complex .f64 (fl p.1) (fl p.2)] 48)) = .ok v' w' := r
            have R := Lib.hid r2
            have sa : (wr.alloc (.cells #[zval (some p)] 48)).heap.size = wr.heap.size + 1 := World.size_alloc _ _
            have hs' : StIs w' w.heap.size K S V := (gr.block _ (by rw [sa]; have := HZ.out; omega) fun e => by have := (HO.out.lt e.symm).1; omega).trans ((RowIs.below HS.out ((Below.refl _ _).alloc (Nat.le_refl _) _)))
            have hb' : Below w.heap.size w w' := (HB.out.alloc HB.out.size _).grown gr (by rw [sa]; have := HZ.out; omega) fun k hk => by have := (HO.out.lt hk).1; omega
            have hz' : w.heap.size + 2 ≤ w'.heap.size := by have := gr.size; rw [sa] at this; have := HZ.out; omega
            have FIN : Hid (OwnZ w' (w.heap.size + 1) v' (q + 1) (fun t => some (snocP P q p t)) ∧ q + 1 ≤ 32 * i + (j + 1) ∧ Names M Z i (j + 1) (q + 1) (snocP P q p) ∧ StIs w' w.heap.size K S V ∧ Below w.heap.size w w' ∧ w.heap.size + 2 ≤ w'.heap.size) := Lib.hid ⟨o', by have := HQ.out; omega, names_some HN.out HZZ.out, hs', hb', hz'⟩
            obtain ⟨A0, c0, ev0⟩ := HO.out.shape
            subst ev0
            subst ev'
            clear r r2 o' gr sa hs' hb' hz' ho2 hc hzz hok M32 hq8
            go_wp2_with (at_builtin; refine Lib.wpList_append_run _ rfl (.tmp 28) (.tmp 36) _ _ rfl _ _ rfl rfl _ _ R.out ?_)
            go_roundw
            case rel => exact ⟨j + 1, q + 1, _, snocP P q p, by omega, rfl, by go_num, FIN.out⟩
            case measure => simp [intOf]; omega
        · obtain rfl : j = m := by omega
          have n2 : Hid (Names M Z (i + 1) 0 q P) := Lib.hid (names_next (by rw [← EM.out]; exact HN.out))
          have q2' : Hid (q ≤ 32 * (i + 1)) := Lib.hid (by have := HQ.out; have := EM.out; have := HM.out i h8; omega)
          go_wp2
          go_roundw
          case rel => exact ⟨i + 1, q, _, P, by omega, rfl, by go_num, HO.out, q2'.out, n2.out, HS.out, HB.out, HZ.out⟩
          case measure => simp [intOf]; omega
    · obtain rfl : i = 8 := by omega
      have FIN : Hid (OwnZ wr w.heap.size v q (fun t => some (P t)) ∧ q ≤ 256 ∧ Names M Z 8 0 q P ∧ Below w.heap.size w wr) := Lib.hid ⟨HO.out.base (by omega), HQ.out, HN.out, HB.out⟩
      go_wp2
      go_ret
      exact ⟨_, q, P, rfl, FIN.out⟩
end Go.Proofs.YtilknndcaoljnaaGreat

namespace Go.Proofs.YtilknndcaoljnaaGreat
open Go.RowKit

/-- The number of a place in width 16. -/
def idx (p : Spot) : Nat := p.1 * 16 + p.2
theorem idx_lt {p : Spot} (h : SpotOk p) : idx p < 384 := by have h1 := h.1; have h2 := h.2; unfold idx; omega
def unidx (n : Nat) : Spot := (n / 16, n % 16)
theorem unidx_ok {n : Nat} (h : n < 384) : SpotOk (unidx n) := ⟨by show n / 16 < 24; omega, by show n % 16 < 16; omega⟩
theorem unidx_idx {p : Spot} (h : SpotOk p) : unidx (idx p) = p := by
  have h2 := h.2
  unfold unidx idx
  exact Prod.ext (by show (p.1 * 16 + p.2) / 16 = p.1; omega) (by show (p.1 * 16 + p.2) % 16 = p.2; omega)
theorem idx_unidx (n : Nat) : idx (unidx n) = n := by unfold unidx idx; show n / 16 * 16 + n % 16 = n; omega

/-- Which of the first places, in their order, are marked. -/
def picked (D : Nat → Bool) (n : Nat) : List Nat := (List.range n).filter D
theorem picked_next (D : Nat → Bool) (n : Nat) : picked D (n + 1) = if D n then picked D n ++ [n] else picked D n := by
  unfold picked
  rw [List.range_succ, List.filter_append]
  cases h : D n <;> simp [h]
theorem picked_len (D : Nat → Bool) (n : Nat) : (picked D n).length ≤ n := by
  have := List.length_filter_le D (List.range n)
  rw [List.length_range] at this
  exact this

theorem List.Nodup.map_on_ {f : Nat → Spot} {l : List Nat} (hf : ∀ a b, f a = f b → a = b) (h : l.Nodup) : (l.map f).Nodup := by
  unfold List.Nodup at h ⊢
  rw [List.pairwise_map]
  exact h.imp fun hab e => hab (hf _ _ e)

def marks (P : Nat → Spot) (k i : Nat) : Bool := decide (∃ t, t < k ∧ idx (P t) = i)
theorem marks_next (P : Nat → Spot) (k i : Nat) : marks P (k + 1) i = if i = idx (P k) then true else marks P k i := by
  unfold marks
  by_cases c : i = idx (P k)
  · rw [if_pos c]; simp only [decide_eq_true_eq]; exact ⟨k, by omega, c.symm⟩
  · rw [if_neg c]
    congr 1
    apply propext
    constructor
    · rintro ⟨t, ht, e⟩
      rcases (by omega : t < k ∨ t = k) with h | rfl
      · exact ⟨t, h, e⟩
      · exact absurd e.symm c
    · rintro ⟨t, ht, e⟩
      exact ⟨t, by omega, e⟩

theorem bool_info : (Tryz.prog.info? 4).map (fun i => (i.zero, i.size, i.bytes)) = some (some (.bool false), 1, 1) := by kernel_rfl
theorem bools_zeros (k : Nat) : (madeCells (Value.bool false).cells k) = ((List.range k).map fun _ => Value.bool false).toArray := by
  apply Array.ext'
  unfold madeCells
  simp only [Array.toList_map, Array.toList_range]
  apply List.map_congr_left
  intro i _
  simp [Value.cells, Nat.mod_one]
theorem make_bools (k : Nat) (hk : k ≤ 281474976710656) (u : World) :
    (Instr.makeSlice 119 (.int .i64 (k : Int)) (.int .i64 (k : Int))).run Tryz.prog u = .ok (.slice (some ⟨u.heap.size, 0, none⟩) k k) (u.alloc (.cells ((List.range k).map fun _ => Value.bool false).toArray 4)) := by
  obtain ⟨i0, hi, hz0, hz1, hz2⟩ := info_parts bool_info
  have h := run_make (P := Tryz.prog) u 119 4 i0 (.bool false) Tryz.underlying119 hi hz0 .i64 .i64 (k : Int) (k : Int) (by omega) (by omega) (by rw [hz2]; omega) (by omega)
  rw [hz1, Int.toNat_natCast, Nat.mul_one] at h
  rw [h, ← bools_zeros]

set_option maxRecDepth 20000 in
theorem refSort_any (v : Value) (n : Nat) (P : Nat → Spot) (w : World) (hv : ReadsZ w v n (fun t => some (P t))) (hP : ∀ t, t < n → SpotOk (P t)) (hn : n ≤ 4096) :
    Calls Tryz.prog 76 #[v] w fun e w' => ∃ (u : Value) (Z : Nat → Pl) (E : List Spot), e = .returned (.tuple #[u, .int .i64 0]) ∧ OwnZ w' w.heap.size u E.length Z ∧ E.Nodup ∧ (∀ p, p ∈ E ↔ ∃ t, t < n ∧ P t = p) ∧ Below w.heap.size w w' := by
  obtain ⟨A, c, rfl, v1, v2, v3, -⟩ := id hv
  have HV := Lib.hid hv
  have HP := Lib.hid hP
  have m1 : ∀ u : World, (Instr.makeSlice 119 (.int .i64 384) (.int .i64 384)).run Tryz.prog u = .ok (.slice (some ⟨u.heap.size, 0, none⟩) 384 384) (u.alloc (.cells ((List.range 384).map fun _ => Value.bool false).toArray 4)) := make_bools 384 (by omega)
  obtain ⟨row, hrow⟩ : ∃ row, row = (.cells ((List.range 384).map fun _ => Value.bool false).toArray 4 : Obj) := ⟨_, rfl⟩
  rw [← hrow] at m1
  obtain ⟨w1, hw1⟩ : ∃ w1, w1 = w.alloc row := ⟨_, rfl⟩
  have B1 : Hid (Below w.heap.size w w1) := Lib.hid (by rw [hw1]; exact (Below.refl _ w).alloc (Nat.le_refl _) _)
  have R1 : Hid (RowIs w1 w.heap.size 4 (fun i => .bool (marks P 0 i)) 384) := Lib.hid (by
    rw [hw1, hrow]
    refine (row_new w 4 (fun _ => .bool false) 384 ((List.range 384).map fun _ => Value.bool false) (by simp) fun i hi => by simp [hi]).congr fun i hi => ?_
    have : marks P 0 i = false := by unfold marks; simp
    rw [this])
  have Z1 : Hid (w1.heap.size = w.heap.size + 1) := Lib.hid (by rw [hw1, World.size_alloc])
  clear hv hP hrow
  go_enter Tryz.func76, Tryz.ntmps76
  go_wp2
  rw [← hw1]
  clear hw1 m1
  go_loopw [5] (fun x wr => ∃ k : Nat, k ≤ n ∧ x = .int .i64 (k : Int) ∧ RowIs wr w.heap.size 4 (fun i => .bool (marks P k i)) 384 ∧ Below w.heap.size w wr ∧ w.heap.size + 1 ≤ wr.heap.size) (fun x _ => n - (intOf x).toNat)
  case atStart => exact ⟨0, by omega, rfl, R1.out, B1.out, Nat.le_of_eq Z1.out.symm⟩
  case round =>
    clear B1 R1 Z1
    obtain ⟨k, hk, rfl, hr, hb, hz⟩ := hrel
    have HR := Lib.hid hr
    have HB := Lib.hid hb
    have HZ := Lib.hid hz
    clear hr hb hz
    by_cases hlt : k < n
    · obtain ⟨ad, rfl⟩ := HV.out.addr (by omega)
      have hok := HP.out k hlt
      have hc := (HV.out.below HB.out).at_ hlt
      obtain ⟨a, ea⟩ : ∃ a, a = (P k).1 := ⟨_, rfl⟩
      obtain ⟨b, eb⟩ : ∃ b, b = (P k).2 := ⟨_, rfl⟩
      have hc2 : wr.cell? (ad.add k) = some (.complex .f64 (fl a) (fl b)) := by rw [ea, eb]; exact hc
      have ha : a < 24 := by rw [ea]; exact hok.1
      have hb16 : b < 16 := by rw [eb]; exact hok.2
      obtain ⟨g, eg⟩ : ∃ g, g = a * 16 + b := ⟨_, rfl⟩
      have hg : g < 384 := by omega
      have FL : Hid (∀ W, Calls Tryz.prog 33 #[.complex .f64 (fl a) (fl b), .int .i64 16] W fun e w' => e = .returned (.tuple #[.int .i64 (g : Int), .int .i64 0]) ∧ W = w') := Lib.hid fun W => by
        have := refFlat_some a b 16 W ha hb16 (by omega) (by omega) (by omega)
        rw [show ((g : Nat) : Int) = (a : Int) * 16 + b by omega]
        exact this
      have fr := HR.out.free g
      have cg := HR.out.cell (i := g) hg
      have NX : Hid (RowIs (wr.setCell ⟨w.heap.size, g, none⟩ (.bool true)) w.heap.size 4 (fun i => .bool (marks P (k + 1) i)) 384) := Lib.hid (HR.out.set_ (k := g) (fun _ => by rw [marks_next, if_pos (by rw [eg, ea, eb]; rfl)]) (fun i _ hi => by rw [marks_next, if_neg (by intro e; apply hi; rw [e, eg, ea, eb]; rfl)]))
      have B2 : Hid (Below w.heap.size w (wr.setCell ⟨w.heap.size, g, none⟩ (.bool true))) := Lib.hid (HB.out.setCell (p := ⟨w.heap.size, g, none⟩) (Nat.le_refl _) _)
      obtain ⟨old, eold⟩ : ∃ old, old = marks P k g := ⟨_, rfl⟩
      rw [← eold] at cg
      clear hok hc ea eb ha hb16 eg eold
      go_wp2_with fail
      with_reducible refine (FL.out _).mono ?_
      rintro e w' ⟨rfl, rfl⟩
      go_wp2
      go_roundw
      case rel => exact ⟨k + 1, by omega, by go_num, NX.out, B2.out, by have := HZ.out; simpa using this⟩
      case measure => simp [intOf]; omega
    · obtain rfl : k = n := by omega
      have O2 : Hid (OwnZ (wr.alloc (.cells #[] 48)) (w.heap.size + 1) (.slice (some ⟨wr.heap.size, 0, none⟩) 0 0) 0 (fun _ => none)) := Lib.hid ((ownZ_made wr 0 (by omega) _).base HZ.out)
      have B2 : Hid (Below w.heap.size w (wr.alloc (.cells #[] 48))) := Lib.hid (HB.out.alloc HB.out.size _)
      have R2 : Hid (RowIs (wr.alloc (.cells #[] 48)) w.heap.size 4 (fun i => .bool (marks P k i)) 384) := Lib.hid (RowIs.below HR.out ((Below.refl _ _).alloc (Nat.le_refl _) _))
      have S2 : Hid (w.heap.size + 1 ≤ (wr.alloc (.cells #[] 48)).heap.size) := Lib.hid (by rw [World.size_alloc]; have := HZ.out; omega)
      obtain ⟨w2, hw2⟩ : ∃ w2, w2 = wr.alloc (.cells #[] 48) := ⟨_, rfl⟩
      rw [← hw2] at O2 B2 R2 S2
      clear HR HB HZ
      go_wp2
      rw [← hw2]
      clear hw2
      go_loopw [8, 9] (fun u x wq => ∃ (m : Nat) (v : Value) (Z : Nat → Pl), m ≤ 384 ∧ v = u ∧ x = .int .i64 (m : Int) ∧ OwnZ wq (w.heap.size + 1) v (picked (marks P k) m).length Z ∧ RowIs wq w.heap.size 4 (fun i => .bool (marks P k i)) 384 ∧ Below w.heap.size w wq ∧ w.heap.size + 1 ≤ wq.heap.size) (fun _ x _ => 384 - (intOf x).toNat)
      case atStart => exact ⟨0, _, _, by omega, rfl, rfl, O2.out, R2.out, B2.out, S2.out⟩
      case round =>
        clear O2 R2 B2 S2
        obtain ⟨m, v, Z, hm, rfl, rfl, ho, hr, hb, hz⟩ := hrel
        have HO := Lib.hid ho
        have HR := Lib.hid hr
        have HB := Lib.hid hb
        have HZ := Lib.hid hz
        clear ho hr hb hz
        by_cases hlt : m < 384
        · have cg := HR.out.cell (i := m) hlt
          cases hmk : marks P k m with
          | false =>
            rw [hmk] at cg
            have nx : picked (marks P k) (m + 1) = picked (marks P k) m := by rw [picked_next, hmk]; rfl
            have FIN : Hid (OwnZ wr (w.heap.size + 1) v (picked (marks P k) (m + 1)).length Z) := Lib.hid (by rw [nx]; exact HO.out)
            clear hmk nx
            go_wp2
            go_roundw
            case rel => exact ⟨m + 1, _, Z, by omega, rfl, by go_num, FIN.out, HR.out, HB.out, HZ.out⟩
            case measure => simp [intOf]; omega
          | true =>
            rw [hmk] at cg
            have nx : (picked (marks P k) (m + 1)).length = (picked (marks P k) m).length + 1 := by rw [picked_next, hmk, if_pos rfl, List.length_append]; rfl
            have hq := picked_len (marks P k) m
            obtain ⟨q, eq⟩ : ∃ q, q = (picked (marks P k) m).length := ⟨_, rfl⟩
            rw [← eq] at HO nx hq
            have ho2 := HO.out.congr (Z' := fun t => if t = q then some (unidx m) else Z t) fun t ht => by rw [if_neg (by omega)]
            obtain ⟨v', w', r, o', ⟨g, cap, ev'⟩, gr⟩ := run_z (p := some (unidx m)) 26 ho2 (by rw [if_pos rfl]) (by omega) (by have := HZ.out; omega)
            have r2 : (Builtin.append_ #[26, 26] 26 #[v, .slice (some ⟨wr.heap.size, 0, none⟩) 1 1]).run Tryz.prog (wr.alloc (.cells #[.complex .f64 (floatOfInt .f64 ((m : Int) / 16)) (floatOfInt .f64 ((m : Int) % 16))] 48)) = .ok v' w' := r
            have R := Lib.hid r2
            have sa : (wr.alloc (.cells #[zval (some (unidx m))] 48)).heap.size = wr.heap.size + 1 := World.size_alloc _ _
            have hr' : RowIs w' w.heap.size 4 (fun i => .bool (marks P k i)) 384 := (gr.block _ (by rw [sa]; have := HZ.out; omega) fun e => by have := (HO.out.lt e.symm).1; omega).trans ((RowIs.below HR.out ((Below.refl _ _).alloc (Nat.le_refl _) _)))
            have hb' : Below w.heap.size w w' := (HB.out.alloc HB.out.size _).grown gr (by rw [sa]; have := HZ.out; omega) fun k hk => by have := (HO.out.lt hk).1; omega
            have hz' : w.heap.size + 1 ≤ w'.heap.size := by have := gr.size; rw [sa] at this; have := HZ.out; omega
            have FIN : Hid (OwnZ w' (w.heap.size + 1) v' (picked (marks P k) (m + 1)).length (fun t => if t = q then some (unidx m) else Z t) ∧ RowIs w' w.heap.size 4 (fun i => .bool (marks P k i)) 384 ∧ Below w.heap.size w w' ∧ w.heap.size + 1 ≤ w'.heap.size) := Lib.hid ⟨by rw [nx]; exact o', hr', hb', hz'⟩
            obtain ⟨A0, c0, ev0⟩ := HO.out.shape
            subst ev0
            subst ev'
            have h0 : ¬ (16 : Int) = 0 := by omega
            have hq0 : 0 ≤ (m : Int) / 16 := by omega
            have hq1 : (m : Int) / 16 < 24 := by omega
            have hqq : IntKind.i64.wrap ((m : Int).tdiv 16) = (m : Int) / 16 := by rw [Int.tdiv_eq_ediv_of_nonneg (by omega)]; exact IntWalk.i64_in _ (by omega)
            have hqr : (m : Int).tmod 16 = (m : Int) % 16 := Int.tmod_eq_emod_of_nonneg (by omega)
            clear r r2 o' gr sa hr' hb' hz' ho2 nx eq hq hmk
            go_wp2_with fail
            refine (refMake_any _ _ _).mono ?_
            rintro e w5 ⟨rfl, rfl⟩
            go_wp2_with (at_builtin; refine Lib.wpList_append_run _ rfl (.tmp 44) (.tmp 50) _ _ rfl _ _ rfl rfl _ _ R.out ?_)
            go_roundw
            case rel => exact ⟨m + 1, _, _, by omega, rfl, by go_num, FIN.out⟩
            case measure => simp [intOf]; omega
        · obtain rfl : m = 384 := by omega
          have el : ((picked (marks P k) 384).map unidx).length = (picked (marks P k) 384).length := List.length_map _
          have FIN : Hid (OwnZ wr w.heap.size v ((picked (marks P k) 384).map unidx).length Z ∧ ((picked (marks P k) 384).map unidx).Nodup ∧ (∀ p, p ∈ (picked (marks P k) 384).map unidx ↔ ∃ t, t < k ∧ P t = p) ∧ Below w.heap.size w wr) := Lib.hid (by
            refine ⟨by rw [el]; exact HO.out.base (by omega), ?_, fun p => ⟨fun hp => ?_, ?_⟩, HB.out⟩
            · refine List.Nodup.map_on_ (fun a b e => ?_) ((List.nodup_range).filter _)
              rw [← idx_unidx a, ← idx_unidx b, e]
            · obtain ⟨i, hi, rfl⟩ := List.mem_map.1 hp
              have := (List.mem_filter.1 hi).2
              unfold marks at this
              obtain ⟨t, ht, e⟩ := of_decide_eq_true this
              exact ⟨t, ht, by rw [← e, unidx_idx (HP.out t ht)]⟩
            · rintro ⟨t, ht, rfl⟩
              refine List.mem_map.2 ⟨idx (P t), List.mem_filter.2 ⟨List.mem_range.2 (idx_lt (HP.out t ht)), ?_⟩, unidx_idx (HP.out t ht)⟩
              unfold marks
              exact decide_eq_true ⟨t, ht, rfl⟩)
          go_wp2
          go_ret2
          exact ⟨_, Z, _, rfl, FIN.out⟩
end Go.Proofs.YtilknndcaoljnaaGreat

