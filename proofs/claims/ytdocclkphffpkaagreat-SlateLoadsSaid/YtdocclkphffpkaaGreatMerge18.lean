/- Pages that are those of a state that fits: what they hold, pure. Decode, of any pages: the state that they are laid of, or nothing and Corrupt. What Decode answers, as it is seen: lifted out of LeafDecodes for the layers above. Two checkpoints on a device: which areas hold one, and which is the newest. Pure. The document's Same: of rows of places that are alike, and of states that are. The document's Sound, of any state whose places are places or none. -/
import Derived.Test.YtdocclkphffpkaaGreatMerge17
import Derived.Test.YtdocclkphffpkaaGreatMerge16
import Derived.Test.YtdocclkphffpkaaGreatMerge12
import Derived.Test.YtdocclkphffpkaaGreatMerge15
import Derived.Test.YtdocclkphffpkaaGreatMerge14
import Derived.Test.YtdocclkphffpkaaGreatLfPlat
import Derived.Test.YtdocclkphffpkaaGreatMerge3
import Derived.Test.YtdocclkphffpkaaGreatCalm
namespace Go.Proofs.YtdocclkphffpkaaGreat
open Go.RowKit

theorem sealed_congr {n : Nat} {f g : Nat → Nat} (h : Sealed n f) (he : ∀ i, i < 64 → f i = g i) : Sealed n g :=
  ⟨h.1, fun i hi => by rw [← he _ (by omega), h.2 i hi, crc_congr fun j hj => he j (by omega)]⟩
theorem seqIn_congr {f g : Nat → Nat} (he : ∀ i, i < 64 → f i = g i) : seqIn f = seqIn g := val_congr fun j hj => he _ (by omega)
theorem header_congr {n : Nat} {f g : Nat → Nat} (h : Header n f) (he : ∀ i, i < 64 → f i = g i) : Header n g :=
  ⟨sealed_congr h.1 he, ⟨by rw [← he _ (by omega)]; exact h.2.1.1, by rw [← he _ (by omega)]; exact h.2.1.2.1, by rw [← he _ (by omega)]; exact h.2.1.2.2.1, by rw [← he _ (by omega)]; exact h.2.1.2.2.2⟩,
    by rw [← seqIn_congr he]; exact h.2.2.1, by rw [← he _ (by omega)]; exact h.2.2.2⟩

/-- Parts that are alike make one text. -/
theorem join_congr {k : Nat} {G H : Nat → Nat × (Nat → Nat)} (h : ∀ i, i < k → (G i).1 = (H i).1 ∧ ∀ j, j < (G i).1 → (G i).2 j = (H i).2 j) :
    (joinL ((List.range k).map G)).1 = (joinL ((List.range k).map H)).1 ∧ ∀ j, j < (joinL ((List.range k).map G)).1 → (joinL ((List.range k).map G)).2 j = (joinL ((List.range k).map H)).2 j := by
  induction k with
  | zero => exact ⟨rfl, fun j hj => rfl⟩
  | succ k ih =>
    obtain ⟨e, hs⟩ := ih fun i hi => h i (by omega)
    obtain ⟨e1, e2⟩ := h k (by omega)
    rw [List.range_succ, List.map_append, List.map_append, List.map_cons, List.map_cons, List.map_nil, List.map_nil, joinL_snoc, joinL_snoc, ← e, ← e1]
    refine ⟨rfl, fun j hj => ?_⟩
    show behind _ _ _ j = behind _ _ _ j
    by_cases c : j < (joinL ((List.range k).map G)).1
    · rw [behind_low c, behind_low c]; exact hs j c
    · rw [behind_high (by omega), behind_high (by omega)]
      have hj' : j < (joinL ((List.range k).map G)).1 + (G k).1 := hj
      exact e2 _ (by omega)

theorem dpart_congr {F G : Nat → Nat → Nat} {i : Nat} (h : ∀ j, j < 64 → F i j = G i j) : (dpart F i).1 = (dpart G i).1 ∧ ∀ j, j < (dpart F i).1 → (dpart F i).2 j = (dpart G i).2 j := by
  have e : dlen (F i) = dlen (G i) := by unfold dlen; rw [h 5 (by omega)]
  refine ⟨e, fun j hj => ?_⟩
  have hj : j < dlen (F i) := hj
  exact h (6 + j) (by unfold dlen at hj; omega)

theorem hasP_congr {M M' : Nat → Nat} {Z Z' : Nat → Nat → Pl} (h : ∀ i, i < 8 → M i = M' i ∧ ∀ j, j < M i → Z i j = Z' i j) {p : Spot} (hp : HasP M Z 8 0 p) : HasP M' Z' 8 0 p := by
  rcases hp with ⟨i, j, hi, hj, e⟩ | ⟨j, hj, _⟩
  · exact .inl ⟨i, j, hi, by rw [← (h i hi).1]; exact hj, by rw [← (h i hi).2 j hj]; exact e⟩
  · exact absurd hj (Nat.not_lt_zero _)

/-- Two states that are one, as far as they are read. -/
def Alike (K S M K' S' M' : Nat → Nat) (Z Z' : Nat → Nat → Pl) : Prop := ∀ i, i < 8 → K i = K' i ∧ S i = S' i ∧ M i = M' i ∧ ∀ j, j < M i → Z i j = Z' i j
theorem Alike.symm {K S M K' S' M' : Nat → Nat} {Z Z' : Nat → Nat → Pl} (h : Alike K S M K' S' M' Z Z') : Alike K' S' M' K S M Z' Z := fun i hi => by
  obtain ⟨h1, h2, h3, h4⟩ := h i hi
  exact ⟨h1.symm, h2.symm, h3.symm, fun j hj => (h4 j (by omega)).symm⟩
theorem Alike.trans {K S M K' S' M' K2 S2 M2 : Nat → Nat} {Z Z' Z2 : Nat → Nat → Pl} (h : Alike K S M K' S' M' Z Z') (k : Alike K' S' M' K2 S2 M2 Z' Z2) : Alike K S M K2 S2 M2 Z Z2 := fun i hi => by
  obtain ⟨h1, h2, h3, h4⟩ := h i hi
  obtain ⟨k1, k2, k3, k4⟩ := k i hi
  exact ⟨h1.trans k1, h2.trans k2, h3.trans k3, fun j hj => (h4 j hj).trans (k4 j (by omega))⟩

theorem fitA_congr {s b : Int} {K S M K' S' M' : Nat → Nat} {Z Z' : Nat → Nat → Pl} (h : FitA s b K S M Z) (ha : Alike K S M K' S' M' Z Z') : FitA s b K' S' M' Z' := by
  obtain ⟨h1, h2, h3, E, e1, e2, e3⟩ := h
  have up : ∀ p, HasP M Z 8 0 p → HasP M' Z' 8 0 p := fun p => hasP_congr fun i hi => ⟨(ha i hi).2.2.1, (ha i hi).2.2.2⟩
  have dn : ∀ p, HasP M' Z' 8 0 p → HasP M Z 8 0 p := fun p => hasP_congr fun i hi => ⟨(ha.symm i hi).2.2.1, (ha.symm i hi).2.2.2⟩
  refine ⟨h1, fun i hi => ?_, fun p hp => h3 p (dn p hp), E, e1, fun p => ⟨fun hp => up p ((e2 p).1 hp), fun hp => (e2 p).2 (dn p hp)⟩, e3⟩
  obtain ⟨k1, k2, k3, _⟩ := ha i hi
  rw [← k1, ← k2, ← k3]
  exact h2 i hi

/-- Places as they are, and none where nothing is read. -/
def kept (M : Nat → Nat) (Z : Nat → Nat → Pl) (i j : Nat) : Pl := if i < 8 ∧ j < M i then Z i j else none
theorem kept_alike (K S M : Nat → Nat) (Z : Nat → Nat → Pl) : Alike K S M K S M Z (kept M Z) := fun i hi => ⟨rfl, rfl, rfl, fun j hj => by unfold kept; rw [if_pos ⟨hi, hj⟩]⟩
theorem kept_narrow {s b : Nat} {K S M : Nat → Nat} {Z : Nat → Nat → Pl} (h : FitA s b K S M Z) : Narrow b (kept M Z) := fun i j q hq => by
  unfold kept at hq
  by_cases c : i < 8 ∧ j < M i
  · rw [if_pos c] at hq
    have h1 := h.2.2.1 q (.inl ⟨i, j, c.1, c.2, hq⟩)
    have g := h.1.1
    omega
  · rw [if_neg c] at hq
    cases hq

/-- These pages are those of this state, in this geometry, with this number; and it fits. -/
def Laid (N : Nat) (L : Nat → Nat) (F : Nat → Nat → Nat) (s b seq : Nat) (K S M : Nat → Nat) (Z : Nat → Nat → Pl) : Prop :=
  FitA s b K S M Z ∧ 1 ≤ seq ∧ seq ≤ 1073741824 ∧ SameP N (pcount (tx b K S M Z 8).1 + 1) L (fun _ => 64) F (encF s b seq (tx b K S M Z 8).1 (tx b K S M Z 8).2)

theorem sameP_congr {N n n' s b seq : Nat} {L : Nat → Nat} {F : Nat → Nat → Nat} {f f' : Nat → Nat} (e : n = n') (he : ∀ t, t < n → f t = f' t) (h : SameP N (pcount n + 1) L (fun _ => 64) F (encF s b seq n f)) : SameP N (pcount n' + 1) L (fun _ => 64) F (encF s b seq n' f') := by
  subst e
  refine ⟨h.1, fun i hi => ⟨(h.2 i hi).1, fun j hj => ?_⟩⟩
  rw [(h.2 i hi).2 j hj]
  cases i with
  | zero => rw [encF_head, encF_head, crc_congr he]
  | succ i =>
    rw [encF_leaf, encF_leaf]
    unfold leafF
    refine sec_congr (fun t ht => ?_) j
    unfold pad
    by_cases c : t < 6 + plen n i
    · rw [if_pos c, if_pos c]
      unfold leafB
      by_cases c6 : t < 6
      · rw [behind_low c6, behind_low c6]
      · rw [behind_high (by omega), behind_high (by omega)]
        exact he _ (by unfold plen at c; omega)
    · rw [if_neg c, if_neg c]

theorem Laid.alike {N : Nat} {L : Nat → Nat} {F : Nat → Nat → Nat} {s b seq : Nat} {K S M K' S' M' : Nat → Nat} {Z Z' : Nat → Nat → Pl} (h : Laid N L F s b seq K S M Z) (ha : Alike K S M K' S' M' Z Z') : Laid N L F s b seq K' S' M' Z' :=
  ⟨fitA_congr h.1 ha, h.2.1, h.2.2.1, sameP_congr (tx_congr (Nat.le_refl _) ha).1 (tx_congr (Nat.le_refl _) ha).2 h.2.2.2⟩

theorem fit_small {s b : Int} {K S M : Nat → Nat} {Z : Nat → Nat → Pl} (h : FitA s b K S M Z) {i : Nat} (hi : i < 8) : K i ≤ 2 ∧ S i ≤ 32 ∧ M i = S i := by
  obtain ⟨h1, h2⟩ := h.2.1 i hi
  unfold EntryA at h1
  omega

theorem tx_fits {s b : Int} {c : Nat} {K S M : Nat → Nat} {Z : Nat → Nat → Pl} (h : FitA s b K S M Z) {i : Nat} (hi : i ≤ 8) : (tx c K S M Z i).1 ≤ 66 * i ∧ 2 * i ≤ (tx c K S M Z i).1 := by
  induction i with
  | zero => exact ⟨Nat.le_refl _, Nat.le_refl _⟩
  | succ i ih =>
    have := ih (by omega)
    have h3 := fit_small h (i := i) (by omega)
    rw [tx_next]
    show _ + 2 + M i * 2 ≤ _ ∧ _ ≤ _ + 2 + M i * 2
    omega

/-- What is read of pages that are laid. -/
theorem Laid.holds {N : Nat} {L : Nat → Nat} {F : Nat → Nat → Nat} {s b seq : Nat} {K S M : Nat → Nat} {Z : Nat → Nat → Pl} (h : Laid N L F s b seq K S M Z) :
    Header (L 0) (F 0) ∧ F 0 10 + 1 = N ∧ F 0 8 = s ∧ F 0 9 = b ∧ seqIn (F 0) = seq ∧ N = pcount (tx b K S M Z 8).1 + 1 ∧ 2 ≤ N ∧ N ≤ 12 ∧ (∀ i, i < N → Sealed (L i) (F i)) ∧
      (∀ i, i + 1 < N → F (i + 1) 5 ≤ 52) ∧
      (joinL ((List.range (N - 1)).map (dpart fun i => F (i + 1)))).1 = (tx b K S M Z 8).1 ∧
      ∀ j, j < (tx b K S M Z 8).1 → (joinL ((List.range (N - 1)).map (dpart fun i => F (i + 1)))).2 j = (tx b K S M Z 8).2 j := by
  obtain ⟨hf, q1, q2, hN, hs⟩ := h
  have t1 := tx_fits (c := b) hf (Nat.le_refl 8)
  have pc : 1 ≤ pcount (tx b K S M Z 8).1 ∧ pcount (tx b K S M Z 8).1 ≤ 11 := by unfold pcount; omega
  have g := hf.1
  have s256 : s < 256 := by have := g.1.2; omega
  have b256 : b < 256 := by have := g.2.2; omega
  obtain ⟨l0, f0⟩ := hs 0 (by omega)
  have l0 : L 0 = 64 := l0
  rw [l0] at f0 ⊢
  have at0 : ∀ i, i < 64 → headF s b seq (pcount (tx b K S M Z 8).1) (tx b K S M Z 8).1 (crc (tx b K S M Z 8).2 (tx b K S M Z 8).1) i = F 0 i := fun i hi => by rw [f0 i hi, encF_head]
  have ati : ∀ k, k + 1 < N → ∀ i, i < 64 → leafF seq (tx b K S M Z 8).1 (tx b K S M Z 8).2 k i = F (k + 1) i := fun k hk i hi => by
    obtain ⟨lk, fk⟩ := hs (k + 1) hk
    have lk : L (k + 1) = 64 := lk
    rw [fk i (by rw [lk]; exact hi), encF_leaf]
  refine ⟨header_congr (headF_header q1 q2 pc.2) at0, by rw [← at0 10 (by omega), headF_count (by omega)]; exact hN.symm, by rw [← at0 8 (by omega), headF_s s256], by rw [← at0 9 (by omega), headF_b b256], by rw [← seqIn_congr at0, headF_seq (by omega)],
    hN, by omega, by omega, fun i hi => ?_, fun i hi => ?_, ?_⟩
  · cases i with
    | zero => rw [l0]; exact sealed_congr (headF_sealed _ _ _ _ _ _) at0
    | succ i => rw [(hs _ hi).1]; exact sealed_congr (leafF_sealed _ _ _ _) (ati i hi)
  · rw [← ati i hi 5 (by omega), leafF_size]
    exact plen_le _ _
  · have jc := join_congr (k := N - 1) (G := dpart fun i => leafF seq (tx b K S M Z 8).1 (tx b K S M Z 8).2 i) (H := dpart fun i => F (i + 1)) fun i hi => dpart_congr (ati i (by omega))
    have jt := join_text seq (tx b K S M Z 8).1 (tx b K S M Z 8).2 (N - 1) (by omega)
    have hm : min (tx b K S M Z 8).1 ((N - 1) * 52) = (tx b K S M Z 8).1 := by
      have : N - 1 = pcount (tx b K S M Z 8).1 := by omega
      rw [this]
      unfold pcount
      omega
    rw [hm] at jt
    exact ⟨jc.1.symm.trans jt.1, fun j hj => (jc.2 j (by rw [jt.1]; exact hj)).symm.trans (jt.2 j hj)⟩

/- A text as far as it is read. -/
theorem vstep_congr {n : Nat} {f g : Nat → Nat} (h : ∀ i, i < n → f i = g i) (p : Nat) : vstep n f p = vstep n g p := by
  unfold vstep
  by_cases c : p + 1 < n
  · rw [h _ c]
  · omega
theorem vpos_congr {n : Nat} {f g : Nat → Nat} (h : ∀ i, i < n → f i = g i) (k : Nat) : vpos n f k = vpos n g k := by
  induction k with
  | zero => rfl
  | succ k ih => unfold vpos; rw [ih, vstep_congr h]
theorem vols_congr {n k : Nat} {f g : Nat → Nat} (h : ∀ i, i < n → f i = g i) (hv : Vols n f k) : Vols n g k :=
  ⟨hv.1, fun i hi => by rw [← vpos_congr h]; exact hv.2.1 i hi, fun hk => by rw [← vpos_congr h]; exact hv.2.2 hk⟩
theorem vols_one {n k m : Nat} {f : Nat → Nat} (h : Vols n f k) (h' : Vols n f m) : k = m := by
  rcases Nat.lt_trichotomy k m with c | c | c
  · exact absurd (h'.2.1 k c) (h.2.2 (by have := h'.1; omega))
  · exact c
  · exact absurd (h.2.1 m c) (h'.2.2 (by have := h.1; omega))
theorem st_congr {n k b : Nat} {f g : Nat → Nat} (h : ∀ i, i < n → f i = g i) (hv : Vols n f k) : Alike (stK n f k) (stS n f k) (stM n f k) (stK n g k) (stS n g k) (stM n g k) (stZ b n f) (stZ b n g) := by
  intro i hi
  unfold stK stS stM stZ
  by_cases c : i < k
  · have hp := hv.2.1 i c
    rw [if_pos c, if_pos c, if_pos c, if_pos c, if_pos c, if_pos c, ← vpos_congr h, h _ (by omega), h _ (by omega), vstep_congr h]
    refine ⟨rfl, rfl, rfl, fun j hj => ?_⟩
    have e : rowN (fun t => f (vpos n f i + (2 + t))) 2 j = rowN (fun t => g (vpos n f i + (2 + t))) 2 j := by
      unfold rowN
      refine val_congr fun t ht => h _ ?_
      have hv1 : vstep n g (vpos n f i) ≤ n - vpos n f i := by unfold vstep; exact Nat.min_le_right _ _
      unfold halves at hj
      split at hj <;> omega
    rw [e]
  · rw [if_neg c, if_neg c, if_neg c, if_neg c, if_neg c, if_neg c]
    exact ⟨rfl, rfl, rfl, fun j hj => absurd hj (Nat.not_lt_zero _)⟩

/-- The state that is read of them is theirs. -/
theorem Laid.state {N : Nat} {L : Nat → Nat} {F : Nat → Nat → Nat} {s b seq : Nat} {K S M : Nat → Nat} {Z : Nat → Nat → Pl} (h : Laid N L F s b seq K S M Z) {n nv : Nat} {f : Nat → Nat} (hn : n = (tx b K S M Z 8).1) (hf : ∀ j, j < n → f j = (tx b K S M Z 8).2 j) (hv : Vols n f nv) :
    Alike (stK n f nv) (stS n f nv) (stM n f nv) K S M (stZ b n f) Z := by
  have ka := kept_alike K S M Z
  have h' := h.alike ka
  have tc := tx_congr (b := b) (Nat.le_refl 8) ka
  have g := h.1.1
  have hM : ∀ i, i < 8 → M i = S i := fun i hi => (fit_small h.1 hi).2.2
  have e : n = (tx b K S M (kept M Z) 8).1 := hn.trans tc.1
  have hf' : ∀ j, j < n → f j = (tx b K S M (kept M Z) 8).2 j := fun j hj => (hf j hj).trans (tc.2 j (by omega))
  subst e
  have hv' := vols_congr hf' hv
  refine (st_congr hf' hv).trans (Alike.trans (K' := K) (S' := S) (M' := M) (Z' := kept M Z) (fun i hi => ?_) ka.symm)
  have := st_tx (b := b) (K := K) (S := S) (M := M) (Z := kept M Z) (by have := g.2.1; omega) (by have := g.2.2; omega) hM (kept_narrow h.1) hv' hi
  exact ⟨this.1, this.2.1, this.2.2.1, fun j hj => this.2.2.2 j (by rw [← this.2.2.1]; exact hj)⟩

/-- They are no other's. -/
theorem Laid.one {N : Nat} {L : Nat → Nat} {F : Nat → Nat → Nat} {s b seq s' b' seq' : Nat} {K S M K' S' M' : Nat → Nat} {Z Z' : Nat → Nat → Pl} (h : Laid N L F s b seq K S M Z) (h' : Laid N L F s' b' seq' K' S' M' Z') :
    s = s' ∧ b = b' ∧ seq = seq' ∧ Alike K S M K' S' M' Z Z' := by
  obtain ⟨_, _, e1, e2, e3, _, _, _, _, _, j1, j2⟩ := h.holds
  obtain ⟨_, _, f1, f2, f3, _, _, _, _, _, k1, k2⟩ := h'.holds
  obtain rfl : b = b' := e2.symm.trans f2
  have g := h.1.1
  have hv : Vols (tx b K S M Z 8).1 (tx b K S M Z 8).2 8 := by
    have ka := kept_alike K S M Z
    have hM : ∀ i, i < 8 → M i = S i := fun i hi => (fit_small h.1 hi).2.2
    refine ⟨Nat.le_refl _, fun i hi => ?_, fun c => absurd c (Nat.lt_irrefl _)⟩
    rw [vpos_tx hM (by omega)]
    have := tx_len_le b K S M Z (i := i + 1) (j := 8) (by omega)
    rw [tx_next] at this
    have this : (tx b K S M Z i).1 + 2 + M i * 2 ≤ (tx b K S M Z 8).1 := this
    omega
  have a1 := h.state rfl (fun _ _ => rfl) hv
  have a2 := h'.state (n := (tx b K S M Z 8).1) (f := (tx b K S M Z 8).2) (j1.symm.trans k1) (fun j hj => (j2 j hj).symm.trans (k2 j (by rw [← k1, j1]; exact hj))) hv
  exact ⟨e1.symm.trans f1, rfl, e3.symm.trans f3, a1.symm.trans a2⟩
end Go.Proofs.YtdocclkphffpkaaGreat

namespace Go.Proofs.YtdocclkphffpkaaGreat
open Go.RowKit

/-- What is read of pages whose header is one: the text of those leaves that are sealed, and its state. -/
def ReadPS (base N : Nat) (L : Nat → Nat) (F : Nat → Nat → Nat) (b : Nat) (K S : Nat → Nat) (V : Nat → Value) (W : World) : Prop :=
  ∃ k nv n f, joinL ((List.range k).map (dpart fun i => F (i + 1))) = (n, f) ∧ Sound (N - 1) (fun i => L (i + 1)) (fun i => F (i + 1)) k ∧ n ≤ 660 ∧ (∀ j, j < n → f j < 256) ∧ Vols n f nv ∧ K = stK n f nv ∧ S = stS n f nv ∧
    ∀ i, i < 8 → OwnZ W base (V i) (stM n f nv i) (stZ b n f i)

theorem join_len (F : Nat → Nat → Nat) (k : Nat) : (joinL ((List.range k).map (dpart F))).1 ≤ 54 * k := by
  induction k with
  | zero => exact Nat.le_refl _
  | succ k ih =>
    rw [List.range_succ, List.map_append, List.map_cons, List.map_nil, joinL_snoc]
    show _ + dlen (F k) ≤ _
    have : dlen (F k) ≤ 54 := by unfold dlen; omega
    omega

theorem stM_most {n nv : Nat} {f : Nat → Nat} (hn : n ≤ 660) (i : Nat) : stM n f nv i ≤ 1000 := by
  unfold stM
  have h : vstep n f (vpos n f i) ≤ n - vpos n f i := by unfold vstep; exact Nat.min_le_right _ _
  split
  · unfold halves; split <;> omega
  · omega
theorem st_bytes {n nv : Nat} {f : Nat → Nat} (hv : Vols n f nv) (hf : ∀ j, j < n → f j < 256) (i : Nat) : stK n f nv i < 256 ∧ stS n f nv i < 256 := by
  unfold stK stS
  split
  · rename_i h
    have := hv.2.1 i h
    exact ⟨hf _ (by omega), hf _ (by omega)⟩
  · omega

theorem ReadPS.stays {base N b : Nat} {L : Nat → Nat} {F : Nat → Nat → Nat} {K S : Nat → Nat} {V : Nat → Value} {W W' : World} (h : ReadPS base N L F b K S V W) (hk : ∀ g o, base ≤ g → W.heap[g]? = some o → (∀ x, o ≠ .deferred x) → W'.heap[g]? = some o) : ReadPS base N L F b K S V W' := by
  obtain ⟨k, nv, n, f, e, h1, h2, h3, h4, h5, h6, h7⟩ := h
  refine ⟨k, nv, n, f, e, h1, h2, h3, h4, h5, h6, fun i hi => ownZ_cells (h7 i hi) fun g cs fr hg hc => ?_⟩
  rw [hk g _ ((h7 i hi).lt hg).1 hc (fun x e => nomatch e), hc]

theorem ReadPS.one {base N b : Nat} {L : Nat → Nat} {F : Nat → Nat → Nat} {K S : Nat → Nat} {V : Nat → Value} {W : World} (h : ReadPS base N L F b K S V W) : ∀ i, i < 8 → (V i).oneCell' = true := by
  obtain ⟨k, nv, n, f, e, h1, h2, h3, h4, h5, h6, h7⟩ := h
  exact fun i hi => (h7 i hi).one

theorem read_state (v : Value) (N : Nat) (L : Nat → Nat) (F : Nat → Nat → Nat) (w : World) (hv : ReadsP w v (N + 1) L F) (hh : Header (L 0) (F 0)) (hc : F 0 10 = N) {base : Nat} (hb : base ≤ w.heap.size + 2) (hb0 : w.heap.size < base) :
    Calls Tryz.prog 57 #[v] w fun e w' => ∃ K S V, e = .returned (.tuple #[.agg (scells K S V).toArray, .agg #[.int .i64 (F 0 8 : Int), .int .i64 (F 0 9 : Int)], .int .i64 (seqIn (F 0) : Int)]) ∧ ReadPS base (N + 1) L F (F 0 9) K S V w' ∧ Below w.heap.size w w' := by
  have p0 : ∀ i, i < N + 1 → L i = 64 → ∀ j, j < 64 → F i j < 256 := fun i hi hl j hj => by
    obtain ⟨A, c, e, _, _, _, q⟩ := hv
    obtain ⟨_, _, _, _, _, _, _, _, _, _, q5⟩ := q i hi
    exact q5.small j (by omega)
  have N11 : N ≤ 11 := by rw [← hc]; exact hh.2.2.2
  refine read_any v N L F w hv hh hc (ReadPS base (N + 1) L F (F 0 9)) (fun k hk W u hW hs hu => ?_) (fun K S V W W' h _ _ hk => h.stays fun g o hg ho hd => hk g o (by omega) ho hd)
  have hsm : ∀ j, j < (joinL ((List.range k).map (dpart fun i => F (i + 1)))).1 → (joinL ((List.range k).map (dpart fun i => F (i + 1)))).2 j < 256 := joinL_small _ fun x hx j hj => by
    obtain ⟨i, hi, rfl⟩ := List.mem_map.1 hx
    have hik : i < k := by simpa using hi
    have hlt : j < dlen (F (i + 1)) := hj
    exact p0 (i + 1) (by have := hk.1; omega) (hk.2.1 i hik).1 (6 + j) (by unfold dlen at hlt; omega)
  have hlen := join_len (fun i => F (i + 1)) k
  refine (stateOf_any u _ (F 0 9) _ W hu (p0 0 (by omega) hh.1.1 9 (by omega))).mono ?_
  rintro e w' ⟨nv, V, hvol, rfl, hz, hbw⟩
  exact ⟨_, _, V, rfl, ⟨k, nv, (joinL ((List.range k).map (dpart fun i => F (i + 1)))).1, (joinL ((List.range k).map (dpart fun i => F (i + 1)))).2, rfl, hk, by have := hk.1; omega, hsm, hvol, rfl, rfl, fun i hi => (hz i hi).base (by omega)⟩, fun i hi => (hz i hi).one, hbw⟩

theorem ReadPS.fit {base N b s : Nat} {L : Nat → Nat} {F : Nat → Nat → Nat} {K S : Nat → Nat} {V : Nat → Value} {W : World} (h : ReadPS base N L F b K S V W) : ∃ M Z,
    (∀ W', Below W.heap.size W W' → Calls Tryz.prog 45 #[.agg (scells K S V).toArray, .agg #[.int .i64 (s : Int), .int .i64 (b : Int)]] W' fun e w' => (∃ x, e = .returned (.int .i64 x) ∧ (x = 0 ↔ FitA s b K S M Z)) ∧ Below W'.heap.size W' w') ∧
    (FitA s b K S M Z → ∀ W', Below W.heap.size W W' → Calls Tryz.prog 46 #[.agg (scells K S V).toArray, .int .i64 (b : Int)] W' fun e w' => ∃ v, e = .returned v ∧ Reads w' v (tx b K S M Z 8).1 (tx b K S M Z 8).2 ∧ Below W'.heap.size W' w') ∧
    (∀ s' seq K' S' M' Z', Laid N L F s' b seq K' S' M' Z' → Alike K S M K' S' M' Z Z') ∧ (∀ i, i < 8 → OwnZ W base (V i) (M i) (Z i)) ∧ ∀ j, j < (tx b K S M Z 8).1 → (tx b K S M Z 8).2 j < 256 := by
  obtain ⟨k, nv, n, f, e, h1, h2, h3, h4, rfl, rfl, h7⟩ := h
  refine ⟨stM n f nv, stZ b n f, fun W' hW => ?_, fun hf W' hW => ?_, fun s' seq K' S' M' Z' hl => ?_, h7, tx_small (fun i hi => st_bytes h4 h3 i) (Nat.le_refl 8)⟩
  · exact fit_any s b _ _ _ V _ W' (fun i hi => (h7 i hi).reads.below hW) (fun i j => plOf_good _ _) fun i hi => stM_most h2 i
  · have ka := kept_alike (stK n f nv) (stS n f nv) (stM n f nv) (stZ b n f)
    have tc := tx_congr (b := b) (Nat.le_refl 8) ka
    have g := hf.1
    refine (text_any _ _ _ V (kept (stM n f nv) (stZ b n f)) b W' (by have := g.2.1; omega) (by have := g.2.2; omega) (fun i hi => ((h7 i hi).reads.below hW).congr (ka i hi).2.2.2) (kept_narrow hf) (fun i hi => stM_most h2 i) (fun i hi => st_bytes h4 h3 i)).mono ?_
    rintro e' w' ⟨v, rfl, hr, hb⟩
    exact ⟨v, rfl, (tc.1 ▸ hr).congr fun t ht => (tc.2 t ht).symm, hb⟩
  · obtain ⟨_, _, _, _, _, _, q2, q3, q4, _, j1, j2⟩ := hl.holds
    have hk : k = N - 1 := by
      by_cases c : k < N - 1
      · exact absurd (q4 (k + 1) (by omega)) (h1.2.2 c)
      · have := h1.1; omega
    subst hk
    rw [e] at j1 j2
    exact hl.state j1 (fun j hj => j2 j (by rw [← j1]; exact hj)) h4

def DecA (N : Nat) (L : Nat → Nat) (F : Nat → Nat → Nat) (w : World) (e : Ending) (w' : World) : Prop :=
  ((∃ s b seq K S M Z V, Laid N L F s b seq K S M Z ∧ e = .returned (.tuple #[.agg (scells K S V).toArray, .agg #[.int .i64 (s : Int), .int .i64 (b : Int)], .int .i64 (seq : Int), .int .i64 0]) ∧ ∀ i, i < 8 → OwnZ w' w.heap.size (V i) (M i) (Z i)) ∨
    ((∀ s b seq K S M Z, ¬ Laid N L F s b seq K S M Z) ∧ e = .returned (.tuple #[.agg (scells z0 z0 zV).toArray, .agg #[.int .i64 0, .int .i64 0], .int .i64 0, .int .i64 11]))) ∧ Below w.heap.size w w'

theorem decode_any (v : Value) (N : Nat) (L : Nat → Nat) (F : Nat → Nat → Nat) (w : World) (hv : ReadsP w v N L F) :
    Calls Tryz.prog 35 #[v] w (DecA N L F w) := by
  by_cases hbad : N = 0 ∨ ¬ Header (L 0) (F 0) ∨ F 0 10 + 1 ≠ N
  · refine (decode_bad v N L F 0 0 0 w hv (fun K S V _ => K = z0 ∧ S = z0 ∧ V = zV) (fun K S V W W' h _ => h) (fun K S V W h i _ => by rw [h.2.2]; rfl) (fun W hs hW => ?_) (fun K S V W h => ?_)).mono ?_
    · refine (read_bad v N L F W (hv.below hW) hbad).mono ?_
      rintro e w' ⟨rfl, hb⟩
      exact ⟨z0, z0, zV, rfl, ⟨rfl, rfl, rfl⟩, hb⟩
    · refine (encode_arg K S V 0 0 0 W (by omega)).mono ?_
      rintro e w' ⟨rfl, hb⟩
      exact ⟨.inl ⟨1, rfl, by omega⟩, hb⟩
    · rintro e w' ⟨rfl, hb⟩
      refine ⟨.inr ⟨fun s b seq K S M Z hl => ?_, rfl⟩, hb⟩
      obtain ⟨q1, q2, _, _, _, _, q3, _⟩ := hl.holds
      rcases hbad with h | h | h
      · omega
      · exact h q1
      · exact h q2
  · obtain ⟨M, rfl⟩ : ∃ M, N = M + 1 := ⟨N - 1, by omega⟩
    have hh : Header (L 0) (F 0) := Classical.byContradiction fun h => hbad (.inr (.inl h))
    have hc : F 0 10 = M := Classical.byContradiction fun h => hbad (.inr (.inr (by omega)))
    have p0 : ∀ j, j < 64 → F 0 j < 256 := fun j hj => by
      obtain ⟨A, c, e, _, _, _, q⟩ := hv
      obtain ⟨_, _, _, _, _, _, _, _, _, _, q5⟩ := q 0 (by omega)
      exact q5.small j (by have := hh.1.1; omega)
    have q1 := hh.2.2.1.1
    have q2 := hh.2.2.1.2
    have hread : ∀ W, W.heap.size = w.heap.size + 2 → Below w.heap.size w W → Calls Tryz.prog 57 #[v] W fun e w' => ∃ K S V, e = .returned (.tuple #[.agg (scells K S V).toArray, .agg #[.int .i64 (F 0 8 : Int), .int .i64 (F 0 9 : Int)], .int .i64 (seqIn (F 0) : Int)]) ∧ ReadPS (w.heap.size + 3) (M + 1) L F (F 0 9) K S V w' ∧ Below W.heap.size W w' :=
      fun W hs hW => read_state v M L F W (hv.below hW) hh hc (by omega) (by omega)
    have hps : ∀ K S V W W', ReadPS (w.heap.size + 3) (M + 1) L F (F 0 9) K S V W → StaysFrom (w.heap.size + 2) W W' → ReadPS (w.heap.size + 3) (M + 1) L F (F 0 9) K S V W' := fun K S V W W' h hs => h.stays fun g o hg ho hd => hs.2 g o (by omega) ho hd
    by_cases hl : ∃ s b seq K S M' Z, Laid (M + 1) L F s b seq K S M' Z
    · obtain ⟨s, b, seq, K0, S0, M0, Z0, hl⟩ := hl
      obtain ⟨_, _, rfl, rfl, rfl, _⟩ := hl.holds
      have t1 := tx_fits (c := F 0 9) hl.1 (Nat.le_refl 8)
      have hsm : ∀ i, i < (tx (F 0 9) K0 S0 M0 Z0 8).1 → (tx (F 0 9) K0 S0 M0 Z0 8).2 i < 256 := tx_small (fun i hi => by have := fit_small hl.1 hi; omega) (Nat.le_refl 8)
      refine (decode_good v (M + 1) L F (F 0 8) (F 0 9) (seqIn (F 0)) (tx (F 0 9) K0 S0 M0 Z0 8).1 (tx (F 0 9) K0 S0 M0 Z0 8).2 w (p0 8 (by omega)) (p0 9 (by omega)) q1 q2 (by omega) hsm hv _ hps (fun K S V W h => h.one) hread (fun K S V W h => ?_) (fun K S V W h => ?_) hl.2.2.2).mono ?_
      · obtain ⟨M', Z', hft, _, hal, _⟩ := h.fit (s := F 0 8)
        refine (hft W (Below.refl _ _)).mono ?_
        rintro e w' ⟨⟨x, rfl, hx⟩, hb⟩
        obtain rfl : x = 0 := hx.2 (fitA_congr hl.1 (hal _ _ _ _ _ _ hl).symm)
        exact ⟨rfl, hb⟩
      · obtain ⟨M', Z', _, htx, hal, _⟩ := h.fit (s := F 0 8)
        have al := hal _ _ _ _ _ _ hl
        have tc := tx_congr (b := F 0 9) (Nat.le_refl 8) al
        refine (htx (fitA_congr hl.1 al.symm) W (Below.refl _ _)).mono ?_
        rintro e w' ⟨u, rfl, hr, hb⟩
        exact ⟨u, rfl, (tc.1 ▸ hr).congr fun t ht => tc.2 t (by rw [tc.1]; exact ht), hb⟩
      · rintro e w' ⟨K, S, V, rfl, hp, hb⟩
        obtain ⟨M', Z', _, _, hal, hz, _⟩ := hp.fit (s := F 0 8)
        have al := hal _ _ _ _ _ _ hl
        exact ⟨.inl ⟨_, _, _, K, S, M', Z', V, hl.alike al.symm, rfl, fun i hi => (hz i hi).base (by omega)⟩, hb⟩
    · refine (decode_bad v (M + 1) L F (F 0 8) (F 0 9) (seqIn (F 0)) w hv _ hps (fun K S V W h => h.one) hread (fun K S V W h => ?_)).mono ?_
      · obtain ⟨M', Z', hft, htx, _, _, hsm⟩ := h.fit (s := F 0 8)
        by_cases hf : FitA (F 0 8) (F 0 9) K S M' Z'
        · have t1 := tx_fits (c := F 0 9) hf (Nat.le_refl 8)
          refine (encode_fits K S V (F 0 8) (F 0 9) (seqIn (F 0)) _ _ W (p0 8 (by omega)) (p0 9 (by omega)) q1 q2 (by omega) (fun W' hW => ?_) (htx hf)).mono ?_
          · refine (hft W' hW).mono ?_
            rintro e w' ⟨⟨x, rfl, hx⟩, hb⟩
            obtain rfl : x = 0 := hx.2 hf
            exact ⟨rfl, hb⟩
          · rintro e w' ⟨u, rfl, hp, hb⟩
            exact ⟨.inr ⟨u, _, _, _, rfl, hp.reads (fun i _ j _ => encF_lt hsm i j), fun hs => hl ⟨_, _, _, _, _, _, _, hf, q1, q2, hs⟩⟩, hb⟩
        · refine (encode_unfit K S V (F 0 8) (F 0 9) (seqIn (F 0)) W q1 q2 (fun W' hW => ?_)).mono ?_
          · refine (hft W' hW).mono ?_
            rintro e w' ⟨⟨x, rfl, hx⟩, hb⟩
            exact ⟨x, rfl, fun h0 => hf (hx.1 h0), hb⟩
          · rintro e w' ⟨x, rfl, hx, hb⟩
            exact ⟨.inl ⟨x, rfl, hx⟩, hb⟩
      · rintro e w' ⟨rfl, hb⟩
        exact ⟨.inr ⟨fun s b seq K S M' Z' h => hl ⟨s, b, seq, K, S, M', Z', h⟩, rfl⟩, hb⟩
end Go.Proofs.YtdocclkphffpkaaGreat

namespace Go.Proofs.YtdocclkphffpkaaGreat
open Go.ChangeShapes Go.WideShapes Go.ChangeAt Go.RowKit

/-- A state and a geometry, each laid into a block of its own. -/
structure Two (W w3 w4 w5 : World) (K S : Nat → Nat) (V : Nat → Value) (s b : Int) : Prop where
  e3 : w3 = (W.alloc (.cells (scells z0 z0 zV).toArray 32)).alloc (.cells #[.int .i64 0, .int .i64 0] 34)
  e4 : w4 = w3.setCells W.heap.size 0 (scells K S V)
  e5 : w5 = (w4.setCell ⟨W.heap.size + 1, 0, none⟩ (.int .i64 s)).setCell ⟨W.heap.size + 1, 1, none⟩ (.int .i64 b)
  there : w3.there W.heap.size 0 (scells K S V).toArray.size
  p0 : w4.cell? ⟨W.heap.size + 1, 0, none⟩ = some (.int .i64 0)
  p1 : w4.cell? ⟨W.heap.size + 1, 1, none⟩ = some (.int .i64 0)
  f0 : w4.frozen? ⟨W.heap.size + 1, 0, none⟩ = false
  f1 : w4.frozen? ⟨W.heap.size + 1, 1, none⟩ = false
  p2 : (w4.setCell ⟨W.heap.size + 1, 0, none⟩ (.int .i64 s)).cell? ⟨W.heap.size + 1, 1, none⟩ = some (.int .i64 0)
  f2 : (w4.setCell ⟨W.heap.size + 1, 0, none⟩ (.int .i64 s)).frozen? ⟨W.heap.size + 1, 1, none⟩ = false
  st : StIs w5 W.heap.size K S V
  c0 : w5.cell? ⟨W.heap.size + 1, 0, none⟩ = some (.int .i64 s)
  c1 : w5.cell? ⟨W.heap.size + 1, 1, none⟩ = some (.int .i64 b)
  below : Below W.heap.size W w5

theorem two_any (W : World) (K S : Nat → Nat) (V : Nat → Value) (s b : Int) : ∃ w3 w4 w5, Two W w3 w4 w5 K S V s b := by
  obtain ⟨w3, hw3⟩ : ∃ w3, w3 = (W.alloc (.cells (scells z0 z0 zV).toArray 32)).alloc (.cells #[.int .i64 0, .int .i64 0] 34) := ⟨_, rfl⟩
  have b3 : Below W.heap.size W w3 := by rw [hw3]; exact ((Below.refl _ W).alloc (Nat.le_refl _) _).alloc (by simp) _
  have S3 : StIs w3 W.heap.size z0 z0 zV := by rw [hw3]; exact (st_new W z0 z0 zV).below ((Below.refl _ _).alloc (Nat.le_refl _) _)
  have P3 : RowIs w3 (W.heap.size + 1) 34 (fun _ => .int .i64 0) 2 := by
    rw [hw3]
    have h := row_new (W.alloc (.cells (scells z0 z0 zV).toArray 32)) 34 (fun _ => .int .i64 0) 2 [.int .i64 0, .int .i64 0] rfl (fun i hi => by rcases (by omega : i = 0 ∨ i = 1) with rfl | rfl <;> rfl)
    rw [World.size_alloc] at h
    exact h
  obtain ⟨w4, hw4, st4, a4⟩ := store_state (K' := K) (S' := S) (V' := V) S3
  have P4 : RowIs w4 (W.heap.size + 1) 34 (fun _ => .int .i64 0) 2 := RowIs.apart P3 a4 (by omega)
  have P5 : RowIs (w4.setCell ⟨W.heap.size + 1, 0, none⟩ (.int .i64 s)) (W.heap.size + 1) 34 (fun i => if i = 0 then .int .i64 s else .int .i64 0) 2 := P4.set_ (fun _ => by simp) (fun i _ hi => by simp [hi])
  have P6 : RowIs ((w4.setCell ⟨W.heap.size + 1, 0, none⟩ (.int .i64 s)).setCell ⟨W.heap.size + 1, 1, none⟩ (.int .i64 b)) (W.heap.size + 1) 34 (fun i => if i = 0 then .int .i64 s else .int .i64 b) 2 := P5.set_ (fun _ => by simp) (fun i hi hk => by rw [if_pos (show i = 0 by omega), if_pos (show i = 0 by omega)])
  have a6 : Apart (fun k => k = W.heap.size + 1) w4 ((w4.setCell ⟨W.heap.size + 1, 0, none⟩ (.int .i64 s)).setCell ⟨W.heap.size + 1, 1, none⟩ (.int .i64 b)) :=
    ((Apart.refl (fun k => k = W.heap.size + 1) w4).setCell (p := ⟨W.heap.size + 1, 0, none⟩) (fun _ => rfl) _).setCell (p := ⟨W.heap.size + 1, 1, none⟩) (fun _ => rfl) _
  have b4 : Below W.heap.size W w4 := b3.trans (a4.below b3.size fun i hi e => by omega)
  exact ⟨w3, w4, _, hw3, hw4, rfl, StIs.there_ S3, RowIs.cell P4 (i := 0) (by omega), RowIs.cell P4 (i := 1) (by omega), RowIs.free P4 0, RowIs.free P4 1, RowIs.cell P5 (i := 1) (by omega), RowIs.free P5 1,
    RowIs.apart st4 a6 (by omega), RowIs.cell P6 (i := 0) (by omega), RowIs.cell P6 (i := 1) (by omega), b4.trans (a6.below b4.size fun i hi e => by omega)⟩

/-- An answer as it is seen: the rows of its state, all places or none. -/
structure Seen (W : World) (V : Nat → Value) (M : Nat → Nat) (Z : Nat → Nat → Pl) : Prop where
  row : ∀ i, i < 8 → ReadsZ W (V i) (M i) (Z i)
  good : ∀ i j, Good (Z i j)
theorem Seen.later {W W' : World} {V : Nat → Value} {M : Nat → Nat} {Z : Nat → Nat → Pl} (h : Seen W V M Z) (hb : Below W.heap.size W W') : Seen W' V M Z := ⟨fun i hi => (h.row i hi).below hb, h.good⟩
theorem Seen.one {W : World} {V : Nat → Value} {M : Nat → Nat} {Z : Nat → Nat → Pl} (h : Seen W V M Z) : ∀ i, i < 8 → (V i).oneCell' = true := fun i hi => by
  obtain ⟨_, _, e, _⟩ := h.row i hi
  rw [e]; rfl
theorem seen_zero (W : World) : Seen W zV z0 (fun _ _ => none) := ⟨fun _ _ => readsZ_none W _, fun _ _ => good_none⟩
theorem seen_laid {W : World} {base N : Nat} {L : Nat → Nat} {F : Nat → Nat → Nat} {s b seq : Nat} {K S M : Nat → Nat} {Z : Nat → Nat → Pl} {V : Nat → Value} (hl : Laid N L F s b seq K S M Z) (hz : ∀ i, i < 8 → OwnZ W base (V i) (M i) (Z i)) : Seen W V M (kept M Z) :=
  ⟨fun i hi => (hz i hi).reads.congr (kept_alike K S M Z i hi).2.2.2, fun i j q hq => by
    have h := kept_narrow hl.1 i j q hq
    have g := hl.1.1.2.2
    exact ⟨h.1, by omega⟩⟩

/-- Both answers, and how they are one. -/
theorem answers {N : Nat} {L : Nat → Nat} {F : Nat → Nat → Nat} {w w2 : World} {e : Ending} (h : DecA N L F w e w2) :
    Below w.heap.size w w2 ∧ ∃ (s b q x : Int) (K S M : Nat → Nat) (Z : Nat → Nat → Pl) (V : Nat → Value), e = .returned (.tuple #[.agg (scells K S V).toArray, .agg #[.int .i64 s, .int .i64 b], .int .i64 q, .int .i64 x]) ∧ Seen w2 V M Z ∧
      ((∃ s' b' q' : Nat, s = s' ∧ b = b' ∧ q = q' ∧ x = 0 ∧ Laid N L F s' b' q' K S M Z) ∨ ((∀ s b seq K S M Z, ¬ Laid N L F s b seq K S M Z) ∧ s = 0 ∧ b = 0 ∧ q = 0 ∧ x = 11 ∧ Alike K S M z0 z0 z0 Z (fun _ _ => none))) := by
  obtain ⟨h, hb⟩ := h
  refine ⟨hb, ?_⟩
  rcases h with ⟨s, b, q, K, S, M, Z, V, hl, rfl, hz⟩ | ⟨no, rfl⟩
  · exact ⟨s, b, q, 0, K, S, M, kept M Z, V, rfl, seen_laid hl hz, .inl ⟨s, b, q, rfl, rfl, rfl, rfl, hl.alike (kept_alike K S M Z)⟩⟩
  · exact ⟨0, 0, 0, 11, z0, z0, z0, fun _ _ => none, zV, rfl, seen_zero _, .inr ⟨no, rfl, rfl, rfl, rfl, fun _ _ => ⟨rfl, rfl, rfl, fun _ _ => rfl⟩⟩⟩

end Go.Proofs.YtdocclkphffpkaaGreat

namespace Go.Proofs.YtdocclkphffpkaaGreat
open Go.RowKit

/-- Sector i of an area. -/
def Dev.area (D : Dev) (k : Nat) (i : Nat) : Nat → Nat := D.view (12 * k + i)
/-- Area k holds the pages of this state, geometry and number, and the number belongs there. -/
def Found (D : Dev) (k s b q : Nat) (K S M : Nat → Nat) (Z : Nat → Nat → Pl) : Prop :=
  q % 2 = k ∧ 12 * k + (D.area k 0 10 + 1) ≤ D.size ∧ Laid (D.area k 0 10 + 1) (fun _ => 64) (D.area k) s b q K S M Z

theorem Found.seq {D : Dev} {k s b q : Nat} {K S M : Nat → Nat} {Z : Nat → Nat → Pl} (h : Found D k s b q K S M Z) : 1 ≤ q ∧ q ≤ 1073741824 := ⟨h.2.2.2.1, h.2.2.2.2.1⟩
theorem Found.header {D : Dev} {k s b q : Nat} {K S M : Nat → Nat} {Z : Nat → Nat → Pl} (h : Found D k s b q K S M Z) : Header 64 (D.area k 0) ∧ seqIn (D.area k 0) = q := by
  obtain ⟨h1, _, _, _, h5, _⟩ := h.2.2.holds
  exact ⟨h1, h5⟩
theorem Found.one {D : Dev} {k s b q s' b' q' : Nat} {K S M K' S' M' : Nat → Nat} {Z Z' : Nat → Nat → Pl} (h : Found D k s b q K S M Z) (h' : Found D k s' b' q' K' S' M' Z') :
    s = s' ∧ b = b' ∧ q = q' ∧ Alike K S M K' S' M' Z Z' := h.2.2.one h'.2.2

/-- There is none in area k. -/
def Lacks (D : Dev) (k : Nat) : Prop := ∀ s b q K S M Z, ¬ Found D k s b q K S M Z

/-- What is read of an area, as an answer: what it holds, or that it holds nothing. -/
def AreaA (D : Dev) (k : Nat) (w : World) (e : Ending) (w' : World) : Prop :=
  Below w.heap.size w w' ∧ ∃ (s b q : Nat) (x : Int) (K S M : Nat → Nat) (Z : Nat → Nat → Pl) (V : Nat → Value),
    e = .returned (.tuple #[.agg (scells K S V).toArray, .agg #[.int .i64 (s : Int), .int .i64 (b : Int)], .int .i64 (q : Int), .int .i64 x]) ∧ (∀ i, i < 8 → OwnZ w' w.heap.size (V i) (M i) (Z i)) ∧
    ((x = 0 ∧ Found D k s b q K S M Z) ∨ (x ≠ 0 ∧ Lacks D k))

theorem area_none {D : Dev} {k : Nat} {w w' : World} (x : Int) (hx : x ≠ 0) (hl : Lacks D k) (hb : Below w.heap.size w w') :
    AreaA D k w (.returned (.tuple #[.agg (scells z0 z0 zV).toArray, .agg #[.int .i64 0, .int .i64 0], .int .i64 0, .int .i64 x])) w' :=
  ⟨hb, 0, 0, 0, x, z0, z0, z0, fun _ _ => none, zV, rfl, fun _ _ => ownZ_none _ _ _, .inr ⟨hx, hl⟩⟩

/-- The same, its rows of places in blocks from base on. -/
def AreaB (D : Dev) (k base : Nat) (w : World) (e : Ending) (w' : World) : Prop :=
  Below w.heap.size w w' ∧ ∃ (s b q : Nat) (x : Int) (K S M : Nat → Nat) (Z : Nat → Nat → Pl) (V : Nat → Value),
    e = .returned (.tuple #[.agg (scells K S V).toArray, .agg #[.int .i64 (s : Int), .int .i64 (b : Int)], .int .i64 (q : Int), .int .i64 x]) ∧ (∀ i, i < 8 → OwnZ w' base (V i) (M i) (Z i)) ∧
    ((x = 0 ∧ Found D k s b q K S M Z) ∨ (x ≠ 0 ∧ Lacks D k))
/-- What Decode answers of the pages that the header of an area says. -/
theorem area_decoded {D : Dev} {k : Nat} {w w1 w' : World} {e : Ending} (hb : Below w.heap.size w w1) (hk : 12 * k + (D.area k 0 10 + 1) ≤ D.size) (hq : seqIn (D.area k 0) % 2 = k)
    (h : DecA (D.area k 0 10 + 1) (fun _ => 64) (D.area k) w1 e w') : AreaB D k w1.heap.size w e w' := by
  obtain ⟨h, hb2⟩ := h
  have hB := hb.trans (hb2.mono hb.size)
  rcases h with ⟨s, b, q, K, S, M, Z, V, hl, rfl, hz⟩ | ⟨no, rfl⟩
  · have h5 := hl.holds.2.2.2.2.1
    exact ⟨hB, s, b, q, 0, K, S, M, Z, V, rfl, hz, .inl ⟨rfl, by rw [← h5]; exact hq, hk, hl⟩⟩
  · exact ⟨hB, 0, 0, 0, 11, z0, z0, z0, fun _ _ => none, zV, rfl, fun _ _ => ownZ_none _ _ _, .inr ⟨by omega, fun s b q K S M Z h => no _ _ _ _ _ _ _ h.2.2⟩⟩

/-- Of the first n areas this is the newest; without any, nothing. -/
def Best (D : Dev) (n s b q : Nat) (K S M : Nat → Nat) (Z : Nat → Nat → Pl) : Prop :=
  (q = 0 ∧ s = 0 ∧ b = 0 ∧ K = z0 ∧ S = z0 ∧ M = z0 ∧ ∀ k, k < n → Lacks D k) ∨
    ((∃ k, k < n ∧ Found D k s b q K S M Z) ∧ ∀ k, k < n → ∀ s' b' q' K' S' M' Z', Found D k s' b' q' K' S' M' Z' → q' ≤ q)

theorem best_none (D : Dev) (Z : Nat → Nat → Pl) : Best D 0 0 0 0 z0 z0 z0 Z := .inl ⟨rfl, rfl, rfl, rfl, rfl, rfl, fun k hk => absurd hk (Nat.not_lt_zero k)⟩
theorem Best.keep {D : Dev} {n s b q : Nat} {K S M : Nat → Nat} {Z : Nat → Nat → Pl} (h : Best D n s b q K S M Z) (hn : ∀ s' b' q' K' S' M' Z', Found D n s' b' q' K' S' M' Z' → q' ≤ q) : Best D (n + 1) s b q K S M Z := by
  rcases h with ⟨rfl, h2, h3, h4, h5, h6, h7⟩ | ⟨⟨k, hk, hf⟩, h2⟩
  · refine .inl ⟨rfl, h2, h3, h4, h5, h6, fun k hk s' b' q' K' S' M' Z' hf => ?_⟩
    rcases Nat.lt_or_ge k n with c | c
    · exact h7 k c _ _ _ _ _ _ _ hf
    · obtain rfl : k = n := by omega
      have h8 := hn _ _ _ _ _ _ _ hf
      have h9 := hf.seq
      omega
  · refine .inr ⟨⟨k, by omega, hf⟩, fun k' hk' s' b' q' K' S' M' Z' hf' => ?_⟩
    rcases Nat.lt_or_ge k' n with c | c
    · exact h2 k' c _ _ _ _ _ _ _ hf'
    · obtain rfl : k' = n := by omega
      exact hn _ _ _ _ _ _ _ hf'
theorem Best.lacks {D : Dev} {n s b q : Nat} {K S M : Nat → Nat} {Z : Nat → Nat → Pl} (h : Best D n s b q K S M Z) (hn : Lacks D n) : Best D (n + 1) s b q K S M Z :=
  h.keep fun _ _ _ _ _ _ _ hf => absurd hf (hn _ _ _ _ _ _ _)
theorem Best.stays {D : Dev} {n s b q s1 b1 q1 : Nat} {K S M K1 S1 M1 : Nat → Nat} {Z Z1 : Nat → Nat → Pl} (h : Best D n s b q K S M Z) (hf : Found D n s1 b1 q1 K1 S1 M1 Z1) (hq : q1 ≤ q) : Best D (n + 1) s b q K S M Z :=
  h.keep fun s' b' q' K' S' M' Z' hf' => by
    obtain ⟨_, _, e, _⟩ := hf.one hf'
    omega
theorem Best.turn {D : Dev} {n s b q s1 b1 q1 : Nat} {K S M K1 S1 M1 : Nat → Nat} {Z Z1 : Nat → Nat → Pl} (h : Best D n s b q K S M Z) (hf : Found D n s1 b1 q1 K1 S1 M1 Z1) (hq : q < q1) : Best D (n + 1) s1 b1 q1 K1 S1 M1 Z1 := by
  refine .inr ⟨⟨n, by omega, hf⟩, fun k hk s' b' q' K' S' M' Z' hf' => ?_⟩
  rcases Nat.lt_or_ge k n with c | c
  · rcases h with ⟨_, _, _, _, _, _, h7⟩ | ⟨_, h2⟩
    · exact absurd hf' (h7 k c _ _ _ _ _ _ _)
    · have := h2 k c _ _ _ _ _ _ _ hf'
      omega
  · obtain rfl : k = n := by omega
    obtain ⟨_, _, e, _⟩ := hf.one hf'
    omega
/-- There is one newest at most. -/
theorem Best.one {D : Dev} {n s b q s' b' q' : Nat} {K S M K' S' M' : Nat → Nat} {Z Z' : Nat → Nat → Pl} (h : Best D n s b q K S M Z) (h' : Best D n s' b' q' K' S' M' Z') :
    s = s' ∧ b = b' ∧ q = q' ∧ Alike K S M K' S' M' Z Z' := by
  rcases h with ⟨rfl, rfl, rfl, rfl, rfl, rfl, h7⟩ | ⟨⟨k, hk, hf⟩, h2⟩
  · rcases h' with ⟨rfl, rfl, rfl, rfl, rfl, rfl, _⟩ | ⟨⟨k', hk', hf'⟩, _⟩
    · exact ⟨rfl, rfl, rfl, fun i _ => ⟨rfl, rfl, rfl, fun j hj => absurd hj (Nat.not_lt_zero j)⟩⟩
    · exact absurd hf' (h7 k' hk' _ _ _ _ _ _ _)
  · rcases h' with ⟨rfl, rfl, rfl, rfl, rfl, rfl, g7⟩ | ⟨⟨k', hk', hf'⟩, g2⟩
    · exact absurd hf (g7 k hk _ _ _ _ _ _ _)
    · have e1 := h2 k' hk' _ _ _ _ _ _ _ hf'
      have e2 := g2 k hk _ _ _ _ _ _ _ hf
      obtain rfl : k = k' := by
        rw [← hf.1, ← hf'.1]
        congr 1
        omega
      exact hf.one hf'
theorem Best.fits {D : Dev} {n s b q : Nat} {K S M : Nat → Nat} {Z : Nat → Nat → Pl} (h : Best D n s b q K S M Z) (hq : q ≠ 0) : FitA s b K S M Z := by
  rcases h with ⟨h0, _⟩ | ⟨⟨k, _, hf⟩, _⟩
  · exact absurd h0 hq
  · exact hf.2.2.1
/-- Its places are places or none, where they are read. -/
theorem Best.good {D : Dev} {n s b q : Nat} {K S M : Nat → Nat} {Z : Nat → Nat → Pl} (h : Best D n s b q K S M Z) (i j : Nat) : Good (kept M Z i j) := by
  rcases h with ⟨_, _, _, _, _, rfl, _⟩ | ⟨⟨k, _, hf⟩, _⟩
  · have e : kept z0 Z i j = none := by unfold kept; rw [if_neg (fun c => absurd c.2 (Nat.not_lt_zero j))]
    rw [e]
    exact good_none
  · intro q hq
    have h := kept_narrow hf.2.2.1 i j q hq
    have g := hf.2.2.1.1.2.2
    exact ⟨h.1, by omega⟩
theorem Best.seen {D : Dev} {n s b q : Nat} {K S M : Nat → Nat} {Z : Nat → Nat → Pl} (h : Best D n s b q K S M Z) {W : World} {base : Nat} {V : Nat → Value} (hz : ∀ i, i < 8 → OwnZ W base (V i) (M i) (Z i)) : Seen W V M (kept M Z) :=
  ⟨fun i hi => (hz i hi).reads.congr (kept_alike K S M Z i hi).2.2.2, h.good⟩

/-- What Load answers. -/
def LoadA (D : Dev) (w : World) (e : Ending) (w' : World) : Prop :=
  Below w.heap.size w w' ∧ ∃ (s b q : Nat) (x : Int) (K S M : Nat → Nat) (Z : Nat → Nat → Pl) (V : Nat → Value),
    e = .returned (.tuple #[.agg (scells K S V).toArray, .agg #[.int .i64 (s : Int), .int .i64 (b : Int)], .int .i64 (q : Int), .int .i64 x]) ∧ (∀ i, i < 8 → OwnZ w' w.heap.size (V i) (M i) (Z i)) ∧
    Best D 2 s b q K S M Z ∧ ((q = 0 ∧ x = 11) ∨ (q ≠ 0 ∧ x = 0))
end Go.Proofs.YtdocclkphffpkaaGreat

namespace Go.Proofs.YtdocclkphffpkaaGreat
open Go.RowKit

/-- At a call that makes memory, in a later world. -/
theorem later_fresh_at {P : Program} {f : FuncId} {args : Array Value} {w : World} {v : Value} {n : Later w} (h : ∀ W, Below w.heap.size w W → Calls P f args W (Fresh v W)) :
    Calls P f args n.val fun e w'' => e = .returned v ∧ ∃ m : Later w, w'' = m.val :=
  (h n.val n.ext).mono fun _ w' ⟨he, hb⟩ => ⟨he, ⟨w', n.ext.trans (hb.mono n.ext.size)⟩, rfl⟩

set_option maxRecDepth 20000 in
theorem refSame_rows (v u : Value) (n : Nat) (Z Z' : Nat → Pl) (w : World) (hv : ReadsZ w v n Z) (hu : ReadsZ w u n Z') (hg : ∀ j, Good (Z j)) (he : ∀ j, j < n → Z j = Z' j) :
    Calls Tryz.prog 22 #[v, u] w (Fresh (.bool true) w) := by
  obtain ⟨A, c, rfl, v1, v2, v3, -⟩ := id hv
  obtain ⟨B, d, rfl, u1, u2, u3, -⟩ := id hu
  have HV := Lib.hid hv
  have HU := Lib.hid hu
  have HE := Lib.hid he
  clear hv hu he
  have hnn : ((n : Int) != (n : Int)) = false := by simp
  go_enter Tryz.func22, Tryz.ntmps22
  go_wp2_with fail
  clear hnn
  go_loopw [5] (fun x wr => (∃ i : Nat, i ≤ n ∧ x = .int .i64 (i : Int)) ∧ ∃ k, w.drewN k = wr) (fun x _ => n - (intOf x).toNat)
  case atStart => exact ⟨⟨0, by omega, rfl⟩, 0, rfl⟩
  case round =>
    obtain ⟨⟨i, hi, rfl⟩, k, hk⟩ := hrel
    have HK := Lib.hid hk
    by_cases hlt : i < n
    · obtain ⟨ad, rfl⟩ := HV.out.addr (by omega)
      obtain ⟨bd, rfl⟩ := HU.out.addr (by omega)
      have hB : Below w.heap.size w wr := by rw [← hk]; exact below_drewN (Below.refl _ _) k
      have hc := (HV.out.below hB).at_ hlt
      have hd := (HU.out.below hB).at_ hlt
      rw [← HE.out i hlt] at hd
      obtain ⟨o1, o2⟩ := (z_order (hg i) (hg i)).1 rfl
      obtain ⟨X, eX⟩ : ∃ X, X = zre (Z i) := ⟨_, rfl⟩
      obtain ⟨Y, eY⟩ : ∃ Y, Y = zim (Z i) := ⟨_, rfl⟩
      have ez : zval (Z i) = .complex .f64 X Y := by rw [eX, eY]; rfl
      rw [← eX] at o1
      rw [← eY] at o2
      rw [ez] at hc hd
      clear eX eY ez hk hB
      go_wp2
      go_quiet (fail)
      clear hc hd o1 o2
      go_wp2
      go_roundw
      case rel => exact ⟨⟨i + 1, by omega, by go_num⟩, k + nq, by rw [← HK.out, World.drewN_drewN]⟩
      case measure => simp [intOf]; omega
    · obtain rfl : i = n := by omega
      clear hk
      go_wp2
      go_ret
      exact ⟨rfl, by rw [← HK.out]; exact below_drewN (Below.refl _ _) k⟩

set_option maxRecDepth 20000 in
theorem refSame_states (K S M K' S' M' : Nat → Nat) (V V' : Nat → Value) (Z Z' : Nat → Nat → Pl) (w : World) (hv : ∀ i, i < 8 → ReadsZ w (V i) (M i) (Z i)) (hu : ∀ i, i < 8 → ReadsZ w (V' i) (M' i) (Z' i)) (hg : ∀ i j, Good (Z i j)) (ha : Alike K S M K' S' M' Z Z') :
    Calls Tryz.prog 9 #[.agg (scells K S V).toArray, .agg (scells K' S' V').toArray] w (Fresh (.bool true) w) := by
  obtain ⟨w1, hw1⟩ : ∃ w1, w1 = (w.alloc (.cells (scells K S V).toArray 32)).alloc (.cells (scells K' S' V').toArray 32) := ⟨_, rfl⟩
  have B1 : Hid (Below w.heap.size w w1) := Lib.hid (by rw [hw1]; exact ((Below.refl _ w).alloc (Nat.le_refl _) _).alloc (by simp) _)
  have S1 : Hid (StIs w1 w.heap.size K S V) := Lib.hid (by rw [hw1]; exact (st_new w K S V).below ((Below.refl _ _).alloc (Nat.le_refl _) _))
  have T1 : Hid (StIs w1 (w.heap.size + 1) K' S' V') := Lib.hid (by
    rw [hw1]
    have h := st_new (w.alloc (.cells (scells K S V).toArray 32)) K' S' V'
    rw [World.size_alloc] at h
    exact h)
  have HV := Lib.hid hv
  have HU := Lib.hid hu
  have HA := Lib.hid ha
  clear hv hu ha
  go_enter Tryz.func9, Tryz.ntmps9
  go_wp2_with fail
  rw [← hw1]
  clear hw1
  go_loopw [5] (fun v wr => ∃ i : Nat, i ≤ 8 ∧ v = .int .i64 (i : Int) ∧ StIs wr w.heap.size K S V ∧ StIs wr (w.heap.size + 1) K' S' V' ∧ Below w.heap.size w wr) (fun v _ => 8 - (intOf v).toNat)
  case atStart => exact ⟨0, by omega, rfl, S1.out, T1.out, B1.out⟩
  case round =>
    clear B1 S1 T1
    obtain ⟨i, hi, rfl, hs, ht, hb⟩ := hrel
    have HS := Lib.hid hs
    have HT := Lib.hid ht
    have HB := Lib.hid hb
    clear hs ht hb
    by_cases h8 : i < 8
    · obtain ⟨e1, e2, e3, e4⟩ := HA.out i h8
      obtain ⟨x, ex⟩ : ∃ x, x = K i := ⟨_, rfl⟩
      obtain ⟨y, ey⟩ : ∃ y, y = S i := ⟨_, rfl⟩
      obtain ⟨A, ca, ev, -⟩ := HV.out i h8
      obtain ⟨C, cc, eu, -⟩ := HU.out i h8
      have SM := Lib.hid (refSame_rows (V i) (V' i) (M i) (Z i) (Z' i))
      have ZV := Lib.hid (HV.out i h8)
      have ZU := Lib.hid (HU.out i h8)
      have GI := Lib.hid (hg i)
      have E4 := Lib.hid e4
      rw [← e3] at ZU eu
      obtain ⟨m, em⟩ : ∃ m, m = M i := ⟨_, rfl⟩
      rw [← em] at ev eu ZV ZU SM E4
      rw [ev] at ZV SM
      rw [eu] at ZU SM
      have a0 : ∀ z : Later wr, z.val.cell? ⟨w.heap.size, i * 2, none⟩ = some (.int .i64 (x : Int)) := fun z => by rw [ex]; exact StIs.kind (HS.out.below z.ext) h8
      have a1 : ∀ z : Later wr, z.val.cell? ⟨w.heap.size, i * 2 + 1, none⟩ = some (.int .i64 (y : Int)) := fun z => by rw [ey]; exact StIs.size (HS.out.below z.ext) h8
      have a2 : ∀ z : Later wr, z.val.cell? ⟨w.heap.size, 16 + i, none⟩ = some (.slice A m ca) := fun z => by rw [← ev]; exact StIs.row (HS.out.below z.ext) h8
      have b0 : ∀ z : Later wr, z.val.cell? ⟨w.heap.size + 1, i * 2, none⟩ = some (.int .i64 (x : Int)) := fun z => by rw [ex, e1]; exact StIs.kind (HT.out.below z.ext) h8
      have b1 : ∀ z : Later wr, z.val.cell? ⟨w.heap.size + 1, i * 2 + 1, none⟩ = some (.int .i64 (y : Int)) := fun z => by rw [ey, e2]; exact StIs.size (HT.out.below z.ext) h8
      have b2 : ∀ z : Later wr, z.val.cell? ⟨w.heap.size + 1, 16 + i, none⟩ = some (.slice C m cc) := fun z => by rw [← eu]; exact StIs.row (HT.out.below z.ext) h8
      clear e1 e2 e3 e4 ex ey ev eu em
      have qx : ((x : Int) != (x : Int)) = false := by simp
      have qy : ((y : Int) != (y : Int)) = false := by simp
      go_wp2
      refine region_later (by kernel_rfl) (by kernel_rfl) ?_
      repeat (go_big_quiet_step (first
        | (go_at_call 22; exact later_fresh_at (fun W hW => SM.out W (ZV.out.below (HB.out.trans (hW.mono HB.out.size))) (ZU.out.below (HB.out.trans (hW.mono HB.out.size))) GI.out E4.out))))
      refine wpQuiet_nil ?_
      rintro w9 ⟨⟨w3, hb3⟩, hw9⟩
      obtain rfl : w9 = w3 := hw9
      have S3 := Lib.hid (HS.out.below hb3)
      have T3 := Lib.hid (HT.out.below hb3)
      have B3 := Lib.hid (HB.out.trans (hb3.mono HB.out.size))
      clear a0 a1 a2 b0 b1 b2 hb3
      go_wp2
      go_roundw
      case rel => exact ⟨i + 1, by omega, by go_num, S3.out, T3.out, B3.out⟩
      case measure => simp [intOf]; omega
    · obtain rfl : i = 8 := by omega
      go_wp2
      go_ret
      exact ⟨rfl, HB.out⟩
end Go.Proofs.YtdocclkphffpkaaGreat

namespace Go.Proofs.YtdocclkphffpkaaGreat
open Go.RowKit

set_option maxRecDepth 100000 in
set_option maxHeartbeats 2000000 in
theorem refSound_any (K S M : Nat → Nat) (V : Nat → Value) (Z : Nat → Nat → Pl) (w : World) (hr : ∀ i, i < 8 → ReadsZ w (V i) (M i) (Z i)) (hg : ∀ i j, Good (Z i j)) :
    Calls Tryz.prog 13 #[.agg (scells K S V).toArray] w fun e w' => (∃ x, e = .returned (.bool x) ∧ (x = true ↔ SoundA K S M)) ∧ Below w.heap.size w w' := by
  have ZB := Lib.hid (st_new w K S V)
  have B0 : Hid (Below w.heap.size w (w.alloc (.cells (scells K S V).toArray 32))) := Lib.hid ((Below.refl _ w).alloc (Nat.le_refl _) _)
  have HR := Lib.hid hr
  have HG := Lib.hid hg
  clear hr hg
  go_enter Tryz.func13, Tryz.ntmps13
  go_wp2_with fail
  go_loopw [3] (fun v wr => ∃ i : Nat, i ≤ 8 ∧ v = .int .i64 (i : Int) ∧ StIs wr w.heap.size K S V ∧ Below w.heap.size w wr ∧ ∀ j, j < i → EntryA (K j) (S j) ∧ M j = S j) (fun v _ => 8 - (intOf v).toNat)
  case atStart => exact ⟨0, by omega, rfl, ZB.out, B0.out, fun j hj => absurd hj (by omega)⟩
  case round =>
    clear ZB B0
    obtain ⟨i, hi, rfl, hs, hb, hp⟩ := hrel
    have HS := Lib.hid hs
    have HB := Lib.hid hb
    have HP := Lib.hid hp
    clear hs hb hp
    by_cases h8 : i < 8
    · obtain ⟨A, c, ev, q1, q2, q3, -⟩ := HR.out i h8
      have HRI := Lib.hid (HR.out i h8)
      obtain ⟨x, ex⟩ : ∃ x, x = K i := ⟨_, rfl⟩
      obtain ⟨y, ey⟩ : ∃ y, y = S i := ⟨_, rfl⟩
      obtain ⟨m, em⟩ : ∃ m, m = M i := ⟨_, rfl⟩
      rw [← em] at ev HRI
      rw [ev] at HRI
      have x0 := HS.out.kind h8
      have x1 := HS.out.size h8
      rw [← ex] at x0
      rw [← ey] at x1
      obtain ⟨w2, hw2⟩ : ∃ w2, w2 = wr.alloc (.cells #[.int .i64 (x : Int), .int .i64 (y : Int)] 27) := ⟨_, rfl⟩
      have hc0 : w2.cell? ⟨wr.heap.size, 0, none⟩ = some (.int .i64 (x : Int)) := by rw [hw2, World.cell?_alloc_mark]; rfl
      have hc1 : w2.cell? ⟨wr.heap.size, 1, none⟩ = some (.int .i64 (y : Int)) := by rw [hw2, World.cell?_alloc_mark]; rfl
      have hb2 : Below wr.heap.size wr w2 := by rw [hw2]; exact (Below.refl _ _).alloc (Nat.le_refl _) _
      have hr : w2.cell? ⟨w.heap.size, 16 + i, none⟩ = some (.slice A m c) := by rw [← ev]; exact StIs.row (HS.out.below hb2) h8
      have l0 : ∀ z : Later w2, z.val.cell? ⟨wr.heap.size, 0, none⟩ = some (.int .i64 (x : Int)) := fun z => cell_later z.ext hc0
      have l1 : ∀ z : Later w2, z.val.cell? ⟨wr.heap.size, 1, none⟩ = some (.int .i64 (y : Int)) := fun z => cell_later z.ext hc1
      have lr : ∀ z : Later w2, z.val.cell? ⟨w.heap.size, 16 + i, none⟩ = some (.slice A m c) := fun z => cell_later z.ext hr
      have B2 := Lib.hid (HB.out.trans (hb2.mono HB.out.size))
      have S2 := Lib.hid (HS.out.below hb2)
      have EX := Lib.hid ex
      have EY := Lib.hid ey
      have EM := Lib.hid em
      have EV := Lib.hid ev
      clear hc0 hc1 hb2 hr ex ey em ev
      by_cases hgood : EntryA x y ∧ m = y
      · have OKE : Hid (∀ j, j < i + 1 → EntryA (K j) (S j) ∧ M j = S j) := Lib.hid fun j hj => by
          by_cases hji : j < i
          · exact HP.out j hji
          · obtain rfl : j = i := by omega
            rw [← EX.out, ← EY.out, ← EM.out]
            exact hgood
        obtain ⟨he, rfl⟩ := hgood
        have d : ((m : Int) != (m : Int)) = false := by simp
        have cs : (x = 0 ∧ m = 0) ∨ (x = 1 ∧ 1 ≤ m ∧ m ≤ 32) ∨ (x = 2 ∧ 1 ≤ m ∧ m ≤ 32) := by
          rcases he with h | ⟨h | h, h2⟩
          · exact .inl h
          · exact .inr (.inl ⟨h, h2⟩)
          · exact .inr (.inr ⟨h, h2⟩)
        clear he EX EY EM
        go_wp2_with fail
        rw [← hw2]
        clear hw2 x0 x1
        have STEP : ∀ (Q : Prop), ((x = 0 ∧ m = 0) → Q) → ((x = 1 ∧ 1 ≤ m ∧ m ≤ 32) → Q) → ((x = 2 ∧ 1 ≤ m ∧ m ≤ 32) → Q) → Q := fun Q a b e => cs.elim a fun h => h.elim b e
        clear cs
        refine STEP _ (fun h => ?_) (fun h => ?_) (fun h => ?_)
        all_goals
          clear STEP
          obtain ⟨rfl, hm⟩ := h
          try have hm1 := And.left hm
          try have hm2 := And.right hm
          try have hm3 : ¬ (m : Int) < 1 := by omega
          try have hm4 : ¬ (32 : Int) < (m : Int) := by omega
          try have hm0 : ((m : Int) != 0) = false := by simp; omega
          have HM := Lib.hid hm
          clear hm
        all_goals
          refine region_later (by kernel_rfl) (by kernel_rfl) ?_
          repeat (go_big_quiet_step (fail))
          refine wpQuiet_nil ?_
          rintro w9 ⟨⟨w3, hb3⟩, hw9⟩
          obtain rfl : w9 = w3 := hw9
          have S3 := Lib.hid (S2.out.below hb3)
          have B3 := Lib.hid (B2.out.trans (hb3.mono B2.out.size))
          have R3 := Lib.hid (HRI.out.below B3.out)
          clear l0 l1 lr hb3 d
          go_wp2
          go_loopw [5] (fun v wq => ∃ j : Nat, j ≤ m ∧ v = .int .i64 (j : Int) ∧ StIs wq w.heap.size K S V ∧ Below w.heap.size w wq) (fun v _ => m - (intOf v).toNat)
          case atStart => exact ⟨0, by omega, rfl, S3.out, B3.out⟩
          case round =>
            clear S3 B3 R3 S2 B2
            obtain ⟨j, hj, rfl, hs, hb⟩ := hrel
            have S4 := Lib.hid hs
            have B4 := Lib.hid hb
            have c4 : wr.cell? ⟨w.heap.size, 16 + i, none⟩ = some (.slice A m c) := by rw [← EV.out]; exact StIs.row S4.out h8
            clear hs hb
            by_cases hlt : j < m
            · obtain ⟨ad, rfl⟩ := HRI.out.addr (by omega)
              have hc := (HRI.out.below B4.out).at_ hlt
              cases hz : Z i j with
              | none =>
                rw [hz] at hc
                have hc2 : wr.cell? (ad.add j) = some (Value.complex .f64 13830554455654793216 0) := hc
                clear hc hz
                have h1 := order_none
                have h2 := order_zero
                go_wp2
                go_roundw
                case rel => exact ⟨j + 1, by omega, by go_num, S4.out, B4.out⟩
                case measure => simp [intOf]; omega
              | some p =>
                have hok := HG.out i j p hz
                have WH : Hid (∀ w, Calls Tryz.prog 31 #[.complex .f64 (fl p.1) (fl p.2)] w fun e w' => e = .returned (.bool true) ∧ w = w') := Lib.hid (refWhole_any (some p) (fun q hq => by cases hq; exact hok))
                rw [hz] at hc
                have hc2 : wr.cell? (ad.add j) = some (Value.complex .f64 (fl p.1) (fl p.2)) := hc
                have h1 := order_some_none p.1 (by have := hok.1; omega)
                clear hc hz hok
                go_wp2_with fail
                with_reducible refine (WH.out _).mono ?_
                rintro e w' ⟨rfl, rfl⟩
                go_wp2
                go_roundw
                case rel => exact ⟨j + 1, by omega, by go_num, S4.out, B4.out⟩
                case measure => simp [intOf]; omega
            · obtain rfl : j = m := by omega
              go_wp2
              go_roundw
              case rel => exact ⟨i + 1, by omega, by go_num, S4.out, B4.out, OKE.out⟩
              case measure => simp [intOf]; omega
      · have NO : Hid (¬ SoundA K S M) := Lib.hid fun h => by
          have := h i h8
          rw [← EX.out, ← EY.out, ← EM.out] at this
          exact hgood this
        go_wp2_with fail
        rw [← hw2]
        clear hw2 x0 x1
        by_cases hmy : m = y
        · subst hmy
          have d : ((m : Int) != (m : Int)) = false := by simp
          have cs : 2 < x ∨ (x = 0 ∧ m ≠ 0) ∨ (x = 1 ∧ m = 0) ∨ (x = 1 ∧ 32 < m) ∨ (x = 2 ∧ m = 0) ∨ (x = 2 ∧ 32 < m) := by
            unfold EntryA at hgood
            omega
          clear hgood EX EY EM EV HRI
          rcases cs with h | ⟨rfl, h⟩ | ⟨rfl, rfl⟩ | ⟨rfl, h⟩ | ⟨rfl, rfl⟩ | ⟨rfl, h⟩
          all_goals
            try have hm0 : ((m : Int) != 0) = true := by simpa using h
            try have hx3 : (2 : Int) < (x : Int) := by omega
            try have hx4 : ¬ (x : Int) < 0 := by omega
            try have hm3 : (32 : Int) < (m : Int) := by omega
            try have hm4 : ¬ (m : Int) < 1 := by omega
            refine region_later (by kernel_rfl) (by kernel_rfl) ?_
            repeat (go_big_quiet_step (fail))
            refine wpQuiet_nil ?_
            rintro w9 ⟨⟨w3, hb3⟩, hw9⟩
            obtain rfl : w9 = w3 := hw9
            have B3 := Lib.hid (B2.out.trans (hb3.mono B2.out.size))
            clear l0 l1 lr hb3
            go_wp2
            go_ret
            first
              | exact ⟨⟨_, rfl, ⟨fun h => (by cases h), fun h => absurd h NO.out⟩⟩, B3.out⟩
              | exact ⟨.inl ⟨rfl, NO.out⟩, B3.out⟩
        · have d : ((m : Int) != (y : Int)) = true := by simp; omega
          clear hgood EX EY EM EV HRI hmy
          refine region_later (by kernel_rfl) (by kernel_rfl) ?_
          repeat (go_big_quiet_step (fail))
          refine wpQuiet_nil ?_
          rintro w9 ⟨⟨w3, hb3⟩, hw9⟩
          obtain rfl : w9 = w3 := hw9
          have B3 := Lib.hid (B2.out.trans (hb3.mono B2.out.size))
          clear l0 l1 lr hb3
          go_wp2
          go_ret
          exact ⟨⟨_, rfl, ⟨fun h => (by cases h), fun h => absurd h NO.out⟩⟩, B3.out⟩
    · obtain rfl : i = 8 := by omega
      go_wp2
      go_ret
      exact ⟨⟨_, rfl, ⟨fun _ => HP.out, fun _ => rfl⟩⟩, HB.out⟩
end Go.Proofs.YtdocclkphffpkaaGreat

