/- Which of the candidates is the one: the first of the greatest. As the program goes for it, by a list of candidates, and as the document's loop does. Plain, nothing of the program. -/
import Derived.Test.YtiolhdilfjomcaaRatioFirst
namespace Go.Proofs.Ytiolhdilfjomcaa

/-- Is i among the first m of K? -/
def isIn (K : Nat → Int) (i : Nat) : Nat → Bool
  | 0 => false
  | m + 1 => isIn K i m || decide (K m = (i : Int))
theorem isIn_up {K : Nat → Int} {i m : Nat} (h : isIn K i m = false) (hk : ¬ K m = (i : Int)) : isIn K i (m + 1) = false := by rw [isIn, h, decide_eq_false hk]; rfl
theorem isIn_hit {K : Nat → Int} {i m k : Nat} (hk : k < m) (h : K k = (i : Int)) : isIn K i m = true := by
  induction m with
  | zero => omega
  | succ m ih =>
    rw [isIn]
    by_cases he : k = m
    · rw [← he, decide_eq_true h]; simp
    · rw [ih (by omega)]; rfl

/-- May segment i be picked? -/
def cand (L K : Nat → Int) (b : Int) (m i : Nat) : Bool := !isIn K i m && (decide (0 < L i) && decide (L i < b))
theorem cand_in {L K : Nat → Int} {b : Int} {m i : Nat} (h : isIn K i m = true) : cand L K b m i = false := by unfold cand; rw [h]; rfl
theorem cand_low {L K : Nat → Int} {b : Int} {m i : Nat} (h : ¬ 0 < L i) : cand L K b m i = false := by unfold cand; rw [decide_eq_false h]; simp
theorem cand_full {L K : Nat → Int} {b : Int} {m i : Nat} (h : ¬ L i < b) : cand L K b m i = false := by unfold cand; rw [decide_eq_false h]; simp
theorem cand_yes {L K : Nat → Int} {b : Int} {m i : Nat} (h : isIn K i m = false) (h1 : 0 < L i) (h2 : L i < b) : cand L K b m i = true := by unfold cand; rw [h, decide_eq_true h1, decide_eq_true h2]; rfl
theorem cand_out {L K : Nat → Int} {b : Int} {m i : Nat} (h : cand L K b m i = true) : isIn K i m = false ∧ 0 < L i ∧ L i < b := by
  unfold cand at h
  simpa using h

/-- The candidates ahead of k. -/
def cands (p : Nat → Bool) : Nat → List Nat
  | 0 => []
  | k + 1 => if p k = true then cands p k ++ [k] else cands p k
def many (p : Nat → Bool) (k : Nat) : Nat := (cands p k).length
def nth (p : Nat → Bool) (n j : Nat) : Nat := (cands p n).getD j 0

variable {p : Nat → Bool} {n k j : Nat}
theorem many_up (h : p k = true) : many p (k + 1) = many p k + 1 := by unfold many; rw [cands, if_pos h, List.length_append]; rfl
theorem many_stays (h : ¬ p k = true) : many p (k + 1) = many p k := by unfold many; rw [cands, if_neg h]
theorem many_le (p : Nat → Bool) (k : Nat) : many p k ≤ k := by
  induction k with
  | zero => exact Nat.le_refl _
  | succ k ih =>
    by_cases h : p k = true
    · rw [many_up h]; omega
    · rw [many_stays h]; omega
theorem many_mono (h : k ≤ n) : many p k ≤ many p n := by
  induction n with
  | zero => obtain rfl : k = 0 := by omega
            exact Nat.le_refl _
  | succ n ih =>
    by_cases he : k = n + 1
    · rw [he]; exact Nat.le_refl _
    · have h1 := ih (by omega)
      by_cases h2 : p n = true
      · rw [many_up h2]; omega
      · rw [many_stays h2]; omega
theorem nth_next (h : j < many p k) : nth p (k + 1) j = nth p k j := by
  unfold nth
  rw [cands]
  split
  · rw [List.getD_eq_getElem?_getD, List.getD_eq_getElem?_getD, List.getElem?_append_left h]
  · rfl
theorem nth_stays (hk : k ≤ n) (h : j < many p k) : nth p n j = nth p k j := by
  induction n with
  | zero => obtain rfl : k = 0 := by omega
            rfl
  | succ n ih =>
    by_cases he : k = n + 1
    · rw [he]
    · have h1 := many_mono (p := p) (k := k) (n := n) (by omega)
      rw [nth_next (by omega), ih (by omega)]
theorem nth_at (hk : k < n) (h : p k = true) : nth p n (many p k) = k := by
  rw [nth_stays (k := k + 1) (by omega) (by rw [many_up h]; omega)]
  unfold nth many
  rw [cands, if_pos h, List.getD_eq_getElem?_getD, List.getElem?_append_right (Nat.le_refl _)]
  simp
theorem nth_is (h : j < many p n) : nth p n j < n ∧ p (nth p n j) = true ∧ many p (nth p n j) = j := by
  induction n with
  | zero => exact absurd h (by simp [many, cands])
  | succ n ih =>
    by_cases h1 : j < many p n
    · rw [nth_next h1]
      have := ih h1
      exact ⟨by omega, this.2.1, this.2.2⟩
    · by_cases h2 : p n = true
      · rw [many_up h2] at h
        obtain rfl : j = many p n := by omega
        rw [nth_at (by omega) h2]
        exact ⟨by omega, h2, rfl⟩
      · rw [many_stays h2] at h
        omega
theorem many_none (h : ∀ i, i < n → ¬ p i = true) : many p n = 0 := by
  induction n with
  | zero => rfl
  | succ n ih => rw [many_stays (h n (by omega)), ih fun i hi => h i (by omega)]

/-- r is the first of the greatest of the candidates ahead of n. -/
structure IsPick (p : Nat → Bool) (X Y : Nat → Int) (n r : Nat) : Prop where
  lt : r < n
  can : p r = true
  top : ∀ i, i < n → p i = true → rel (X i) (Y i) (X r) (Y r) ≤ 0
  first : ∀ i, i < r → p i = true → rel (X i) (Y i) (X r) (Y r) < 0

variable {X Y : Nat → Int}
theorem IsPick.same {r s : Nat} (h : IsPick p X Y n r) (k : IsPick p X Y n s) : r = s := by
  rcases Nat.lt_trichotomy r s with hl | he | hl
  · have h1 := k.first r hl h.can
    have h2 := h.top s k.lt k.can
    rw [rel_swap] at h2
    omega
  · exact he
  · have h1 := h.first s hl k.can
    have h2 := k.top r h.lt h.can
    rw [rel_swap] at h2
    omega
theorem pick_first (hn : ∀ i, i < k → ¬ p i = true) (h : p k = true) : IsPick p X Y (k + 1) k where
  lt := by omega
  can := h
  top := fun i hi hp => by
    by_cases he : i = k
    · rw [he, rel_self]; omega
    · exact absurd hp (hn i (by omega))
  first := fun i hi hp => absurd hp (hn i hi)
theorem IsPick.stays {r : Nat} (h : IsPick p X Y k r) (hk : p k = true → ¬ 0 < rel (X k) (Y k) (X r) (Y r)) : IsPick p X Y (k + 1) r where
  lt := by have := h.lt; omega
  can := h.can
  top := fun i hi hp => by
    by_cases he : i = k
    · rw [he] at hp ⊢
      have := hk hp
      omega
    · exact h.top i (by omega) hp
  first := h.first
theorem IsPick.up {r : Nat} (hY : ∀ i, i < k + 1 → 0 < Y i) (h : IsPick p X Y k r) (hp : p k = true) (hk : 0 < rel (X k) (Y k) (X r) (Y r)) : IsPick p X Y (k + 1) k := by
  have strict : ∀ i, i < k → p i = true → rel (X i) (Y i) (X k) (Y k) < 0 := fun i hi hq => by
    apply Int.not_le.mp
    intro hge
    have h1 : rel (X k) (Y k) (X i) (Y i) ≤ 0 := by rw [rel_swap]; omega
    have := rel_trans (hY k (by omega)) (hY i (by omega)) (hY r (by have := h.lt; omega)) h1 (h.top i hi hq)
    omega
  refine ⟨by omega, hp, fun i hi hq => ?_, strict⟩
  by_cases he : i = k
  · rw [he, rel_self]; omega
  · have := strict i (by omega) hq
    omega

/-- The first of the greatest of the list of the candidates is it. -/
theorem best_pick (hf : ∀ i, i < n → Fit (X i) (Y i)) (h : 0 < many p n) :
    IsPick p X Y n (nth p n (best (fun j => X (nth p n j)) (fun j => Y (nth p n j)) (many p n))) := by
  have hb := best_lt (fun j => X (nth p n j)) (fun j => Y (nth p n j)) (Nat.le_refl (many p n)) h
  obtain ⟨g1, g2⟩ := best_is (X := fun j => X (nth p n j)) (Y := fun j => Y (nth p n j)) (n := many p n) (fun j hj => hf _ (nth_is hj).1) (many p n) (Nat.le_refl _)
  obtain ⟨B, eB⟩ : ∃ B, B = best (fun j => X (nth p n j)) (fun j => Y (nth p n j)) (many p n) := ⟨_, rfl⟩
  rw [← eB] at hb g1 g2
  rw [← eB]
  obtain ⟨b1, b2, b3⟩ := nth_is hb
  have rank : ∀ i, i < n → p i = true → many p i < many p n ∧ nth p n (many p i) = i := fun i hi hq => by
    refine ⟨?_, nth_at hi hq⟩
    have := many_mono (p := p) (k := i + 1) (n := n) (by omega)
    rw [many_up hq] at this
    omega
  refine ⟨b1, b2, fun i hi hq => ?_, fun i hi hq => ?_⟩
  · obtain ⟨r1, r2⟩ := rank i hi hq
    have := g1 _ r1
    rw [r2] at this
    exact this
  · obtain ⟨r1, r2⟩ := rank i (by omega) hq
    have hlt : many p i < B := by
      have := many_mono (p := p) (k := i + 1) (n := nth p n B) (by omega)
      rw [many_up hq, b3] at this
      omega
    have := g2 _ r1 hlt
    rw [r2] at this
    exact this
theorem pick_or (hf : ∀ i, i < n → Fit (X i) (Y i)) : (∃ r, IsPick p X Y n r) ∨ ∀ i, i < n → ¬ p i = true := by
  by_cases h : 0 < many p n
  · exact .inl ⟨_, best_pick hf h⟩
  · refine .inr fun i hi hq => h ?_
    have := many_mono (p := p) (k := i + 1) (n := n) (by omega)
    rw [many_up hq] at this
    omega

/-! ### what a segment is worth -/
def overS (L G : Nat → Int) (b : Int) (i : Nat) : Int := (b - L i) * (G i + 1)
def underS (L : Nat → Int) (b : Int) (i : Nat) : Int := b + L i

/-- An elder segment is worth more. -/
theorem rel_elder {x x' y u v : Int} (hx : x ≤ x') (hv : 0 < v) : rel x y u v ≤ rel x' y u v := by
  have h := Int.mul_le_mul_of_nonneg_right hx (by omega : (0 : Int) ≤ v)
  unfold rel
  rcases sgn_cases (x * v) (u * y) with ⟨h1, e1⟩ | ⟨h1, e1⟩ | ⟨h1, e1⟩ <;> rcases sgn_cases (x' * v) (u * y) with ⟨h2, e2⟩ | ⟨h2, e2⟩ | ⟨h2, e2⟩ <;> omega
theorem pick_elder {X' : Nat → Int} {r : Nat} (hY : ∀ i, i < n → 0 < Y i) (h : IsPick p X Y n r) (hr : X r ≤ X' r) (ho : ∀ i, i ≠ r → X' i = X i) : IsPick p X' Y n r where
  lt := h.lt
  can := h.can
  top := fun i hi hq => by
    by_cases he : i = r
    · rw [he, rel_self]; omega
    · have h1 := h.top i hi hq
      have h2 := rel_elder (y := Y r) (u := X i) hr (hY i hi)
      rw [rel_swap] at h1
      rw [ho i he, rel_swap]
      omega
  first := fun i hi hq => by
    have h1 := h.first i hi hq
    have h2 := rel_elder (y := Y r) (u := X i) hr (hY i (by have := h.lt; omega))
    rw [rel_swap] at h1
    rw [ho i (by omega), rel_swap]
    omega
theorem pick_other {X' : Nat → Int} {r x k : Nat} (hY : ∀ i, i < n → 0 < Y i) (h : IsPick p X Y n r) (h' : IsPick p X' Y n x) (hk : X k ≤ X' k) (ho : ∀ i, i ≠ k → X' i = X i) : x = r ∨ x = k := by
  by_cases hx : x = k
  · exact .inr hx
  left
  have ex := ho x hx
  have hr : X r ≤ X' r := by
    by_cases he : r = k
    · rw [he]; exact hk
    · rw [ho r he]; omega
  have h1 := h'.top r h.lt h.can
  rw [ex] at h1
  have h2 := rel_elder (y := Y r) (u := X x) hr (hY x h'.lt)
  have h3 := h.top x h'.lt h'.can
  rw [rel_swap] at h3
  rcases Nat.lt_trichotomy x r with hl | he | hl
  · have h4 := h.first x hl h'.can
    rw [rel_swap] at h4
    omega
  · exact he
  · have h4 := h'.first r hl h.can
    rw [ex] at h4
    omega
end Go.Proofs.Ytiolhdilfjomcaa
