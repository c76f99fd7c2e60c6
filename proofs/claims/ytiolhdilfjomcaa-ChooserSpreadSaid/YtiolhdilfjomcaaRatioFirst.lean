/- The first of the greatest of quotients: as the program goes for it, and as the document says it. Plain, nothing of the program. -/
import Derived.Test.YtiolhdilfjomcaaRatioMath
namespace Go.Proofs.Ytiolhdilfjomcaa

/-- The first of the greatest of the quotients ahead of k. -/
def best (X Y : Nat → Int) : Nat → Nat
  | 0 => 0
  | k + 1 => if 0 < rel (X k) (Y k) (X (best X Y k)) (Y (best X Y k)) then k else best X Y k

theorem best_le (X Y : Nat → Int) (k : Nat) : best X Y k ≤ k := by
  induction k with
  | zero => exact Nat.le_refl _
  | succ k ih => rw [best]; split <;> omega
theorem best_lt (X Y : Nat → Int) {k n : Nat} (h : k ≤ n) (hn : 0 < n) : best X Y k < n := by
  cases k with
  | zero => exact hn
  | succ k => have := best_le X Y k; rw [best]; split <;> omega
theorem best_up {X Y : Nat → Int} {k : Nat} (h : 0 < rel (X k) (Y k) (X (best X Y k)) (Y (best X Y k))) : best X Y (k + 1) = k := by rw [best, if_pos h]
theorem best_stays {X Y : Nat → Int} {k : Nat} (h : ¬ 0 < rel (X k) (Y k) (X (best X Y k)) (Y (best X Y k))) : best X Y (k + 1) = best X Y k := by rw [best, if_neg h]

theorem best_is {X Y : Nat → Int} {n : Nat} (hf : ∀ i, i < n → Fit (X i) (Y i)) (k : Nat) (hk : k ≤ n) :
    (∀ i, i < k → rel (X i) (Y i) (X (best X Y k)) (Y (best X Y k)) ≤ 0) ∧ (∀ i, i < k → i < best X Y k → rel (X i) (Y i) (X (best X Y k)) (Y (best X Y k)) < 0) := by
  induction k with
  | zero => exact ⟨fun i h => absurd h (by omega), fun i h => absurd h (by omega)⟩
  | succ k ih =>
    obtain ⟨g1, g2⟩ := ih (by omega)
    by_cases hn : n = 0
    · omega
    have hb := best_lt X Y (k := k) (n := n) (by omega) (by omega)
    obtain ⟨_, _, kb, _⟩ := hf k (by omega)
    obtain ⟨_, _, bb, _⟩ := hf _ hb
    by_cases h : 0 < rel (X k) (Y k) (X (best X Y k)) (Y (best X Y k))
    · rw [best_up h]
      have strict : ∀ i, i < k → rel (X i) (Y i) (X k) (Y k) < 0 := fun i hi => by
        obtain ⟨_, _, ib, _⟩ := hf i (by omega)
        apply Int.not_le.mp
        intro hge
        have h1 : rel (X k) (Y k) (X i) (Y i) ≤ 0 := by rw [rel_swap]; omega
        have := rel_trans (by omega) (by omega) (by omega) h1 (g1 i hi)
        omega
      refine ⟨fun i hi => ?_, fun i _ hi => strict i hi⟩
      by_cases he : i = k
      · rw [he, rel_self]; omega
      · have := strict i (by omega); omega
    · rw [best_stays h]
      refine ⟨fun i hi => ?_, fun i hi hib => ?_⟩
      · by_cases he : i = k
        · rw [he]; omega
        · exact g1 i (by omega)
      · have := best_le X Y k
        exact g2 i (by omega) hib

/-- 'i' is not below k, and not equal to an elder one. -/
def good (X Y : Nat → Int) (i k : Nat) : Bool := !(decide (rel (X i) (Y i) (X k) (Y k) < 0) || (decide (rel (X i) (Y i) (X k) (Y k) = 0) && decide (k < i)))
def allGood (X Y : Nat → Int) (i : Nat) : Nat → Bool
  | 0 => true
  | k + 1 => allGood X Y i k && good X Y i k

theorem allGood_true {X Y : Nat → Int} {i n : Nat} (h : ∀ k, k < n → good X Y i k = true) : allGood X Y i n = true := by
  induction n with
  | zero => rfl
  | succ n ih => rw [allGood, ih (fun k hk => h k (by omega)), h n (by omega)]; rfl
theorem allGood_false {X Y : Nat → Int} {i n k : Nat} (hk : k < n) (h : good X Y i k = false) : allGood X Y i n = false := by
  induction n with
  | zero => omega
  | succ n ih =>
    by_cases he : k = n
    · rw [allGood, ← he, h]; simp
    · rw [allGood, ih (by omega)]; rfl
theorem allGood_best {X Y : Nat → Int} {n : Nat} (hf : ∀ i, i < n → Fit (X i) (Y i)) : allGood X Y (best X Y n) n = true := by
  obtain ⟨g1, g2⟩ := best_is hf n (Nat.le_refl _)
  refine allGood_true fun k hk => ?_
  have h1 := g1 k hk
  have h2 := g2 k hk
  rw [rel_swap] at h1 h2
  unfold good
  by_cases hb : k < best X Y n
  · have h3 := h2 hb
    rw [decide_eq_false (by omega), decide_eq_false (by omega)]; simp
  · rw [decide_eq_false (by omega), decide_eq_false hb]; simp
theorem allGood_ahead {X Y : Nat → Int} {n i : Nat} (hf : ∀ i, i < n → Fit (X i) (Y i)) (hi : i < best X Y n) : allGood X Y i n = false := by
  have hn : 0 < n := by have := best_le X Y n; omega
  obtain ⟨_, g2⟩ := best_is hf n (Nat.le_refl _)
  have hb := best_lt X Y (k := n) (n := n) (Nat.le_refl _) hn
  refine allGood_false hb ?_
  have h2 := g2 i (by omega) hi
  unfold good
  rw [decide_eq_true h2]; rfl

/-- What Best answers of n quotients of which the first j may be (and no further one, if j is not n). -/
def bestAt (X Y : Nat → Int) (n j : Nat) : Int := if j = n then (best X Y n : Int) else 0
def bestErr (n j : Nat) : Int := if j = n then 0 else 1

/-- How far quotients may be. -/
theorem fit_till (X Y : Nat → Int) (n : Nat) : ∃ j, j ≤ n ∧ (∀ i, i < j → Fit (X i) (Y i)) ∧ (j < n → ¬ Fit (X j) (Y j)) := by
  induction n with
  | zero => exact ⟨0, Nat.le_refl _, fun i h => absurd h (by omega), fun h => absurd h (by omega)⟩
  | succ n ih =>
    obtain ⟨j, hj, hf, hn⟩ := ih
    by_cases he : j < n
    · exact ⟨j, by omega, hf, fun _ => hn he⟩
    · by_cases hfit : Fit (X j) (Y j)
      · refine ⟨j + 1, by omega, fun i hi => ?_, fun h => absurd h (by omega)⟩
        by_cases h : i = j
        · rw [h]; exact hfit
        · exact hf i (by omega)
      · exact ⟨j, by omega, hf, fun _ => hfit⟩

end Go.Proofs.Ytiolhdilfjomcaa
