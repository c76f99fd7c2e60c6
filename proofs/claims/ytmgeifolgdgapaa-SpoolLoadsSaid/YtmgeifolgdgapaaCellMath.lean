
/- Numbers as digits to the base 256, the highest first: plain, nothing of the program. -/
import Derived.ProofKit
namespace Go.Proofs.Ytmgeifolgdgapaa

/-- The number that the first k values are. -/
def val (f : Nat → Nat) : Nat → Nat
  | 0 => 0
  | k + 1 => val f k * 256 + f k
/-- Digit i of n in k digits. -/
def dig (n k i : Nat) : Nat := n / 256 ^ (k - 1 - i) % 256

theorem dig_lt (n k i : Nat) : dig n k i < 256 := Nat.mod_lt _ (by omega)
theorem val_congr {f g : Nat → Nat} {k : Nat} (h : ∀ i, i < k → f i = g i) : val f k = val g k := by
  induction k with
  | zero => rfl
  | succ k ih => simp only [val]; rw [ih (fun i hi => h i (by omega)), h k (by omega)]
theorem val_lt {f : Nat → Nat} {k : Nat} (h : ∀ i, i < k → f i < 256) : val f k < 256 ^ k := by
  induction k with
  | zero => simp [val]
  | succ k ih =>
    have h1 := ih fun i hi => h i (by omega)
    have h2 := h k (by omega)
    simp only [val, Nat.pow_succ]
    omega

theorem val_dig_part {n k j : Nat} (hn : n < 256 ^ k) (hj : j ≤ k) : val (dig n k) j = n / 256 ^ (k - j) := by
  induction j with
  | zero => simp only [val, Nat.sub_zero]; exact (Nat.div_eq_of_lt hn).symm
  | succ j ih =>
    simp only [val]
    rw [ih (by omega)]
    unfold dig
    have e : k - j = (k - 1 - j) + 1 := by omega
    have e2 : k - (j + 1) = k - 1 - j := by omega
    rw [e, e2, Nat.pow_succ, ← Nat.div_div_eq_div_mul]
    omega
theorem val_dig {n k : Nat} (hn : n < 256 ^ k) : val (dig n k) k = n := by
  rw [val_dig_part hn (Nat.le_refl _)]
  simp
theorem val_head {f : Nat → Nat} {k j : Nat} (h : ∀ i, i < k → f i < 256) (hj : j ≤ k) : val f k / 256 ^ (k - j) = val f j := by
  induction k with
  | zero => simp [show j = 0 by omega]
  | succ k ih =>
    by_cases hk : j = k + 1
    · subst hk; simp
    · have h1 := ih (fun i hi => h i (by omega)) (by omega)
      have h2 := h k (by omega)
      have e : k + 1 - j = (k - j) + 1 := by omega
      rw [e, Nat.pow_succ, Nat.mul_comm, ← Nat.div_div_eq_div_mul]
      have e2 : val f (k + 1) / 256 = val f k := by simp only [val]; omega
      rw [e2, h1]
theorem dig_val {f : Nat → Nat} {k i : Nat} (h : ∀ i, i < k → f i < 256) (hi : i < k) : dig (val f k) k i = f i := by
  unfold dig
  have e : k - 1 - i = k - (i + 1) := by omega
  rw [e, val_head h (by omega)]
  have := h i hi
  simp only [val]
  omega
theorem dig_inj {n m k : Nat} (hn : n < 256 ^ k) (hm : m < 256 ^ k) (h : ∀ i, i < k → dig n k i = dig m k i) : n = m := by
  rw [← val_dig hn, ← val_dig hm]
  exact val_congr h
/-- In more digits: 0 ahead. -/
theorem dig_wide {n k d i : Nat} (hn : n < 256 ^ k) : dig n (d + k) i = if i < d then 0 else dig n k (i - d) := by
  unfold dig
  by_cases h : i < d
  · rw [if_pos h, Nat.div_eq_of_lt]
    exact Nat.lt_of_lt_of_le hn (Nat.pow_le_pow_right (by omega) (by omega))
  · rw [if_neg h]
    congr 3
    omega
theorem pow_le_four {k : Nat} (hk : k ≤ 4) : 256 ^ k ≤ 4294967296 := by
  have := Nat.pow_le_pow_right (n := 256) (by omega) hk
  simpa using this

/-- Which of two is less: the first digit in which they are unlike says it. -/
theorem dig_first {n m k : Nat} (hn : n < 256 ^ k) (hm : m < 256 ^ k) (h : n < m) : ∃ i, i < k ∧ (∀ j, j < i → dig n k j = dig m k j) ∧ dig n k i < dig m k i := by
  have H : ∀ j, j ≤ k → val (dig n k) j < val (dig m k) j → ∃ i, i < k ∧ (∀ t, t < i → dig n k t = dig m k t) ∧ dig n k i < dig m k i := by
    intro j
    induction j with
    | zero => intro _ h; simp [val] at h
    | succ j ih =>
      intro hj hlt
      by_cases h1 : val (dig n k) j < val (dig m k) j
      · exact ih (by omega) h1
      · have d1 := dig_lt n k j
        have d2 := dig_lt m k j
        simp only [val] at hlt
        have he : val (dig n k) j = val (dig m k) j := by omega
        refine ⟨j, by omega, fun t ht => ?_, by omega⟩
        have e1 := dig_val (f := dig n k) (k := j) (i := t) (fun i _ => dig_lt n k i) ht
        have e2 := dig_val (f := dig m k) (k := j) (i := t) (fun i _ => dig_lt m k i) ht
        rw [← e1, ← e2, he]
  refine H k (Nat.le_refl _) ?_
  rw [val_dig hn, val_dig hm]
  exact h

/-- Byte t of the numbers g, each in k bytes. -/
def rowB (g : Nat → Nat) (k t : Nat) : Nat := dig (g (t / k)) k (t % k)
/-- Number i of the bytes f, k bytes each. -/
def rowN (f : Nat → Nat) (k i : Nat) : Nat := val (fun j => f (i * k + j)) k

theorem rowB_lt (g : Nat → Nat) (k t : Nat) : rowB g k t < 256 := dig_lt _ _ _
theorem rowB_at {g : Nat → Nat} {k i j : Nat} (hj : j < k) : rowB g k (i * k + j) = dig (g i) k j := by
  unfold rowB
  have h1 : (i * k + j) / k = i := by
    rw [Nat.mul_comm, Nat.mul_add_div (by omega), Nat.div_eq_of_lt hj]; rfl
  have h2 : (i * k + j) % k = j := by
    rw [Nat.mul_comm, Nat.mul_add_mod, Nat.mod_eq_of_lt hj]
  rw [h1, h2]
theorem rowN_rowB {g : Nat → Nat} {k i : Nat} (hg : g i < 256 ^ k) : rowN (rowB g k) k i = g i := by
  unfold rowN
  rw [val_congr (g := dig (g i) k) fun j hj => rowB_at hj]
  exact val_dig hg
theorem rowB_rowN {f : Nat → Nat} {k n t : Nat} (hk : 0 < k) (hf : ∀ i, i < n → f i < 256) (hn : n % k = 0) (ht : t < n) : rowB (rowN f k) k t = f t := by
  have h1 : t % k < k := Nat.mod_lt _ hk
  have h2 : t = t / k * k + t % k := by
    have := Nat.div_add_mod t k
    rw [Nat.mul_comm] at this
    omega
  have h3 : (t / k + 1) * k ≤ n := by
    have hd : n = n / k * k := by
      have := Nat.div_add_mod n k
      rw [Nat.mul_comm] at this
      omega
    have : t / k < n / k := by
      rw [Nat.div_lt_iff_lt_mul hk, ← hd]
      exact ht
    calc (t / k + 1) * k ≤ n / k * k := Nat.mul_le_mul_right k this
      _ = n := hd.symm
  unfold rowB rowN
  rw [dig_val (fun i hi => hf _ (by rw [Nat.add_mul] at h3; omega)) h1, ← h2]
theorem rowN_lt {f : Nat → Nat} {k i : Nat} (hf : ∀ j, j < k → f (i * k + j) < 256) : rowN f k i < 256 ^ k := val_lt hf

end Go.Proofs.Ytmgeifolgdgapaa
