/- Quotients of integers: the sign of a difference of products, and Euclid's way of finding it. Plain integers, nothing of the program. -/
import Derived.WalkKit
namespace Go.Proofs.Ytiolhdilfjomcaa
open Go

/-- -1, 0 or 1: how x lies to y. -/
def sgn (x y : Int) : Int := if x < y then -1 else if y < x then 1 else 0

theorem sgn_lt {x y : Int} (h : x < y) : sgn x y = -1 := by unfold sgn; rw [if_pos h]
theorem sgn_gt {x y : Int} (h : y < x) : sgn x y = 1 := by unfold sgn; rw [if_neg (by omega), if_pos h]
theorem sgn_eq {x y : Int} (h : x = y) : sgn x y = 0 := by unfold sgn; rw [if_neg (by omega), if_neg (by omega)]
theorem sgn_cases (x y : Int) : (x < y ∧ sgn x y = -1) ∨ (x = y ∧ sgn x y = 0) ∨ (y < x ∧ sgn x y = 1) := by
  by_cases h : x < y
  · exact .inl ⟨h, sgn_lt h⟩
  · by_cases h2 : y < x
    · exact .inr (.inr ⟨h2, sgn_gt h2⟩)
    · exact .inr (.inl ⟨by omega, sgn_eq (by omega)⟩)
theorem sgn_swap (x y : Int) : sgn y x = - sgn x y := by
  rcases sgn_cases x y with ⟨h, e⟩ | ⟨h, e⟩ | ⟨h, e⟩
  · rw [e, sgn_gt h]; rfl
  · rw [e, sgn_eq h.symm]; rfl
  · rw [e, sgn_lt h]
theorem sgn_congr {x y u v : Int} (h : x - y = u - v) : sgn x y = sgn u v := by
  rcases sgn_cases x y with ⟨k, e⟩ | ⟨k, e⟩ | ⟨k, e⟩
  · rw [e, sgn_lt (by omega)]
  · rw [e, sgn_eq (by omega)]
  · rw [e, sgn_gt (by omega)]
theorem sgn_bd (x y : Int) : -1 ≤ sgn x y ∧ sgn x y ≤ 1 := by
  rcases sgn_cases x y with ⟨_, e⟩ | ⟨_, e⟩ | ⟨_, e⟩ <;> rw [e] <;> omega
theorem sgn_pos {x y : Int} : 0 < sgn x y ↔ y < x := by
  rcases sgn_cases x y with ⟨h, e⟩ | ⟨h, e⟩ | ⟨h, e⟩ <;> rw [e] <;> omega
theorem sgn_neg {x y : Int} : sgn x y < 0 ↔ x < y := by
  rcases sgn_cases x y with ⟨h, e⟩ | ⟨h, e⟩ | ⟨h, e⟩ <;> rw [e] <;> omega
theorem sgn_zero {x y : Int} : sgn x y = 0 ↔ x = y := by
  rcases sgn_cases x y with ⟨h, e⟩ | ⟨h, e⟩ | ⟨h, e⟩ <;> rw [e] <;> omega

/-- May a / b be? -/
def Fit (a b : Int) : Prop := 0 ≤ a ∧ a ≤ 1048576 ∧ 1 ≤ b ∧ b ≤ 1048576
instance (a b : Int) : Decidable (Fit a b) := by unfold Fit; infer_instance

theorem mul_bd {a d : Int} (h0 : 0 ≤ a) (h1 : a ≤ 1048576) (h2 : 0 ≤ d) (h3 : d ≤ 1048576) : 0 ≤ a * d ∧ a * d ≤ 1099511627776 :=
  ⟨Int.mul_nonneg h0 h2, by have := Int.mul_le_mul h1 h3 h2 (by omega); omega⟩

/-- The sign of a / b - c / d. -/
def rel (a b c d : Int) : Int := sgn (a * d) (c * b)

theorem rel_swap (a b c d : Int) : rel c d a b = - rel a b c d := by unfold rel; rw [sgn_swap]
theorem rel_bd (a b c d : Int) : -1 ≤ rel a b c d ∧ rel a b c d ≤ 1 := sgn_bd _ _

/-- A quotient is at least its whole part. -/
theorem whole_le {a b : Int} (hb : 0 < b) : a / b * b ≤ a := Int.ediv_mul_le a (by omega)
theorem lt_whole {a b : Int} (hb : 0 < b) : a < (a / b + 1) * b := by
  have := Int.lt_ediv_add_one_mul_self a hb; exact this

theorem rel_gt {a b c d : Int} (hb : 0 < b) (hd : 0 < d) (h : c / d < a / b) : rel a b c d = 1 := by
  unfold rel
  refine sgn_gt ?_
  have h1 : c < (a / b) * d := Int.lt_mul_of_ediv_lt hd h
  have h2 := whole_le (a := a) hb
  have h3 : c * b < (a / b) * d * b := Int.mul_lt_mul_of_pos_right h1 hb
  have h4 : (a / b * b) * d ≤ a * d := Int.mul_le_mul_of_nonneg_right h2 (by omega)
  have h5 : (a / b) * d * b = (a / b * b) * d := by rw [Int.mul_assoc, Int.mul_comm d b, ← Int.mul_assoc]
  omega
theorem rel_lt {a b c d : Int} (hb : 0 < b) (hd : 0 < d) (h : a / b < c / d) : rel a b c d = -1 := by
  have := rel_gt hd hb h
  rw [rel_swap] at this
  omega

/-- One round: of equal whole parts the rest, turned round. -/
theorem rel_round {a b c d : Int} (h : a / b = c / d) : rel b (a - a / b * b) d (c - c / d * d) = - rel a b c d := by
  rw [← rel_swap]
  unfold rel
  refine sgn_congr ?_
  rw [h]
  have e1 : b * (c - c / d * d) = c * b - c / d * d * b := by rw [Int.mul_comm, Int.sub_mul]
  have e2 : d * (a - c / d * b) = a * d - c / d * b * d := by rw [Int.mul_comm, Int.sub_mul]
  have e3 : c / d * d * b = c / d * b * d := by rw [Int.mul_assoc, Int.mul_comm d b, ← Int.mul_assoc]
  omega
theorem rel_rest {a b c d : Int} (h : a / b = c / d) : rel (a - a / b * b) b (c - c / d * d) d = rel a b c d := by
  unfold rel
  refine sgn_congr ?_
  rw [h, Int.sub_mul, Int.sub_mul]
  have e3 : c / d * d * b = c / d * b * d := by rw [Int.mul_assoc, Int.mul_comm d b, ← Int.mul_assoc]
  omega
theorem rest_bd {a b : Int} (hb : 0 < b) (ha : 0 ≤ a) : 0 ≤ a - a / b * b ∧ a - a / b * b < b ∧ a - a / b * b ≤ a := by
  have h1 := whole_le (a := a) hb
  have h2 := lt_whole (a := a) hb
  have h3 : 0 ≤ a / b * b := Int.mul_nonneg (Int.ediv_nonneg ha (by omega)) (by omega)
  rw [Int.add_mul] at h2
  omega
theorem rel_end_eq {a b c d : Int} (h1 : a = 0) (h2 : c = 0) : rel a b c d = 0 := by unfold rel; exact sgn_eq (by rw [h1, h2]; omega)
theorem rel_end_lt {a b c d : Int} (h1 : a = 0) (h2 : 0 < c) (hb : 0 < b) : rel a b c d = -1 := by
  unfold rel; exact sgn_lt (by rw [h1]; have := Int.mul_pos h2 hb; omega)
theorem rel_end_gt {a b c d : Int} (h1 : 0 < a) (h2 : c = 0) (hd : 0 < d) : rel a b c d = 1 := by
  unfold rel; exact sgn_gt (by rw [h2]; have := Int.mul_pos h1 hd; omega)

/-- Who is not above one that is not above a third is not above that. -/
theorem rel_trans {a b c d m n : Int} (hb : 0 < b) (hd : 0 < d) (hn : 0 < n) (h1 : rel a b c d ≤ 0) (h2 : rel c d m n ≤ 0) : rel a b m n ≤ 0 := by
  have g1 : a * d ≤ c * b := by
    apply Int.not_lt.mp; intro h; have := sgn_pos.mpr h; unfold rel at h1; omega
  have g2 : c * n ≤ m * d := by
    apply Int.not_lt.mp; intro h; have := sgn_pos.mpr h; unfold rel at h2; omega
  apply Int.not_lt.mp
  intro h
  have g3 : m * b < a * n := sgn_pos.mp h
  have k1 : (a * d) * n ≤ (c * b) * n := Int.mul_le_mul_of_nonneg_right g1 (by omega)
  have k2 : (c * n) * b ≤ (m * d) * b := Int.mul_le_mul_of_nonneg_right g2 (by omega)
  have k3 : (m * b) * d < (a * n) * d := Int.mul_lt_mul_of_pos_right g3 hd
  have e1 : (a * d) * n = (a * n) * d := by rw [Int.mul_assoc, Int.mul_comm d n, ← Int.mul_assoc]
  have e2 : (c * b) * n = (c * n) * b := by rw [Int.mul_assoc, Int.mul_comm b n, ← Int.mul_assoc]
  have e3 : (m * d) * b = (m * b) * d := by rw [Int.mul_assoc, Int.mul_comm d b, ← Int.mul_assoc]
  omega
theorem rel_self (a b : Int) : rel a b a b = 0 := by unfold rel; exact sgn_eq rfl
theorem rel_scale (x y n : Int) : rel x y (x * n) (y * n) = 0 := by
  unfold rel; refine sgn_eq ?_; rw [Int.mul_assoc, Int.mul_comm n y]
theorem rel_scale_up {x y n : Int} (hy : 0 < y) : rel x y (x * n + 1) (y * n) = -1 := by
  unfold rel
  refine sgn_lt ?_
  have e : (x * n + 1) * y = x * (y * n) + y := by rw [Int.add_mul, Int.one_mul, Int.mul_assoc, Int.mul_comm n y]
  omega

end Go.Proofs.Ytiolhdilfjomcaa
