
/- Sectors of deltas, as functions of their bytes' places, and the deltas of sectors that follow one another: pure. -/
import Derived.Test.YtmgeifolgdgapaaMerge6
import Derived.Test.YtmgeifolgdgapaaMerge5
import Derived.Test.YtmgeifolgdgapaaCellMath
namespace Go.Proofs.Ytmgeifolgdgapaa
open Go.RowKit

/-- Two bytes. -/
def duo (a b : Nat) (i : Nat) : Nat := if i = 0 then a else b
/-- The bytes of deltas, one behind the other. -/
def encs (ds : Nat → Del) (j : Nat) : Nat := encD (ds (j / 5)) (j % 5)
/-- What a sector of deltas has ahead of its sum. -/
def spB (q m n : Nat) (ds : Nat → Del) : Nat → Nat := behind (behind (dig q 4) 4 (duo m n)) 6 (encs ds)
def spS (q m n : Nat) (ds : Nat → Del) : Nat → Nat := sec (spB q m n ds) (6 + 5 * n)
/-- Delta i of a sector. -/
def sdel (f : Nat → Nat) (i : Nat) : Del := delOf fun j => f (6 + 5 * i + j)
/-- A sector of deltas with this seq and this number. -/
def IsSp (f : Nat → Nat) (q m : Nat) : Prop := 1 ≤ f 5 ∧ f 5 ≤ 6 ∧ (∀ i, i < f 5 → Valid (sdel f i)) ∧ ∀ j, j < 64 → f j = spS q m (f 5) (sdel f) j

theorem encD_lt {d : Del} (h : Valid d) (i : Nat) : encD d i < 256 := by
  have := valid_small h
  unfold encD
  split
  · omega
  · split
    · omega
    · split
      · omega
      · split <;> omega
theorem delOf_encD {d : Del} (h : Valid d) : delOf (encD d) = d := by
  have := valid_small h
  obtain ⟨k, v, o, n, a, b⟩ := d
  dsimp only at this
  show (⟨k, (16 * v + o) / 16, (16 * v + o) % 16, n, a, b⟩ : Del) = _
  rw [show (16 * v + o) / 16 = v by omega, show (16 * v + o) % 16 = o by omega]
theorem delOf_congr {f g : Nat → Nat} (h : ∀ j, j < 5 → f j = g j) : delOf f = delOf g := by
  unfold delOf
  rw [h 0 (by omega), h 1 (by omega), h 2 (by omega), h 3 (by omega), h 4 (by omega)]
theorem encs_lt {n : Nat} {ds : Nat → Del} (h : ∀ i, i < n → Valid (ds i)) {j : Nat} (hj : j < 5 * n) : encs ds j < 256 := encD_lt (h _ (by omega)) _
theorem encs_at (ds : Nat → Del) {i j : Nat} (hj : j < 5) : encs ds (5 * i + j) = encD (ds i) j := by
  unfold encs
  rw [show (5 * i + j) / 5 = i by omega, show (5 * i + j) % 5 = j by omega]
theorem encs_congr {n : Nat} {ds es : Nat → Del} (h : ∀ i, i < n → ds i = es i) {j : Nat} (hj : j < 5 * n) : encs ds j = encs es j := by
  unfold encs
  rw [h _ (by omega)]
theorem spB_lt {q m n : Nat} {ds : Nat → Del} (hm : m < 256) (hn : n < 256) (h : ∀ i, i < n → Valid (ds i)) (i : Nat) (hi : i < 6 + 5 * n) : spB q m n ds i < 256 :=
  behind_lt (fun i hi => behind_lt (n := 4) (m := 2) (fun i _ => dig_lt _ _ _) (fun i _ => by unfold duo; split <;> assumption) i hi) (fun i hi => encs_lt h hi) i hi
theorem spB_congr {q m n : Nat} {ds es : Nat → Del} (h : ∀ i, i < n → ds i = es i) {i : Nat} (hi : i < 6 + 5 * n) : spB q m n ds i = spB q m n es i := by
  unfold spB
  by_cases h6 : i < 6
  · rw [behind_low h6, behind_low h6]
  · rw [behind_high (by omega), behind_high (by omega), encs_congr h (by omega)]
theorem spS_congr {q m n : Nat} {ds es : Nat → Del} (h : ∀ i, i < n → ds i = es i) (j : Nat) : spS q m n ds j = spS q m n es j :=
  sec_congr (fun i _ => by
    unfold pad
    split
    · exact spB_congr h (by assumption)
    · rfl) j
theorem spS_lt {q m n : Nat} {ds : Nat → Del} (hm : m < 256) (hn : n < 256) (h : ∀ i, i < n → Valid (ds i)) (j : Nat) : spS q m n ds j < 256 := sec_lt (spB_lt hm hn h) j
theorem spS_low {q m n : Nat} {ds : Nat → Del} (hn : n ≤ 10) {i : Nat} (hi : i < 6 + 5 * n) : spS q m n ds i = spB q m n ds i := by
  unfold spS
  rw [sec_low (by omega)]
  unfold pad
  rw [if_pos hi]
theorem spS_count {q m n : Nat} {ds : Nat → Del} (hn : n ≤ 10) : spS q m n ds 5 = n := by
  rw [spS_low hn (by omega)]
  rfl
theorem spS_del {q m n : Nat} {ds : Nat → Del} (hn : n ≤ 10) (h : ∀ i, i < n → Valid (ds i)) {i : Nat} (hi : i < n) : sdel (spS q m n ds) i = ds i := by
  rw [← delOf_encD (h i hi)]
  refine delOf_congr fun j hj => ?_
  rw [spS_low hn (by omega)]
  unfold spB
  rw [behind_high (by omega), ← encs_at ds hj]
  congr 1
  omega
/-- What was made of deltas is a sector of deltas. -/
theorem spS_is {q m n : Nat} {ds : Nat → Del} (h1 : 1 ≤ n) (hn : n ≤ 6) (h : ∀ i, i < n → Valid (ds i)) : IsSp (spS q m n ds) q m := by
  have hc : spS q m n ds 5 = n := spS_count (by omega)
  refine ⟨by omega, by omega, fun i hi => ?_, fun j _ => ?_⟩
  · rw [hc] at hi
    rw [spS_del (by omega) h hi]
    exact h i hi
  · rw [hc]
    exact spS_congr (fun i hi => (spS_del (by omega) h hi).symm) j
theorem IsSp.sealed {f : Nat → Nat} {q m : Nat} (h : IsSp f q m) : Sealed 64 f := by
  refine ⟨rfl, fun i hi => ?_⟩
  rw [h.2.2.2 (60 + i) (by omega), crc_congr (g := spS q m (f 5) (sdel f)) fun j hj => h.2.2.2 j (by omega)]
  exact sec_sealed _ _ i
theorem IsSp.congr {f g : Nat → Nat} {q m : Nat} (h : IsSp f q m) (he : ∀ j, j < 64 → f j = g j) : IsSp g q m := by
  have e5 := he 5 (by omega)
  have ed : ∀ i, i < f 5 → sdel f i = sdel g i := fun i hi => delOf_congr fun j hj => he _ (by have := h.2.1; omega)
  refine ⟨by have := h.1; omega, by have := h.2.1; omega, fun i hi => ?_, fun j hj => ?_⟩
  · rw [← e5] at hi
    rw [← ed i hi]
    exact h.2.2.1 i hi
  · rw [← he j hj, h.2.2.2 j hj, ← e5]
    exact spS_congr ed j

/-- How many deltas the first n sectors have. -/
def spC (F : Nat → Nat → Nat) : Nat → Nat
  | 0 => 0
  | n + 1 => spC F n + F n 5
/-- These, one behind the other. -/
def spD (F : Nat → Nat → Nat) : Nat → Nat → Del
  | 0, _ => ⟨0, 0, 0, 0, 0, 0⟩
  | n + 1, i => if i < spC F n then spD F n i else sdel (F n) (i - spC F n)
def Led (F : Nat → Nat → Nat) (q n : Nat) : Prop := ∀ i, i < n → IsSp (F i) q i
/-- The sectors that are read: n, of sixteen at most. -/
def Till (F : Nat → Nat → Nat) (q n : Nat) : Prop := Led F q n ∧ n ≤ 16 ∧ (n < 16 → ¬ IsSp (F n) q n)
theorem Till.one {F : Nat → Nat → Nat} {q n m : Nat} (h : Till F q n) (k : Till F q m) : n = m := by
  rcases Nat.lt_trichotomy n m with hl | he | hl
  · exact absurd (k.1 n hl) (h.2.2 (by have := k.2.1; omega))
  · exact he
  · exact absurd (h.1 m hl) (k.2.2 (by have := h.2.1; omega))
theorem spC_le {F : Nat → Nat → Nat} {q : Nat} : ∀ {n : Nat}, Led F q n → spC F n ≤ 6 * n
  | 0, _ => Nat.le_refl _
  | n + 1, h => by
    have h1 := spC_le (n := n) fun i hi => h i (by omega)
    have h2 := (h n (by omega)).2.1
    show spC F n + F n 5 ≤ _
    omega
theorem spD_valid {F : Nat → Nat → Nat} {q : Nat} : ∀ {n : Nat}, Led F q n → ∀ i, i < spC F n → Valid (spD F n i)
  | 0, _, i, hi => absurd hi (Nat.not_lt_zero i)
  | n + 1, h, i, hi => by
    have hi' : i < spC F n + F n 5 := hi
    show Valid (if i < spC F n then spD F n i else sdel (F n) (i - spC F n))
    split
    · exact spD_valid (fun i hi => h i (by omega)) i (by assumption)
    · exact (h n (by omega)).2.2.1 _ (by omega)
end Go.Proofs.Ytmgeifolgdgapaa
