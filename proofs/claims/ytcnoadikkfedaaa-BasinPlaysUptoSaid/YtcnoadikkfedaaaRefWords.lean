/- The document's own device, and how it lies in memory. -/
import Derived.Test.YtcnoadikkfedaaaBasinOne
namespace Go.Proofs.Ytcnoadikkfedaaa
open Go.RowKit

def text64 (f : Nat → Nat) : Value := .string (str f 64)
def rcells (s : Nat → Nat → Nat) (n : Nat) : List Value := (List.range n).map fun i => text64 (s i)
def rwcells (x : Wr) : List Value := [.int .i64 (x.at_ : Int), text64 x.data]
def rlcells (l : List Wr) : List Value := l.flatMap rwcells
theorem rcells_length (s : Nat → Nat → Nat) (n : Nat) : (rcells s n).length = n := by simp [rcells]
theorem rcells_at (s : Nat → Nat → Nat) {n i : Nat} (h : i < n) : (rcells s n)[i]? = some (text64 (s i)) := by simp [rcells, List.getElem?_range h]
theorem rcells_set (s : Nat → Nat → Nat) (x : Wr) {n : Nat} : (rcells s n).set x.at_ (text64 x.data) = rcells (lay s x) n := by
  apply List.ext_getElem?
  intro i
  rw [List.getElem?_set]
  by_cases hi : i < n
  · rw [rcells_at (lay s x) hi, rcells_at s hi, rcells_length]
    unfold lay
    by_cases e : x.at_ = i
    · rw [if_pos e, if_pos (by omega), if_pos e.symm]
    · rw [if_neg e, if_neg (fun h => e h.symm)]
  · rw [List.getElem?_eq_none (by rw [rcells_length]; omega), List.getElem?_eq_none (by rw [rcells_length]; omega)]
    split
    · rw [if_neg (by rw [rcells_length]; omega)]
    · rfl
theorem rlcells_length (l : List Wr) : (rlcells l).length = l.length * 2 := by
  unfold rlcells
  induction l with
  | nil => rfl
  | cons x r ih => rw [List.flatMap_cons, List.length_append, ih, List.length_cons]; show 2 + _ = _; omega
theorem rlcells_at (l : List Wr) : ∀ {i j : Nat} (_ : i < l.length) (_ : j < 2), (rlcells l)[i * 2 + j]? = (rwcells (l[i]'(by assumption)))[j]? := by
  unfold rlcells
  induction l with
  | nil => intro i j hi _; simp at hi
  | cons x r ih =>
    intro i j hi hj
    rw [List.flatMap_cons]
    cases i with
    | zero =>
      rw [List.getElem?_append_left (by show _ < 2; omega)]
      simp
    | succ i =>
      rw [List.getElem?_append_right (by show 2 ≤ _; omega)]
      have e : (i + 1) * 2 + j - (rwcells x).length = i * 2 + j := by show (i + 1) * 2 + j - 2 = _; omega
      rw [e, ih (by simpa using hi) hj]
      rfl
theorem rlcells_snoc (l : List Wr) (x : Wr) : rlcells (l ++ [x]) = rlcells l ++ rwcells x := by simp [rlcells]

structure IsRef (w : World) (B g : Nat) (S L : Value) (y : Int) (D : Dev) : Prop where
  head : w.heap[g]? = some (.cells #[S, L, .int .i64 y, .bool D.off] 47 (0, 0))
  sure : w.ownsRow B 9 1 S D.size (rcells D.sure D.size)
  own : w.ownsRow B 71 2 L D.loose.length (rlcells D.loose)
  bg : B ≤ g
  ns : S.ownBlock ≠ some g
  nl : L.ownBlock ≠ some g
  sl : ∀ k, S.ownBlock = some k → L.ownBlock ≠ some k
  size : 1 ≤ D.size ∧ D.size ≤ 424
  loose : ∀ x ∈ D.loose, x.at_ < D.size
  left : (D.limited = true → y = D.left ∧ 0 ≤ y) ∧ (D.limited = false → y < 0) ∧ -9223372036854775808 ≤ y ∧ y ≤ 9223372036854775807

def rfoot (g : Nat) (S L : Value) (k : Nat) : Prop := k = g ∨ S.ownBlock = some k ∨ L.ownBlock = some k

theorem owns_apart {w w' : World} {base : Nat} {e : TypeId} {size : Nat} {v : Value} {n : Nat} {xs : List Value} {F : Nat → Prop} (h : w.ownsRow base e size v n xs) (a : Apart F w w') (hf : ∀ k, v.ownBlock = some k → ¬ F k) : w'.ownsRow base e size v n xs := by
  refine ⟨h.1, ?_⟩
  rcases h.2 with h2 | ⟨k, cap, cur, e, hb0, hg, rest⟩
  · exact .inl h2
  · exact .inr ⟨k, cap, cur, e, hb0, (a.block k (Array.getElem?_eq_some_iff.1 hg).1 (hf k (by rw [e]; rfl))).trans hg, rest⟩

theorem IsRef.apart {w w' : World} {B g : Nat} {S L : Value} {y : Int} {D : Dev} {F : Nat → Prop} (d : IsRef w B g S L y D) (a : Apart F w w') (hf : ∀ k, rfoot g S L k → ¬ F k) : IsRef w' B g S L y D where
  head := (a.block g (Array.getElem?_eq_some_iff.1 d.head).1 (hf g (.inl rfl))).trans d.head
  sure := owns_apart d.sure a fun k e => hf k (.inr (.inl e))
  own := owns_apart d.own a fun k e => hf k (.inr (.inr e))
  bg := d.bg
  ns := d.ns
  nl := d.nl
  sl := d.sl
  size := d.size
  loose := d.loose
  left := d.left
theorem IsRef.below {w w' : World} {B g : Nat} {S L : Value} {y : Int} {D : Dev} (d : IsRef w B g S L y D) (b : Below w.heap.size w w') : IsRef w' B g S L y D :=
  d.apart (Apart.of_below (F := fun _ => False) b) (fun _ _ e => e)
theorem IsRef.lt {w : World} {B g : Nat} {S L : Value} {y : Int} {D : Dev} (d : IsRef w B g S L y D) : ∀ k, rfoot g S L k → B ≤ k ∧ k < w.heap.size := by
  intro k hk
  rcases hk with rfl | hk | hk
  · exact ⟨d.bg, (Array.getElem?_eq_some_iff.1 d.head).1⟩
  · exact d.sure.lt k hk
  · exact d.own.lt k hk
theorem IsRef.cells {w : World} {B g : Nat} {S L : Value} {y : Int} {D : Dev} (d : IsRef w B g S L y D) :
    w.cell? ⟨g, 0, none⟩ = some S ∧ w.cell? ⟨g, 1, none⟩ = some L ∧ w.cell? ⟨g, 2, none⟩ = some (.int .i64 y) ∧ w.cell? ⟨g, 3, none⟩ = some (.bool D.off) ∧ ∀ i, w.frozen? ⟨g, i, none⟩ = false := by
  refine ⟨?_, ?_, ?_, ?_, fun i => frozen_of_row w g i _ _ d.head⟩ <;> rw [cell_of_row w g _ _ _ _ d.head] <;> rfl
theorem own_slice {w : World} {base : Nat} {e : TypeId} {size : Nat} {v : Value} {n : Nat} {xs : List Value} (h : w.ownsRow base e size v n xs) :
    ∃ A cap, v = .slice A n cap ∧ n ≤ cap ∧ cap ≤ 9223372036854775807 ∧ (0 < n → ∃ k, A = some ⟨k, 0, none⟩ ∧ k < w.heap.size) := by
  rcases h.2 with ⟨rfl, h0⟩ | ⟨k, cap, cur, rfl, _, hg, hnc, hm, _⟩
  · exact ⟨none, 0, by rw [h0], by omega, by omega, fun hp => by omega⟩
  · exact ⟨_, cap, rfl, hnc, by unfold maxLen at hm; omega, fun _ => ⟨k, rfl, (Array.getElem?_eq_some_iff.1 hg).1⟩⟩
theorem own_cell {w : World} {base : Nat} {e : TypeId} {size : Nat} {n k cap i : Nat} {xs : List Value} {u : Value} (h : w.ownsRow base e size (.slice (some ⟨k, 0, none⟩) n cap) n xs) (hi : xs[i]? = some u) : w.cell? ⟨k, i, none⟩ = some u := by
  have := World.ownsRow.cells h (g := k) rfl i u hi
  rwa [add_nil] at this
theorem own_free {w : World} {base : Nat} {e : TypeId} {size : Nat} {n k cap : Nat} {xs : List Value} (h : w.ownsRow base e size (.slice (some ⟨k, 0, none⟩) n cap) n xs) (i : Nat) : w.frozen? ⟨k, i, none⟩ = false := by
  rcases h.2 with ⟨h2, _⟩ | ⟨g, c, cur, e, _, hg, _⟩
  · cases h2
  · have : g = k := by injection e with e1; injection e1 with e2; injection e2 with e3; exact e3.symm
    subst this
    exact frozen_of_row _ _ _ _ _ hg
theorem owns_set {w : World} {base : Nat} {e : TypeId} {n k cap i : Nat} {xs : List Value} {u : Value} (h : w.ownsRow base e 1 (.slice (some ⟨k, 0, none⟩) n cap) n xs) : (w.setCell ⟨k, i, none⟩ u).ownsRow base e 1 (.slice (some ⟨k, 0, none⟩) n cap) n (xs.set i u) := by
  refine ⟨by rw [List.length_set]; exact h.1, ?_⟩
  rcases h.2 with ⟨h2, _⟩ | ⟨g, c, cur, e, hb0, hg, hnc, hm, hsz, ht⟩
  · cases h2
  · have : g = k := by injection e with e1; injection e1 with e2; injection e2 with e3; exact e3.symm
    subst this
    refine .inr ⟨g, c, cur.setIfInBounds i u, e, hb0, heap_setCell_same w g i cur _ u hg, hnc, hm, by simpa using hsz, ?_⟩
    rw [← ht, Array.toList_setIfInBounds, List.take_set]
end Go.Proofs.Ytcnoadikkfedaaa
