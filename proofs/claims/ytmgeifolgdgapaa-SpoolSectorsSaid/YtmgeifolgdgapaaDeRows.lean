
/- Rows of deltas of the call's own: one more; read. -/
import Derived.Test.YtmgeifolgdgapaaDeEncodeR
import Derived.Maps.AppendAt
namespace Go.Proofs.Ytmgeifolgdgapaa
open Go.RowKit

theorem delta_info : (Try.prog.info? 52).map (fun i => (i.zero, i.size, i.bytes)) = some (some noDel, 5, 48) := by kernel_rfl
/-- The cells of the first n deltas. -/
def dcells (ds : Nat → Del) (n : Nat) : List Value := (List.range n).flatMap fun i => (ds i).cells
theorem dcells_next (ds : Nat → Del) (n : Nat) : dcells ds n ++ (ds n).cells = dcells ds (n + 1) := by
  unfold dcells
  rw [List.range_succ, List.flatMap_append]
  simp
theorem dcells_congr {ds es : Nat → Del} {n : Nat} (h : ∀ i, i < n → ds i = es i) : dcells ds n = dcells es n := by
  induction n with
  | zero => rfl
  | succ n ih => rw [← dcells_next, ← dcells_next, ih fun i hi => h i (by omega), h n (by omega)]
theorem dcells_length (ds : Nat → Del) (n : Nat) : (dcells ds n).length = n * 5 := by
  induction n with
  | zero => rfl
  | succ n ih => rw [← dcells_next, List.length_append, ih]; show n * 5 + 5 = _; omega
theorem dcells_at (ds : Nat → Del) {n i j : Nat} (hi : i < n) (hj : j < 5) : (dcells ds n)[i * 5 + j]? = (ds i).cells[j]? := by
  induction n with
  | zero => omega
  | succ n ih =>
    rw [← dcells_next]
    by_cases h : i < n
    · rw [List.getElem?_append_left (by rw [dcells_length]; omega)]
      exact ih h
    · obtain rfl : i = n := by omega
      rw [List.getElem?_append_right (by rw [dcells_length]; omega), dcells_length, Nat.add_sub_cancel_left]

/-- A row of the call's own, of just these deltas. -/
def OwnD (w : World) (base : Nat) (v : Value) (n : Nat) (ds : Nat → Del) : Prop := w.ownsRow base 52 5 v n (dcells ds n)
theorem ownD_none (w : World) (base : Nat) (ds : Nat → Del) : OwnD w base (.slice none 0 0) 0 ds := World.ownsRow_nil _ _ _ _
theorem OwnD.below_ {w w' : World} {base n : Nat} {v : Value} {ds : Nat → Del} (h : OwnD w base v n ds) (hb : Below w.heap.size w w') : OwnD w' base v n ds := owns_later h hb
theorem OwnD.congr {w : World} {base n : Nat} {v : Value} {ds es : Nat → Del} (h : OwnD w base v n ds) (he : ∀ i, i < n → ds i = es i) : OwnD w base v n es := by
  unfold OwnD at h ⊢
  rw [← dcells_congr he]
  exact h
theorem OwnD.shape {w : World} {base n : Nat} {v : Value} {ds : Nat → Del} (h : OwnD w base v n ds) : ∃ A c, v = .slice A n c := by
  rcases h.2 with ⟨rfl, rfl⟩ | ⟨b, cap, cur, rfl, _⟩ <;> exact ⟨_, _, rfl⟩
theorem OwnD.own {w : World} {base n k : Nat} {v : Value} {ds : Nat → Del} (h : OwnD w base v n ds) (hk : v.ownBlock = some k) : base ≤ k ∧ k < w.heap.size := World.ownsRow.lt h k hk

/-- Deltas that are read: delta i lies in five cells. -/
def ReadsD (w : World) (v : Value) (n : Nat) (ds : Nat → Del) : Prop :=
  ∃ A c, v = .slice A n c ∧ n ≤ c ∧ c ≤ 9223372036854775807 ∧ (A = none → c = 0) ∧ ∀ i, i < n → ∃ ad, A = some ad ∧ ∀ j, j < 5 → ∀ x, (ds i).cells[j]? = some x → w.cell? (ad.add (i * 5 + j)) = some x
theorem ReadsD.below {w w' : World} {v : Value} {n : Nat} {ds : Nat → Del} (h : ReadsD w v n ds) (hb : Below w.heap.size w w') : ReadsD w' v n ds := by
  obtain ⟨A, c, e, h1, h2, h3, hs⟩ := h
  exact ⟨A, c, e, h1, h2, h3, fun i hi => by obtain ⟨ad, e1, hc⟩ := hs i hi; exact ⟨ad, e1, fun j hj x hx => cell_later hb (hc j hj x hx)⟩⟩
theorem OwnD.reads {w : World} {base n : Nat} {v : Value} {ds : Nat → Del} (h : OwnD w base v n ds) : ReadsD w v n ds := by
  have h0 := h
  rcases h.2 with ⟨rfl, rfl⟩ | ⟨g, cap, cur, rfl, _, hg, hnc, hm, _⟩
  · exact ⟨none, 0, rfl, Nat.le_refl _, by omega, fun _ => rfl, fun i hi => absurd hi (Nat.not_lt_zero i)⟩
  · exact ⟨_, cap, rfl, hnc, by unfold maxLen at hm; omega, (by intro e; cases e), fun i hi => ⟨_, rfl, fun j hj x hx => World.ownsRow.cells h0 (g := g) rfl (i * 5 + j) x (by rw [dcells_at ds hi hj]; exact hx)⟩⟩

theorem Del.cells_one (d : Del) : ∀ x ∈ d.cells, x.oneCell' = true := by
  intro x hx
  unfold Del.cells at hx
  simp at hx
  rcases hx with rfl | rfl | rfl | rfl | rfl <;> rfl
/-- One delta more. -/
theorem run_del {w : World} {base n : Nat} {v : Value} {ds : Nat → Del} (ty : TypeId) (h : OwnD w base v n ds) (hm : (n + 1) * 48 ≤ 140737488355328) (hb : base ≤ w.heap.size) :
    ∃ v' w', (Builtin.append_ #[32, 32] ty #[v, .slice (some ⟨w.heap.size, 0, none⟩) 1 1]).run Try.prog (w.alloc (.cells (ds n).cells.toArray 52)) = .ok v' w' ∧ OwnD w' base v' (n + 1) ds ∧
      (w.alloc (.cells (ds n).cells.toArray 52)).grownBy w' v.ownBlock := by
  obtain ⟨i0, hi, hz0, hz1, hz2⟩ := info_parts delta_info
  have h3 := World.ownsRow.alloc h (.cells (ds n).cells.toArray 52)
  obtain ⟨v', w', r1, r2, r3, r4⟩ := run_append_own (P := Try.prog) (w.alloc (.cells (ds n).cells.toArray 52)) base 32 ty 52 i0 _ 5 48 Try.underlying32 hi hz0 hz1 hz2 rfl (by decide) v n _ h3 ⟨w.heap.size, 0, none⟩ 1 1 (ds n).cells rfl
    (fun j x hj => by
      rw [add_nil, World.cell?_alloc_mark]
      rw [List.getElem?_toArray]
      exact hj) (Del.cells_one _) (by unfold maxLen; omega) (by omega) (by simp; omega)
  rw [dcells_next] at r2
  exact ⟨v', w', r1, r2, r3⟩
end Go.Proofs.Ytmgeifolgdgapaa
