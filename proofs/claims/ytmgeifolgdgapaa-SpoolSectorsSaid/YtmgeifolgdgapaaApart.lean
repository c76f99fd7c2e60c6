
/- Which blocks a call may have turned; a block that is known whole, as a function of its cells' places; cells in the middle of a block. No program's functions. -/
import Derived.Test.YtmgeifolgdgapaaBytes
import Derived.Deep.MidRow
namespace Go.Proofs.Ytmgeifolgdgapaa
open Go.RowKit

/-- Of the blocks that were there only those that F names may have turned. -/
structure Apart (F : Nat → Prop) (w w' : World) : Prop where
  os : w'.os = w.os
  tape : w'.tape = w.tape
  output : w'.output = w.output
  size : w.heap.size ≤ w'.heap.size
  block : ∀ k, k < w.heap.size → ¬ F k → w'.heap[k]? = w.heap[k]?

theorem Apart.refl (F : Nat → Prop) (w : World) : Apart F w w := ⟨rfl, rfl, rfl, Nat.le_refl _, fun _ _ _ => rfl⟩
theorem Apart.trans {F G : Nat → Prop} {a b c : World} (h : Apart F a b) (k : Apart G b c) (hg : ∀ i, i < a.heap.size → G i → F i) : Apart F a c :=
  ⟨k.os.trans h.os, k.tape.trans h.tape, k.output.trans h.output, Nat.le_trans h.size k.size, fun i hi hf => (k.block i (Nat.lt_of_lt_of_le hi h.size) fun e => hf (hg i hi e)).trans (h.block i hi hf)⟩
theorem Apart.mono {F G : Nat → Prop} {a b : World} (h : Apart F a b) (hg : ∀ i, i < a.heap.size → F i → G i) : Apart G a b :=
  ⟨h.os, h.tape, h.output, h.size, fun i hi hf => h.block i hi fun e => hf (hg i hi e)⟩
theorem Apart.of_below {F : Nat → Prop} {w w' : World} (h : Below w.heap.size w w') : Apart F w w' :=
  ⟨h.os, h.tape, h.output, h.size, fun k hk _ => h.block k hk⟩
theorem Apart.below {F : Nat → Prop} {B : Nat} {w w' : World} (h : Apart F w w') (hB : B ≤ w.heap.size) (hf : ∀ k, k < B → ¬ F k) : Below B w w' :=
  ⟨h.os, h.tape, h.output, h.size, fun k hk => h.block k (by omega) (hf k hk)⟩
theorem Apart.setCell {F : Nat → Prop} {a w : World} (h : Apart F a w) {p : Addr} (hp : p.block < a.heap.size → F p.block) (u : Value) : Apart F a (w.setCell p u) :=
  h.trans (G := fun k => k = p.block) ⟨rfl, rfl, rfl, by simp [World.setCell], fun k _ hk => Below.heap_setCell _ _ _ _ hk⟩ (fun i hi e => by subst e; exact hp hi)
theorem Apart.alloc {F : Nat → Prop} {a w : World} (h : Apart F a w) (o : Obj) : Apart F a (w.alloc o) :=
  h.trans (G := fun _ => False) (Apart.of_below ((Below.refl _ _).alloc (Nat.le_refl _) o)) (fun _ _ e => e.elim)
theorem Apart.drewN {F : Nat → Prop} {a w : World} (h : Apart F a w) (n : Nat) : Apart F a (w.drewN n) := ⟨h.os, h.tape, h.output, h.size, h.block⟩
theorem Apart.drew {F : Nat → Prop} {a w : World} (h : Apart F a w) : Apart F a w.drew := ⟨h.os, h.tape, h.output, h.size, h.block⟩
theorem Apart.then_ {F : Nat → Prop} {a b c : World} (h : Apart F a b) (k : Below b.heap.size b c) : Apart F a c :=
  h.trans (Apart.of_below (F := F) k) (fun _ _ e => e)
theorem apart_set (w : World) (g i : Nat) (v : Value) : Apart (fun k => k = g) w (w.setCell ⟨g, i, none⟩ v) := (Apart.refl (fun k => k = g) w).setCell (p := ⟨g, i, none⟩) (fun _ => rfl) v
theorem apart_setCells (b : Nat) : ∀ (vs : List Value) (o : Nat) (w : World), Apart (fun k => k = b) w (w.setCells b o vs)
  | [], _, w => Apart.refl _ w
  | v :: r, o, w => by
    rw [World.setCells]
    exact Apart.trans (F := fun k => k = b) (G := fun k => k = b) ((Apart.refl (fun k => k = b) w).setCell (p := ⟨b, o, none⟩) (fun _ => rfl) v) (apart_setCells b r (o + 1) _) fun _ _ e => e

theorem setCells_size (b : Nat) : ∀ (vs : List Value) (o : Nat) (w : World), (w.setCells b o vs).heap.size = w.heap.size
  | [], _, _ => rfl
  | v :: r, o, w => by rw [World.setCells, setCells_size b r (o + 1)]; simp [World.setCell]

/-- Block g is just these n cells, and may be written. -/
def RowIs (w : World) (g : Nat) (T : TypeId) (C : Nat → Value) (n : Nat) : Prop := w.heap[g]? = some (.cells ((List.range n).map C).toArray T (0, 0))

theorem RowIs.lt {w : World} {g n : Nat} {T : TypeId} {C : Nat → Value} (h : RowIs w g T C n) : g < w.heap.size := (Array.getElem?_eq_some_iff.1 h).1
theorem RowIs.cell {w : World} {g n i : Nat} {T : TypeId} {C : Nat → Value} (h : RowIs w g T C n) (hi : i < n) : w.cell? ⟨g, i, none⟩ = some (C i) := by
  rw [cell_of_row w g i _ _ _ h, List.getElem?_toArray]
  simp [List.getElem?_range hi]
theorem RowIs.free {w : World} {g n : Nat} {T : TypeId} {C : Nat → Value} (h : RowIs w g T C n) (i : Nat) : w.frozen? ⟨g, i, none⟩ = false := by
  unfold RowIs at h
  simp [World.frozen?, h]
theorem RowIs.apart {w w' : World} {g n : Nat} {T : TypeId} {C : Nat → Value} {F : Nat → Prop} (h : RowIs w g T C n) (hb : Apart F w w') (hf : ¬ F g) : RowIs w' g T C n := (hb.block g h.lt hf).trans h
theorem RowIs.below {w w' : World} {g n : Nat} {T : TypeId} {C : Nat → Value} (h : RowIs w g T C n) (hb : Below w.heap.size w w') : RowIs w' g T C n := (hb.block g h.lt).trans h
theorem RowIs.congr {w : World} {g n : Nat} {T : TypeId} {C C' : Nat → Value} (h : RowIs w g T C n) (he : ∀ i, i < n → C i = C' i) : RowIs w g T C' n := by
  unfold RowIs at h ⊢
  rw [h]
  congr 3
  exact List.map_congr_left fun i hi => he i (List.mem_range.1 hi)
theorem RowIs.set_ {w : World} {g n k : Nat} {T : TypeId} {C C' : Nat → Value} {v : Value} (h : RowIs w g T C n) (hv : k < n → v = C' k) (he : ∀ i, i < n → i ≠ k → C i = C' i) : RowIs (w.setCell ⟨g, k, none⟩ v) g T C' n := by
  unfold RowIs at h ⊢
  rw [heap_setCell_same w g k _ T v h]
  congr 2
  apply Array.ext'
  rw [Array.toList_setIfInBounds]
  apply List.ext_getElem?
  intro i
  rw [List.getElem?_set]
  by_cases hi : i < n
  · by_cases hk : k = i
    · subst hk
      rw [if_pos rfl, if_pos (by simpa using hi), hv hi]
      simp [List.getElem?_range hi]
    · rw [if_neg hk]
      simp [List.getElem?_range hi, he i hi (Ne.symm hk)]
  · have e1 : (List.map C' (List.range n))[i]? = none := List.getElem?_eq_none (by simp; omega)
    have e2 : (List.map C (List.range n))[i]? = none := List.getElem?_eq_none (by simp; omega)
    show _ = (List.map C' (List.range n))[i]?
    rw [e1]
    show (if k = i then (if k < (List.map C (List.range n)).length then some v else none) else (List.map C (List.range n))[i]?) = none
    rw [e2]
    split
    · rw [if_neg (by simp; omega)]
    · rfl
/-- Cells o to o + vs.length are written. -/
def over (C : Nat → Value) (o : Nat) (vs : List Value) (i : Nat) : Value := if o ≤ i ∧ i < o + vs.length then vs.getD (i - o) (C i) else C i
theorem RowIs.sets {g n : Nat} {T : TypeId} : ∀ (vs : List Value) (o : Nat) {w : World} {C : Nat → Value}, RowIs w g T C n → RowIs (w.setCells g o vs) g T (over C o vs) n
  | [], o, w, C, h => h.congr fun i _ => by unfold over; rw [if_neg (by simp only [List.length_nil]; omega)]
  | v :: r, o, w, C, h => by
    rw [World.setCells]
    refine (RowIs.sets r (o + 1) (h.set_ (C' := fun i => if i = o then v else C i) (fun _ => by simp) (fun i _ hi => by simp [hi]))).congr fun i _ => ?_
    unfold over
    by_cases h1 : i = o
    · subst h1
      rw [if_neg (by omega), if_pos (by simp)]
      simp
    · by_cases h2 : o + 1 ≤ i ∧ i < o + 1 + r.length
      · obtain ⟨k, rfl⟩ : ∃ k, i = o + 1 + k := ⟨i - (o + 1), by omega⟩
        rw [if_pos h2, if_pos (by simp; omega)]
        have e : o + 1 + k - o = k + 1 := by omega
        rw [e, show o + 1 + k - (o + 1) = k by omega]
        simp [h1]
      · rw [if_neg h2, if_neg (by simp; omega)]
        simp [h1]
theorem RowIs.range {w : World} {g n o : Nat} {T : TypeId} {C : Nat → Value} {cs : List Value} (h : RowIs w g T C n) (ho : o + cs.length ≤ n) (hc : ∀ j, j < cs.length → cs[j]? = some (C (o + j))) : w.rangeAt g o cs := fun j v hv => by
  have hj := (List.getElem?_eq_some_iff.1 hv).1
  rw [h.cell (by omega), ← hc j hj, hv]
theorem RowIs.there {w : World} {g n o m : Nat} {T : TypeId} {C : Nat → Value} (h : RowIs w g T C n) (ho : o + m ≤ n) : w.there g o m := fun j hj => ⟨by rw [h.cell (by omega)]; rfl, h.free _⟩
theorem row_new (w : World) (T : TypeId) (C : Nat → Value) (n : Nat) (cs : List Value) (hl : cs.length = n) (hc : ∀ i, i < n → cs[i]? = some (C i)) : RowIs (w.alloc (.cells cs.toArray T)) w.heap.size T C n := by
  unfold RowIs
  rw [heap_alloc_new]
  congr 3
  apply List.ext_getElem?
  intro i
  by_cases hi : i < n
  · rw [hc i hi]; simp [List.getElem?_range hi]
  · rw [List.getElem?_eq_none (by omega), List.getElem?_eq_none (by simp; omega)]
end Go.Proofs.Ytmgeifolgdgapaa
