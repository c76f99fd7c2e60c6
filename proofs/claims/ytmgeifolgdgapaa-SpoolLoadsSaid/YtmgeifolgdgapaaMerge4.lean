/- Which blocks a call may have turned; a block that is known whole, as a function of its cells' places; cells in the middle of a block. No program's functions. A device: what it is, by its words, and how it lies in memory. -/
import Derived.Test.YtmgeifolgdgapaaMerge3
import Derived.Deep.MidRow
namespace Go.Proofs.Ytmgeifolgdgapaa
open Go.RowKit

/-- Of the blocks that were there only those that F names may have turned. -/
structure Apart (F : Nat → Prop) (w w' : World) : Prop where
  os : w'.os = w.os
  tape : w'.tape = w.tape
  output : w'.output = w.output
  size : w.heap.size ≤ w'.heap.size
  block : ∀ k, k < w.heap.size → ¬ F k → w'.heap[k]? = w.heap[k]?

theorem Apart.refl (F : Nat → Prop) (w : World) : Apart F w w := ⟨rfl, rfl, rfl, Nat.le_refl _, fun _ _ _ => rfl⟩
theorem Apart.trans {F G : Nat → Prop} {a b c : World} (h : Apart F a b) (k : Apart G b c) (hg : ∀ i, i < a.heap.size → G i → F i) : Apart F a c :=
  ⟨k.os.trans h.os, k.tape.trans h.tape, k.output.trans h.output, Nat.le_trans h.size k.size, fun i hi hf => (k.block i (Nat.lt_of_lt_of_le hi h.size) fun e => hf (hg i hi e)).trans (h.block i hi hf)⟩
theorem Apart.mono {F G : Nat → Prop} {a b : World} (h : Apart F a b) (hg : ∀ i, i < a.heap.size → F i → G i) : Apart G a b :=
  ⟨h.os, h.tape, h.output, h.size, fun i hi hf => h.block i hi fun e => hf (hg i hi e)⟩
theorem Apart.of_below {F : Nat → Prop} {w w' : World} (h : Below w.heap.size w w') : Apart F w w' :=
  ⟨h.os, h.tape, h.output, h.size, fun k hk _ => h.block k hk⟩
theorem Apart.below {F : Nat → Prop} {B : Nat} {w w' : World} (h : Apart F w w') (hB : B ≤ w.heap.size) (hf : ∀ k, k < B → ¬ F k) : Below B w w' :=
  ⟨h.os, h.tape, h.output, h.size, fun k hk => h.block k (by omega) (hf k hk)⟩
theorem Apart.setCell {F : Nat → Prop} {a w : World} (h : Apart F a w) {p : Addr} (hp : p.block < a.heap.size → F p.block) (u : Value) : Apart F a (w.setCell p u) :=
  h.trans (G := fun k => k = p.block) ⟨rfl, rfl, rfl, by simp [World.setCell], fun k _ hk => Below.heap_setCell _ _ _ _ hk⟩ (fun i hi e => by subst e; exact hp hi)
theorem Apart.alloc {F : Nat → Prop} {a w : World} (h : Apart F a w) (o : Obj) : Apart F a (w.alloc o) :=
  h.trans (G := fun _ => False) (Apart.of_below ((Below.refl _ _).alloc (Nat.le_refl _) o)) (fun _ _ e => e.elim)
theorem Apart.drewN {F : Nat → Prop} {a w : World} (h : Apart F a w) (n : Nat) : Apart F a (w.drewN n) := ⟨h.os, h.tape, h.output, h.size, h.block⟩
theorem Apart.drew {F : Nat → Prop} {a w : World} (h : Apart F a w) : Apart F a w.drew := ⟨h.os, h.tape, h.output, h.size, h.block⟩
theorem Apart.then_ {F : Nat → Prop} {a b c : World} (h : Apart F a b) (k : Below b.heap.size b c) : Apart F a c :=
  h.trans (Apart.of_below (F := F) k) (fun _ _ e => e)
theorem apart_set (w : World) (g i : Nat) (v : Value) : Apart (fun k => k = g) w (w.setCell ⟨g, i, none⟩ v) := (Apart.refl (fun k => k = g) w).setCell (p := ⟨g, i, none⟩) (fun _ => rfl) v
theorem apart_setCells (b : Nat) : ∀ (vs : List Value) (o : Nat) (w : World), Apart (fun k => k = b) w (w.setCells b o vs)
  | [], _, w => Apart.refl _ w
  | v :: r, o, w => by
    rw [World.setCells]
    exact Apart.trans (F := fun k => k = b) (G := fun k => k = b) ((Apart.refl (fun k => k = b) w).setCell (p := ⟨b, o, none⟩) (fun _ => rfl) v) (apart_setCells b r (o + 1) _) fun _ _ e => e

theorem setCells_size (b : Nat) : ∀ (vs : List Value) (o : Nat) (w : World), (w.setCells b o vs).heap.size = w.heap.size
  | [], _, _ => rfl
  | v :: r, o, w => by rw [World.setCells, setCells_size b r (o + 1)]; simp [World.setCell]

/-- Block g is just these n cells, and may be written. -/
def RowIs (w : World) (g : Nat) (T : TypeId) (C : Nat → Value) (n : Nat) : Prop := w.heap[g]? = some (.cells ((List.range n).map C).toArray T (0, 0))

theorem RowIs.lt {w : World} {g n : Nat} {T : TypeId} {C : Nat → Value} (h : RowIs w g T C n) : g < w.heap.size := (Array.getElem?_eq_some_iff.1 h).1
theorem RowIs.cell {w : World} {g n i : Nat} {T : TypeId} {C : Nat → Value} (h : RowIs w g T C n) (hi : i < n) : w.cell? ⟨g, i, none⟩ = some (C i) := by
  rw [cell_of_row w g i _ _ _ h, List.getElem?_toArray]
  simp [List.getElem?_range hi]
theorem RowIs.free {w : World} {g n : Nat} {T : TypeId} {C : Nat → Value} (h : RowIs w g T C n) (i : Nat) : w.frozen? ⟨g, i, none⟩ = false := by
  unfold RowIs at h
  simp [World.frozen?, h]
theorem RowIs.apart {w w' : World} {g n : Nat} {T : TypeId} {C : Nat → Value} {F : Nat → Prop} (h : RowIs w g T C n) (hb : Apart F w w') (hf : ¬ F g) : RowIs w' g T C n := (hb.block g h.lt hf).trans h
theorem RowIs.below {w w' : World} {g n : Nat} {T : TypeId} {C : Nat → Value} (h : RowIs w g T C n) (hb : Below w.heap.size w w') : RowIs w' g T C n := (hb.block g h.lt).trans h
theorem RowIs.congr {w : World} {g n : Nat} {T : TypeId} {C C' : Nat → Value} (h : RowIs w g T C n) (he : ∀ i, i < n → C i = C' i) : RowIs w g T C' n := by
  unfold RowIs at h ⊢
  rw [h]
  congr 3
  exact List.map_congr_left fun i hi => he i (List.mem_range.1 hi)
theorem RowIs.set_ {w : World} {g n k : Nat} {T : TypeId} {C C' : Nat → Value} {v : Value} (h : RowIs w g T C n) (hv : k < n → v = C' k) (he : ∀ i, i < n → i ≠ k → C i = C' i) : RowIs (w.setCell ⟨g, k, none⟩ v) g T C' n := by
  unfold RowIs at h ⊢
  rw [heap_setCell_same w g k _ T v h]
  congr 2
  apply Array.ext'
  rw [Array.toList_setIfInBounds]
  apply List.ext_getElem?
  intro i
  rw [List.getElem?_set]
  by_cases hi : i < n
  · by_cases hk : k = i
    · subst hk
      rw [if_pos rfl, if_pos (by simpa using hi), hv hi]
      simp [List.getElem?_range hi]
    · rw [if_neg hk]
      simp [List.getElem?_range hi, he i hi (Ne.symm hk)]
  · have e1 : (List.map C' (List.range n))[i]? = none := List.getElem?_eq_none (by simp; omega)
    have e2 : (List.map C (List.range n))[i]? = none := List.getElem?_eq_none (by simp; omega)
    show _ = (List.map C' (List.range n))[i]?
    rw [e1]
    show (if k = i then (if k < (List.map C (List.range n)).length then some v else none) else (List.map C (List.range n))[i]?) = none
    rw [e2]
    split
    · rw [if_neg (by simp; omega)]
    · rfl
/-- Cells o to o + vs.length are written. -/
def over (C : Nat → Value) (o : Nat) (vs : List Value) (i : Nat) : Value := if o ≤ i ∧ i < o + vs.length then vs.getD (i - o) (C i) else C i
theorem RowIs.sets {g n : Nat} {T : TypeId} : ∀ (vs : List Value) (o : Nat) {w : World} {C : Nat → Value}, RowIs w g T C n → RowIs (w.setCells g o vs) g T (over C o vs) n
  | [], o, w, C, h => h.congr fun i _ => by unfold over; rw [if_neg (by simp only [List.length_nil]; omega)]
  | v :: r, o, w, C, h => by
    rw [World.setCells]
    refine (RowIs.sets r (o + 1) (h.set_ (C' := fun i => if i = o then v else C i) (fun _ => by simp) (fun i _ hi => by simp [hi]))).congr fun i _ => ?_
    unfold over
    by_cases h1 : i = o
    · subst h1
      rw [if_neg (by omega), if_pos (by simp)]
      simp
    · by_cases h2 : o + 1 ≤ i ∧ i < o + 1 + r.length
      · obtain ⟨k, rfl⟩ : ∃ k, i = o + 1 + k := ⟨i - (o + 1), by omega⟩
        rw [if_pos h2, if_pos (by simp; omega)]
        have e : o + 1 + k - o = k + 1 := by omega
        rw [e, show o + 1 + k - (o + 1) = k by omega]
        simp [h1]
      · rw [if_neg h2, if_neg (by simp; omega)]
        simp [h1]
theorem RowIs.range {w : World} {g n o : Nat} {T : TypeId} {C : Nat → Value} {cs : List Value} (h : RowIs w g T C n) (ho : o + cs.length ≤ n) (hc : ∀ j, j < cs.length → cs[j]? = some (C (o + j))) : w.rangeAt g o cs := fun j v hv => by
  have hj := (List.getElem?_eq_some_iff.1 hv).1
  rw [h.cell (by omega), ← hc j hj, hv]
theorem RowIs.there {w : World} {g n o m : Nat} {T : TypeId} {C : Nat → Value} (h : RowIs w g T C n) (ho : o + m ≤ n) : w.there g o m := fun j hj => ⟨by rw [h.cell (by omega)]; rfl, h.free _⟩
theorem row_new (w : World) (T : TypeId) (C : Nat → Value) (n : Nat) (cs : List Value) (hl : cs.length = n) (hc : ∀ i, i < n → cs[i]? = some (C i)) : RowIs (w.alloc (.cells cs.toArray T)) w.heap.size T C n := by
  unfold RowIs
  rw [heap_alloc_new]
  congr 3
  apply List.ext_getElem?
  intro i
  by_cases hi : i < n
  · rw [hc i hi]; simp [List.getElem?_range hi]
  · rw [List.getElem?_eq_none (by omega), List.getElem?_eq_none (by simp; omega)]
end Go.Proofs.Ytmgeifolgdgapaa

namespace Go.Proofs.Ytmgeifolgdgapaa
open Go.RowKit

/-- One write: where, and its 64 bytes. -/
structure Wr where
  at_ : Nat
  data : Nat → Nat

/-- A device. -/
structure Dev where
  size : Nat
  sure : Nat → Nat → Nat
  loose : List Wr
  off : Bool
  limited : Bool
  left : Int

/-- Sector i is given the bytes f. -/
def lay (s : Nat → Nat → Nat) (x : Wr) (i : Nat) : Nat → Nat := if i = x.at_ then x.data else s i
/-- What is there behind some writes. -/
def lays (s : Nat → Nat → Nat) (l : List Wr) : Nat → Nat → Nat := l.foldl lay s
/-- What is read. -/
def Dev.view (D : Dev) : Nat → Nat → Nat := lays D.sure D.loose

def wcells (x : Wr) : List Value := .int .i64 (x.at_ : Int) :: cellsOf x.data 64
def lcells (l : List Wr) : List Value := l.flatMap wcells
theorem wcells_length (x : Wr) : (wcells x).length = 65 := by simp [wcells, cellsOf_length]
theorem lcells_length (l : List Wr) : (lcells l).length = l.length * 65 := by
  unfold lcells
  induction l with
  | nil => rfl
  | cons x r ih => rw [List.flatMap_cons, List.length_append, wcells_length, ih, List.length_cons]; omega
theorem lcells_at (l : List Wr) : ∀ {i j : Nat} (_ : i < l.length) (_ : j < 65), (lcells l)[i * 65 + j]? = (wcells (l[i]'(by assumption)))[j]? := by
  unfold lcells
  induction l with
  | nil => intro i j hi _; simp at hi
  | cons x r ih =>
    intro i j hi hj
    rw [List.flatMap_cons]
    cases i with
    | zero =>
      rw [List.getElem?_append_left (by rw [wcells_length]; omega)]
      simp
    | succ i =>
      rw [List.getElem?_append_right (by rw [wcells_length]; omega), wcells_length]
      have e : (i + 1) * 65 + j - 65 = i * 65 + j := by omega
      rw [e, ih (by simpa using hi) hj]
      rfl
theorem lcells_snoc (l : List Wr) (x : Wr) : lcells (l ++ [x]) = lcells l ++ wcells x := by simp [lcells]

/-- The cells of the sectors that last. -/
def dcell (s : Nat → Nat → Nat) (t : Nat) : Value := .int .u8 (s (t / 64) (t % 64) : Int)

/-- The device lies behind the pointer to block g; block h holds its sectors; L holds the writes that may be lost. -/
structure IsDev (w : World) (base g h : Nat) (L : Value) (D : Dev) : Prop where
  head : w.heap[g]? = some (.cells #[.slice (some ⟨h, 0, none⟩) D.size D.size, L, .bool D.off, .bool D.limited, .int .i64 D.left] 48 (0, 0))
  body : RowIs w h 57 (dcell D.sure) (D.size * 64)
  own : w.ownsRow base 59 65 L D.loose.length (lcells D.loose)
  bg : base ≤ g
  bh : base ≤ h
  ne : g ≠ h
  ng : L.ownBlock ≠ some g
  nh : L.ownBlock ≠ some h
  size : 1 ≤ D.size ∧ D.size ≤ 424
  sure : ∀ i, i < D.size → ∀ j, j < 64 → D.sure i j < 256
  loose : ∀ x ∈ D.loose, x.at_ < D.size ∧ ∀ j, j < 64 → x.data j < 256
  left : -9223372036854775808 ≤ D.left ∧ D.left ≤ 9223372036854775807 ∧ (D.limited = true → 0 ≤ D.left)

/-- Its blocks. -/
def foot (g h : Nat) (L : Value) (k : Nat) : Prop := k = g ∨ k = h ∨ L.ownBlock = some k

theorem IsDev.apart {w w' : World} {base g h : Nat} {L : Value} {D : Dev} {F : Nat → Prop} (d : IsDev w base g h L D) (a : Apart F w w') (hf : ∀ k, foot g h L k → ¬ F k) : IsDev w' base g h L D where
  head := (a.block g (Array.getElem?_eq_some_iff.1 d.head).1 (hf g (.inl rfl))).trans d.head
  body := d.body.apart a (hf h (.inr (.inl rfl)))
  own := by
    refine ⟨d.own.1, ?_⟩
    rcases d.own.2 with h2 | ⟨k, cap, cur, e, hb0, hg, rest⟩
    · exact .inl h2
    · exact .inr ⟨k, cap, cur, e, hb0, (a.block k (Array.getElem?_eq_some_iff.1 hg).1 (hf k (.inr (.inr (by rw [e]; rfl))))).trans hg, rest⟩
  bg := d.bg
  bh := d.bh
  ne := d.ne
  ng := d.ng
  nh := d.nh
  size := d.size
  sure := d.sure
  loose := d.loose
  left := d.left
theorem IsDev.below {w w' : World} {base g h : Nat} {L : Value} {D : Dev} (d : IsDev w base g h L D) (b : Below w.heap.size w w') : IsDev w' base g h L D :=
  d.apart (Apart.of_below (F := fun _ => False) b) (fun _ _ e => e)
theorem IsDev.lt {w : World} {base g h : Nat} {L : Value} {D : Dev} (d : IsDev w base g h L D) : ∀ k, foot g h L k → base ≤ k ∧ k < w.heap.size := by
  intro k hk
  rcases hk with rfl | rfl | hk
  · exact ⟨d.bg, (Array.getElem?_eq_some_iff.1 d.head).1⟩
  · exact ⟨d.bh, d.body.lt⟩
  · exact d.own.lt k hk
theorem IsDev.cells {w : World} {base g h : Nat} {L : Value} {D : Dev} (d : IsDev w base g h L D) :
    w.cell? ⟨g, 0, none⟩ = some (.slice (some ⟨h, 0, none⟩) D.size D.size) ∧ w.cell? ⟨g, 1, none⟩ = some L ∧ w.cell? ⟨g, 2, none⟩ = some (.bool D.off) ∧ w.cell? ⟨g, 3, none⟩ = some (.bool D.limited) ∧ w.cell? ⟨g, 4, none⟩ = some (.int .i64 D.left) ∧
      ∀ i, w.frozen? ⟨g, i, none⟩ = false := by
  refine ⟨?_, ?_, ?_, ?_, ?_, fun i => frozen_of_row w g i _ _ d.head⟩ <;> rw [cell_of_row w g _ _ _ _ d.head] <;> rfl
/-- L as a slice. -/
theorem IsDev.slice {w : World} {base g h : Nat} {L : Value} {D : Dev} (d : IsDev w base g h L D) :
    ∃ A cap, L = .slice A D.loose.length cap ∧ D.loose.length ≤ cap ∧ cap ≤ 9223372036854775807 ∧ (0 < D.loose.length → ∃ k, A = some ⟨k, 0, none⟩ ∧ k < w.heap.size ∧ k ≠ g ∧ k ≠ h) := by
  have hl := d.own.lt
  rcases d.own.2 with ⟨rfl, h0⟩ | ⟨k, cap, cur, rfl, _, hg, hnc, hm, _⟩
  · exact ⟨none, 0, by rw [h0], by omega, by omega, fun hp => by omega⟩
  · refine ⟨_, cap, rfl, hnc, by unfold maxLen at hm; omega, fun _ => ⟨k, rfl, (hl k rfl).2, ?_, ?_⟩⟩
    · intro e; exact d.ng (by rw [e]; rfl)
    · intro e; exact d.nh (by rw [e]; rfl)
/-- Write n. -/
theorem IsDev.write {w : World} {base g h k cap : Nat} {D : Dev} (d : IsDev w base g h (.slice (some ⟨k, 0, none⟩) D.loose.length cap) D) {n : Nat} (hn : n < D.loose.length) :
    w.rangeAt k (n * 65) (wcells D.loose[n]) := fun j v hv => by
  have hj : j < 65 := by have := (List.getElem?_eq_some_iff.1 hv).1; rwa [wcells_length] at this
  have h1 := World.ownsRow.cells d.own (g := k) rfl (n * 65 + j) v (by rw [lcells_at _ hn hj]; exact hv)
  rwa [add_nil] at h1

theorem snoc_ind {α : Type} {P : List α → Prop} (nil : P []) (snoc : ∀ l x, P l → P (l ++ [x])) (l : List α) : P l := by
  rw [← List.reverse_reverse l]
  induction l.reverse with
  | nil => exact nil
  | cons x r ih => rw [List.reverse_cons]; exact snoc _ _ ih

theorem lays_nil (s : Nat → Nat → Nat) : lays s [] = s := rfl
theorem lays_cons (s : Nat → Nat → Nat) (x : Wr) (l : List Wr) : lays s (x :: l) = lays (lay s x) l := rfl
theorem lays_snoc (s : Nat → Nat → Nat) (l : List Wr) (x : Wr) : lays s (l ++ [x]) = lay (lays s l) x := by simp [lays]
theorem lays_append (s : Nat → Nat → Nat) (l m : List Wr) : lays s (l ++ m) = lays (lays s l) m := by simp [lays]
/-- The last write of a sector is what is read; without one, what lasts. -/
theorem lays_last {s : Nat → Nat → Nat} {l : List Wr} {i n : Nat} (hn : n < l.length) (h : l[n].at_ = i) (ho : ∀ k (hk : k < l.length), n < k → l[k].at_ ≠ i) : lays s l i = l[n].data := by
  induction l using snoc_ind with
  | nil => simp at hn
  | snoc l x ih =>
    rw [lays_snoc]
    unfold lay
    by_cases e : n = l.length
    · subst e
      simp only [List.getElem_concat_length] at h ⊢
      rw [if_pos h.symm]
    · have hn' : n < l.length := by simp at hn; omega
      have h1 := ho l.length (by simp) hn'
      simp only [List.getElem_concat_length] at h1
      rw [if_neg (fun e => h1 e.symm)]
      rw [List.getElem_append_left hn'] at h ⊢
      exact ih hn' h fun k hk hnk => by
        have := ho k (by simp; omega) hnk
        rwa [List.getElem_append_left hk] at this
theorem lays_none {s : Nat → Nat → Nat} {l : List Wr} {i : Nat} (h : ∀ k (hk : k < l.length), l[k].at_ ≠ i) : lays s l i = s i := by
  induction l using snoc_ind with
  | nil => rfl
  | snoc l x ih =>
    rw [lays_snoc]
    unfold lay
    have h1 := h l.length (by simp)
    simp only [List.getElem_concat_length] at h1
    rw [if_neg (fun e => h1 e.symm)]
    exact ih fun k hk => by
      have := h k (by simp; omega)
      rwa [List.getElem_append_left hk] at this
end Go.Proofs.Ytmgeifolgdgapaa

