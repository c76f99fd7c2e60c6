
/- Slices of int: that lie somewhere, in a block of the call's own; appended. Nothing of a program's functions. -/
import Derived.Test.YtmgeifolgdgapaaBytes
namespace Go.Proofs.Ytmgeifolgdgapaa
open Go.RowKit

/-- n numbers lie at A, number i is g i. -/
structure IntsAt (w : World) (A : Option Addr) (n : Nat) (g : Nat → Int) : Prop where
  wf : ∀ i, i < n → -9223372036854775808 ≤ g i ∧ g i ≤ 9223372036854775807
  cell : ∀ i, i < n → ∃ ad, A = some ad ∧ w.cell? (ad.add i) = some (.int .i64 (g i))

theorem IntsAt.at_ {w : World} {ad : Addr} {n : Nat} {g : Nat → Int} (h : IntsAt w (some ad) n g) {i : Nat} (hi : i < n) : w.cell? (ad.add i) = some (.int .i64 (g i)) := by
  obtain ⟨ad', e, hc⟩ := h.cell i hi
  obtain rfl := Option.some.inj e
  exact hc
theorem IntsAt.addr {w : World} {A : Option Addr} {n : Nat} {g : Nat → Int} (h : IntsAt w A n g) (hn : 0 < n) : ∃ ad, A = some ad := by
  obtain ⟨ad, e, _⟩ := h.cell 0 hn
  exact ⟨ad, e⟩
theorem IntsAt.below {w w' : World} {A : Option Addr} {n : Nat} {g : Nat → Int} (h : IntsAt w A n g) (hb : Below w.heap.size w w') : IntsAt w' A n g :=
  ⟨h.wf, fun i hi => by obtain ⟨ad, e, hc⟩ := h.cell i hi; exact ⟨ad, e, cell_later hb hc⟩⟩
theorem IntsAt.congr {w : World} {A : Option Addr} {n : Nat} {f g : Nat → Int} (h : IntsAt w A n f) (he : ∀ i, i < n → f i = g i) : IntsAt w A n g :=
  ⟨fun i hi => by rw [← he i hi]; exact h.wf i hi, fun i hi => by rw [← he i hi]; exact h.cell i hi⟩
theorem IntsAt.none_ (w : World) (g : Nat → Int) : IntsAt w none 0 g := ⟨fun i hi => absurd hi (by omega), fun i hi => absurd hi (by omega)⟩
/-- A slice of int that came in. -/
theorem ints_in {w : World} {A : Option Addr} {n c : Nat} {Z : List Int} (h : IntsIn w .i64 A n c Z) : IntsAt w A n (fun i => Z.getD i 0) := by
  refine ⟨fun i hi => ?_, fun i hi => ?_⟩
  · have hl : i < Z.length := by rw [h.len]; exact hi
    have hw := h.wf Z[i] (List.getElem_mem hl)
    rw [List.getD_eq_getElem?_getD, List.getElem?_eq_getElem hl]
    simpa [Lit.wf, IntKind.min, IntKind.max, IntKind.signed, IntKind.bits] using hw
  · obtain ⟨ad, rfl⟩ := h.addr (by omega)
    exact ⟨ad, rfl, h.cell ad rfl i hi⟩

/-- The first n values of g, as numbers. -/
def intsOf (g : Nat → Int) (n : Nat) : List Value := (List.range n).map fun i => Value.int .i64 (g i)
theorem intsOf_length (g : Nat → Int) (n : Nat) : (intsOf g n).length = n := by simp [intsOf]
theorem intsOf_at (g : Nat → Int) {n i : Nat} (h : i < n) : (intsOf g n)[i]? = some (.int .i64 (g i)) := by
  simp [intsOf, List.getElem?_range h]
theorem intsOf_inv {g : Nat → Int} {n i : Nat} {u : Value} (h : (intsOf g n)[i]? = some u) : i < n ∧ u = .int .i64 (g i) := by
  have hl : i < n := by
    have := (List.getElem?_eq_some_iff.1 h).1
    rwa [intsOf_length] at this
  rw [intsOf_at g hl] at h
  exact ⟨hl, (Option.some.inj h).symm⟩
theorem intsOf_one (g : Nat → Int) (n : Nat) (u : Value) (h : u ∈ intsOf g n) : u.oneCell' = true := by
  unfold intsOf at h
  rw [List.mem_map] at h
  obtain ⟨i, _, rfl⟩ := h
  rfl
theorem intsOf_congr {f g : Nat → Int} {n : Nat} (h : ∀ i, i < n → f i = g i) : intsOf f n = intsOf g n := by
  apply List.ext_getElem?
  intro i
  by_cases hi : i < n
  · rw [intsOf_at f hi, intsOf_at g hi, h i hi]
  · rw [List.getElem?_eq_none (by rw [intsOf_length]; omega), List.getElem?_eq_none (by rw [intsOf_length]; omega)]
theorem intsOf_next (g : Nat → Int) (n : Nat) : intsOf g n ++ [.int .i64 (g n)] = intsOf g (n + 1) := by
  unfold intsOf
  rw [List.range_succ, List.map_append]
  rfl
theorem intsOf_set (f g : Nat → Int) {n k : Nat} {z : Int} (hk : k < n) (hz : z = g k) (h : ∀ i, i ≠ k → f i = g i) :
    (intsOf f n).toArray.setIfInBounds k (.int .i64 z) = (intsOf g n).toArray := by
  apply Array.ext'
  rw [Array.toList_setIfInBounds]
  apply List.ext_getElem?
  intro i
  rw [List.getElem?_set]
  by_cases hi : i < n
  · by_cases he : k = i
    · subst he
      rw [if_pos rfl, if_pos (by simp [intsOf_length]; exact hk), hz]
      exact (intsOf_at g hk).symm
    · rw [if_neg he]
      show (intsOf f n)[i]? = (intsOf g n)[i]?
      rw [intsOf_at f hi, intsOf_at g hi, h i (Ne.symm he)]
  · rw [if_neg (by omega)]
    show (intsOf f n)[i]? = (intsOf g n)[i]?
    rw [List.getElem?_eq_none (by rw [intsOf_length]; omega), List.getElem?_eq_none (by rw [intsOf_length]; omega)]

/-- Block b holds these numbers, all of them, and may be written. -/
def IntsLie (w : World) (b : Nat) (g : Nat → Int) (n : Nat) : Prop := w.heap[b]? = some (.cells (intsOf g n).toArray 3 (0, 0))
theorem IntsLie.lt {w : World} {b n : Nat} {g : Nat → Int} (h : IntsLie w b g n) : b < w.heap.size := (Array.getElem?_eq_some_iff.1 h).1
theorem IntsLie.cell {w : World} {b n i : Nat} {g : Nat → Int} (h : IntsLie w b g n) (hi : i < n) : w.cell? ⟨b, i, none⟩ = some (.int .i64 (g i)) := by
  rw [cell_of_row w b i _ _ _ h, List.getElem?_toArray]
  exact intsOf_at g hi
theorem IntsLie.free {w : World} {b n : Nat} {g : Nat → Int} (h : IntsLie w b g n) (i : Nat) : w.frozen? ⟨b, i, none⟩ = false := by
  unfold IntsLie at h
  simp [World.frozen?, h]
theorem IntsLie.ints {w : World} {b n : Nat} {g : Nat → Int} (h : IntsLie w b g n) (hg : ∀ i, i < n → -9223372036854775808 ≤ g i ∧ g i ≤ 9223372036854775807) : IntsAt w (some ⟨b, 0, none⟩) n g :=
  ⟨hg, fun i hi => ⟨_, rfl, by rw [add_nil]; exact h.cell hi⟩⟩
theorem IntsLie.below {w w' : World} {b n B : Nat} {g : Nat → Int} (h : IntsLie w b g n) (hb : Below B w w') (hg : b < B) : IntsLie w' b g n := (hb.block b hg).trans h
theorem IntsLie.drewN {w : World} {b n : Nat} {g : Nat → Int} (h : IntsLie w b g n) (k : Nat) : IntsLie (w.drewN k) b g n := h
theorem IntsLie.congr {w : World} {b n : Nat} {f g : Nat → Int} (h : IntsLie w b f n) (he : ∀ i, i < n → f i = g i) : IntsLie w b g n := by
  unfold IntsLie at h ⊢
  rw [← intsOf_congr he]
  exact h
theorem IntsLie.set_ {w : World} {b n k : Nat} {f g : Nat → Int} {z : Int} (h : IntsLie w b f n) (hk : k < n) (hz : z = g k) (he : ∀ i, i ≠ k → f i = g i) :
    IntsLie (w.setCell ⟨b, k, none⟩ (.int .i64 z)) b g n := by
  unfold IntsLie at h ⊢
  rw [← intsOf_set f g hk hz he, setCell_eq_setRow w b k _ _ _ _ h]
  exact setRow_heap w b _ _ _ _ h

theorem int_info : (Try.prog.info? 3).map (fun i => (i.zero, i.size, i.bytes)) = some (some (.int .i64 0), 1, 8) := by kernel_rfl
theorem int_zeros (k : Nat) : (madeCells #[.int .i64 0] k) = (intsOf (fun _ => 0) k).toArray := by
  apply Array.ext'
  unfold madeCells intsOf
  simp only [Array.toList_map, Array.toList_range]
  apply List.map_congr_left
  intro i _
  simp [Nat.mod_one]
theorem make_ints (k : Nat) (hk : 8 * k ≤ 281474976710656) (u : World) :
    (Instr.makeSlice 98 (.int .i64 (k : Int)) (.int .i64 (k : Int))).run Try.prog u = .ok (.slice (some ⟨u.heap.size, 0, none⟩) k k) (u.alloc (.cells (intsOf (fun _ => 0) k).toArray 3)) := by
  obtain ⟨i0, hi, hz0, hz1, hz2⟩ := info_parts int_info
  have h := run_make (P := Try.prog) u 98 3 i0 (.int .i64 0) Try.underlying98 hi hz0 .i64 .i64 (k : Int) (k : Int) (by omega) (Int.le_refl _) (by rw [hz2]; omega) (by omega)
  rw [hz1, Int.toNat_natCast, Nat.mul_one] at h
  rw [h, ← int_zeros]
  rfl
theorem made_ints (w : World) (k : Nat) : IntsLie (w.alloc (.cells (intsOf (fun _ => 0) k).toArray 3)) w.heap.size (fun _ => 0) k := heap_alloc_new w _

/-- The value is a row of the call's own, of just these numbers. -/
def OwnI (w : World) (base : Nat) (v : Value) (n : Nat) (g : Nat → Int) : Prop := w.ownsRow base 3 1 v n (intsOf g n)
theorem OwnI.below {w w' w0 : World} {base n B : Nat} {v : Value} {g : Nat → Int} (h : OwnI w base v n g) (hb : Below B w0 w) (hB : B ≤ base) (hB2 : B ≤ w.heap.size) (hg : w.grownBy w' v.ownBlock) : Below B w0 w' :=
  hb.grown hg hB2 fun k hk => Nat.le_trans hB (h.lt k hk).1
theorem OwnI.alloc {w : World} {base n : Nat} {v : Value} {g : Nat → Int} (h : OwnI w base v n g) (o : Obj) : OwnI (w.alloc o) base v n g := World.ownsRow.alloc h o
theorem owni_new (w : World) (g : Nat → Int) : OwnI (w.alloc (.cells #[] 3)) w.heap.size (.slice (some ⟨w.heap.size, 0, none⟩) 0 0) 0 g :=
  World.ownsRow_lit w #[] 0 (Nat.le_refl _) (by decide) rfl

/-- The slice reads as n numbers g. -/
def ReadsI (w : World) (v : Value) (n : Nat) (g : Nat → Int) : Prop :=
  ∃ A c, v = .slice A n c ∧ n ≤ c ∧ c ≤ 9223372036854775807 ∧ (A = none → c = 0) ∧ IntsAt w A n g
theorem ReadsI.below {w w' : World} {v : Value} {n : Nat} {g : Nat → Int} (h : ReadsI w v n g) (hb : Below w.heap.size w w') : ReadsI w' v n g := by
  obtain ⟨A, c, e, h1, h2, h3, hs⟩ := h
  exact ⟨A, c, e, h1, h2, h3, hs.below hb⟩
theorem ReadsI.congr {w : World} {v : Value} {n : Nat} {f g : Nat → Int} (h : ReadsI w v n f) (he : ∀ i, i < n → f i = g i) : ReadsI w v n g := by
  obtain ⟨A, c, e, h1, h2, h3, hs⟩ := h
  exact ⟨A, c, e, h1, h2, h3, hs.congr he⟩
theorem readsI_none (w : World) (g : Nat → Int) : ReadsI w (.slice none 0 0) 0 g := ⟨none, 0, rfl, Nat.le_refl _, by omega, fun _ => rfl, IntsAt.none_ w g⟩
theorem readsI_in {w : World} {A : Option Addr} {n c : Nat} {Z : List Int} (h : IntsIn w .i64 A n c Z) : ReadsI w (.slice A n c) n (fun i => Z.getD i 0) := ⟨A, c, rfl, h.cap, h.most, fun e => (h.bare e).2, ints_in h⟩
theorem OwnI.reads {w : World} {base n : Nat} {v : Value} {g : Nat → Int} (h : OwnI w base v n g) (hg : ∀ i, i < n → -9223372036854775808 ≤ g i ∧ g i ≤ 9223372036854775807) : ReadsI w v n g := by
  have h0 := h
  rcases h.2 with ⟨rfl, rfl⟩ | ⟨b, cap, cur, rfl, _, hb, hnc, hm, _⟩
  · exact readsI_none w g
  · exact ⟨_, cap, rfl, hnc, by unfold maxLen at hm; omega, (by intro e; cases e), ⟨hg, fun i hi => ⟨_, rfl, World.ownsRow.cells h0 (g := b) rfl i _ (intsOf_at g hi)⟩⟩⟩
theorem int_new (w : World) (z : Int) (hz : -9223372036854775808 ≤ z ∧ z ≤ 9223372036854775807) : IntsAt (w.alloc (.cells #[.int .i64 z] 3)) (some ⟨w.heap.size, 0, none⟩) 1 (fun _ => z) :=
  ⟨fun _ _ => hz, fun i hi => ⟨_, rfl, by
    obtain rfl : i = 0 := by omega
    rw [add_nil, World.cell?_alloc_mark]; rfl⟩⟩

/-- One number behind them. -/
theorem run_int {w : World} {base n : Nat} {v : Value} {g : Nat → Int} {z : Int} (ty : TypeId) (h : OwnI w base v n g) (hz : z = g n) (hm : (n + 1) * 8 ≤ 140737488355328) (hb : base ≤ w.heap.size) :
    ∃ v' w', (Builtin.append_ #[98, 98] ty #[v, .slice (some ⟨w.heap.size, 0, none⟩) 1 1]).run Try.prog (w.alloc (.cells #[.int .i64 z] 3)) = .ok v' w' ∧ OwnI w' base v' (n + 1) g ∧
      v' ≠ .slice none 0 0 ∧ (w.alloc (.cells #[.int .i64 z] 3)).grownBy w' v.ownBlock := by
  obtain ⟨i0, hi, hz0, hz1, hz2⟩ := info_parts int_info
  obtain ⟨v', w', h1, h2, h3, h4⟩ := run_append_own (P := Try.prog) (w.alloc (.cells #[.int .i64 z] 3)) base 98 ty 3 i0 _ 1 8 Try.underlying98 hi hz0 hz1 hz2 rfl (by decide) v n _ (h.alloc _) ⟨w.heap.size, 0, none⟩ 1 1 [.int .i64 z] rfl
    (cell_one_new _ _ _) (fun u hu => by simp at hu; subst hu; rfl) (by unfold maxLen; omega) hm (by simp; omega)
  refine ⟨v', w', h1, ?_, fun e => by have := (h4.1 e).2; omega, h3⟩
  unfold OwnI
  rw [← intsOf_next, ← hz]
  exact h2

end Go.Proofs.Ytmgeifolgdgapaa
