
/- One write, while the power is on for good; writes of pages behind one another. -/
import Derived.Test.YtmgeifolgdgapaaDvOne
namespace Go.Proofs.Ytmgeifolgdgapaa
open Go.RowKit

theorem hasB_no {D : Dev} {z : Int} (h : (D.size : Int) ≤ z) : hasB D z = false := by
  unfold hasB
  simp
  omega

/-- A device whose power does not go. -/
structure Dev.Free (D : Dev) : Prop where
  on : D.off = false
  un : D.limited = false

/-- Put of one write whose bytes lie anywhere, but in no block of the device's. -/
theorem put_slice {w : World} {base g h q t : Nat} {L u : Value} {D : Dev} {f : Nat → Nat} (d : IsDev w base g h L D) (hq : w.heap[q]? = some (.cells #[.int .i64 (t : Int), u] 31 (0, 0)))
    (hu : ∀ W, Apart (foot g h L) w W → Reads W u 64 f) (nq : ¬ foot g h L q) (ht : t < D.size) (hl : D.loose.length ≤ 100000000000) (ho : D.off = false) :
    Calls Try.prog 7 #[.pointer (some ⟨g, 0, none⟩), .slice (some ⟨q, 0, none⟩) 1 1] w (Written w base g h L (D.put1 ⟨t, f⟩).2 (D.put1Code ⟨t, f⟩)) := by
  have hqw : q < w.heap.size := (Array.getElem?_eq_some_iff.1 hq).1
  have s : ∀ W, Apart (foot g h L) w W → WritesIn W (some ⟨q, 0, none⟩) 1 (fun _ => (t : Int)) (fun _ => u) (fun _ => 64) (fun _ => f) := fun W a => by
    have hq' := (a.block q hqw nq).trans hq
    refine ⟨fun i hi => ⟨_, rfl, ?_, ?_⟩, fun _ _ => hu W a, fun i hi => ?_⟩
    · obtain rfl : i = 0 := by omega
      rw [add_nil, cell_of_row _ _ _ _ _ _ hq']; rfl
    · obtain rfl : i = 0 := by omega
      rw [add_nil, cell_of_row _ _ _ _ _ _ hq']; rfl
    · have := d.size.2
      show -9223372036854775808 ≤ (t : Int) ∧ (t : Int) ≤ 9223372036854775807
      omega
  have h1 := dev_put_ok (c := 1) d s (by omega) ho (anyB_no fun i _ => by unfold shortB; simp) (anyB_no fun i _ => by unfold beyondB hasB; simp; omega)
  have e : D.puts (fun _ => ⟨((t : Int)).toNat, f⟩) 1 = D.put1 ⟨t, f⟩ := by
    show (if (D.puts _ 0).1 = true then (D.puts _ 0).2.put1 _ else _) = _
    rw [if_pos (by rfl)]
    rfl
  have e2 : D.putsCode (fun _ => ⟨((t : Int)).toNat, f⟩) 1 = D.put1Code ⟨t, f⟩ := by
    unfold Dev.putsCode Dev.put1Code
    rw [e]
  rw [e, e2] at h1
  exact h1

/-- The same, of a write that was just laid. -/
theorem put_new {w : World} {base g h t : Nat} {L u : Value} {D : Dev} {f : Nat → Nat} (d : IsDev w base g h L D) (hu : ∀ W, Apart (foot g h L) w W → Reads W u 64 f) (ht : t < D.size) (hl : D.loose.length ≤ 100000000000) (hf : D.Free) :
    Calls Try.prog 7 #[.pointer (some ⟨g, 0, none⟩), .slice (some ⟨w.heap.size, 0, none⟩) 1 1] (w.alloc (.cells #[.int .i64 (t : Int), u] 31)) (Written w base g h L { D with loose := D.loose ++ [⟨t, f⟩] } 0) := by
  have hx : Below w.heap.size w (w.alloc (.cells #[.int .i64 (t : Int), u] 31)) := (Below.refl _ _).alloc (Nat.le_refl _) _
  have ax : Apart (foot g h L) w (w.alloc (.cells #[.int .i64 (t : Int), u] 31)) := Apart.of_below hx
  refine (put_slice (q := w.heap.size) (d.below hx) (heap_alloc_new w _) (fun W a => hu W (ax.trans a fun _ _ e => e)) (fun hh => by have := (d.lt _ hh).2; omega) ht hl hf.on).mono ?_
  rintro e w' ⟨L', rfl, hd, ha, ho⟩
  obtain ⟨e1, e2⟩ := put1_free hf.on hf.un ⟨t, f⟩
  rw [e1] at hd
  refine ⟨L', by rw [e2], hd, ax.trans ha (fun _ _ e => e), fun k e => (ho k e).imp id fun h5 => ?_⟩
  have := hx.size
  omega

/-- What is written: n pages from sector t on. -/
def pagesAt (t : Nat) (F : Nat → Nat → Nat) (n : Nat) : List Wr := (List.range n).map fun j => ⟨t + j, F j⟩
theorem pagesAt_next (t : Nat) (F : Nat → Nat → Nat) (n : Nat) : pagesAt t F n ++ [⟨t + n, F n⟩] = pagesAt t F (n + 1) := by
  unfold pagesAt
  rw [List.range_succ, List.map_append]
  rfl
theorem pagesAt_length (t : Nat) (F : Nat → Nat → Nat) (n : Nat) : (pagesAt t F n).length = n := by simp [pagesAt]
theorem lays_pages (s : Nat → Nat → Nat) (t : Nat) (F : Nat → Nat → Nat) (n i : Nat) : lays s (pagesAt t F n) i = if t ≤ i ∧ i < t + n then F (i - t) else s i := by
  induction n with
  | zero => rw [if_neg (by omega)]; rfl
  | succ n ih =>
    rw [← pagesAt_next, lays_snoc]
    unfold lay
    by_cases e : i = t + n
    · rw [if_pos e, if_pos (by omega), e, Nat.add_sub_cancel_left]
    · rw [if_neg e, ih]
      by_cases c : t ≤ i ∧ i < t + n
      · rw [if_pos c, if_pos (by omega)]
      · rw [if_neg c, if_neg (by omega)]
end Go.Proofs.Ytmgeifolgdgapaa
