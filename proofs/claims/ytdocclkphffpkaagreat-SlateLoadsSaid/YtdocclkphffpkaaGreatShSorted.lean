/- slices.Sort and slices.Compact of a row of numbers that is known whole. -/
import Derived.Test.YtdocclkphffpkaaGreatShSort
import Derived.Test.YtdocclkphffpkaaGreatMerge1
namespace Go.Proofs.YtdocclkphffpkaaGreat
open Go.RowKit Go.Shelf Go.Sort

theorem intsLie_holds {w : World} {b n : Nat} {g : Nat → Int} (h : IntsLie w b g n) : Holds (Value.int .i64) w b 0 ((List.range n).map g).toArray := by
  refine holds_of_blockI h ?_
  simp only [List.length_map, List.length_range]
  unfold intsOf
  rw [List.take_of_length_le (by simp), List.map_map]
  rfl
theorem heap_put {w : World} {b n q : Nat} {os : Array Obj} {g : Nat → Int} {zs : List Int} (h : IntsLie w b g n) (hl : zs.length = n) : IntsLie (grow (putRow (Value.int .i64) (Sort.ahead w q) b 0 zs.toArray) os) b (fun i => zs.getD i 0) n := by
  unfold IntsLie
  rw [heap_sortedI _ h]
  congr 2
  apply Array.ext_getElem?
  intro i
  unfold putCells
  rw [Array.getElem?_mapIdx, List.getElem?_toArray, List.getElem?_toArray]
  by_cases hi : i < n
  · rw [intsOf_at g hi, intsOf_at _ hi]
    have h2 : i < zs.length := by omega
    simp [h2, getElem!_pos]
  · rw [List.getElem?_eq_none (by rw [intsOf_length]; omega), List.getElem?_eq_none (by rw [intsOf_length]; omega)]
    rfl

theorem sort_ints {w : World} {b n c : Nat} {g : Nat → Int} (h : IntsLie w b g n) (hn : n < 4611686018427387904) :
    Calls Tryz.prog 114 #[.slice (some ⟨b, 0, none⟩) n c] w fun e w' => e = .returned (.tuple #[]) ∧ ∃ g', IntsLie w' b g' n ∧ (∀ i, i < n → ∃ j, j < n ∧ g' i = g j) ∧ (∀ j, j < n → ∃ i, i < n ∧ g' i = g j) ∧
      ((∀ i j, i < n → j < n → g i = g j → i = j) → ∀ i j, i < n → j < n → g' i = g' j → i = j) ∧ w.grownBy w' (some b) := by
  have hs := Any.slices_Sort_int laysSort b 0 c ((List.range n).map g) w (intsLie_holds h) h.lt (by simpa using hn)
  simp only [List.length_map, List.length_range] at hs
  refine Calls.mono hs fun e w' ⟨he, q, os, hw⟩ => ⟨he, ?_⟩
  subst hw
  have hp := List.mergeSort_perm ((List.range n).map g) (fun x y => decide (x ≤ y))
  have hl : (((List.range n).map g).mergeSort fun x y => decide (x ≤ y)).length = n := by rw [hp.length_eq]; simp
  obtain ⟨zs, ezs⟩ : ∃ zs, zs = ((List.range n).map g).mergeSort fun x y => decide (x ≤ y) := ⟨_, rfl⟩
  rw [← ezs] at hp hl ⊢
  have hget : ∀ i, i < n → zs.getD i 0 ∈ zs := fun i hi => by
    rw [List.getD_eq_getElem?_getD, List.getElem?_eq_getElem (by omega)]
    exact List.getElem_mem _
  refine ⟨fun i => zs.getD i 0, heap_put h hl, fun i hi => ?_, fun j hj => ?_, fun hinj i j hi hj e => ?_, grownBy_sortedI _⟩
  · have h2 := hp.mem_iff.1 (hget i hi)
    obtain ⟨j, hj, e⟩ := List.mem_map.1 h2
    exact ⟨j, List.mem_range.1 hj, e.symm⟩
  · have h2 : g j ∈ zs := hp.mem_iff.2 (List.mem_map.2 ⟨j, List.mem_range.2 hj, rfl⟩)
    obtain ⟨i, hi, e⟩ := List.mem_iff_getElem.1 h2
    exact ⟨i, by omega, by show zs.getD i 0 = g j; rw [List.getD_eq_getElem?_getD, List.getElem?_eq_getElem hi]; exact e⟩
  · have hnd : ((List.range n).map g).Nodup := by
      rw [List.Nodup, List.pairwise_map]
      refine List.Pairwise.imp_of_mem (fun {a c} ha hc hac e => ?_) (List.nodup_range (n := n))
      exact hac (hinj a c (List.mem_range.1 ha) (List.mem_range.1 hc) e)
    have hnd2 : zs.Nodup := hp.nodup_iff.2 hnd
    have e2 : zs.getD i 0 = zs.getD j 0 := e
    rw [List.getD_eq_getElem?_getD, List.getD_eq_getElem?_getD, List.getElem?_eq_getElem (show i < zs.length by omega), List.getElem?_eq_getElem (show j < zs.length by omega)] at e2
    have hp2 := List.pairwise_iff_getElem.1 hnd2
    have e3 := Option.some.inj (by simpa using e2 : some zs[i] = some zs[j])
    rcases Nat.lt_trichotomy i j with hlt | hlt | hlt
    · exact absurd e3 (hp2 i j (by omega) (by omega) hlt)
    · exact hlt
    · exact absurd e3.symm (hp2 j i (by omega) (by omega) hlt)

theorem comp_ints {w : World} {b n c : Nat} {g : Nat → Int} (h : IntsLie w b g n) (hn : n ≤ 9223372036854775807) (hc : n ≤ c) (hd : ∀ i, i < n → 0 < i → g i ≠ g (i - 1)) :
    Calls Tryz.prog 115 #[.slice (some ⟨b, 0, none⟩) n c] w fun e w' => e = .returned (.slice (some ⟨b, 0, none⟩) n c) ∧ IntsLie w' b g n ∧ w.grownBy w' (some b) := by
  have hs := Any.slices_Compact_int laysComp b 0 c ((List.range n).map g) w (intsLie_holds h) (by simpa using hn) (by simpa using hc)
  have hk : Lib.compact ((List.range n).map g) = (List.range n).map g := Lib.compact_all _ fun j hj => by
    have hj2 : j < n := by simpa using hj
    unfold Lib.keeps
    rw [decide_eq_true_iff]
    by_cases h0 : j = 0
    · exact .inl h0
    · right
      have h1 := hd j hj2 (by omega)
      rw [getElem!_pos _ j (by simpa using hj2), getElem!_pos _ (j - 1) (by simp; omega)]
      simpa using h1
  rw [hk] at hs
  simp only [List.length_map, List.length_range, Nat.sub_self, List.replicate_zero, List.append_nil] at hs
  refine Calls.mono hs fun e w' ⟨he, q, hw⟩ => ?_
  subst hw
  have h1 := heap_put (os := #[]) (q := q) h (zs := (List.range n).map g) (by simp)
  have h2 := grownBy_sortedI (w := w) (g := b) (n := q) (os := #[]) ((List.range n).map g).toArray
  rw [grow_empty] at h1 h2
  refine ⟨he, h1.congr fun i hi => ?_, h2⟩
  rw [List.getD_eq_getElem?_getD, List.getElem?_map, List.getElem?_range hi]
  rfl
end Go.Proofs.YtdocclkphffpkaaGreat
