/- sorted: the keys of a map, in whatever order they come, as a row of places. -/
import Derived.Test.YtdocclkphffpkaaGreatLfAxSort
import Derived.Test.YtdocclkphffpkaaGreatPlGroup
import Derived.Lib.AppendZeros
namespace Go.Proofs.YtdocclkphffpkaaGreat
open Go.RowKit
open Go.ChangeMaps (setBlock)

/-- The keys that have come. -/
structure SeenP (E : List Spot) (seen : Array Nat) (n : Nat) (P : Nat → Spot) : Prop where
  size : seen.size = n
  nodup : seen.toList.Nodup
  at_ : ∀ i, i < n → ∃ k, seen[i]? = some k ∧ E[k]? = some (P i)
def sliceLen : Value → Nat
  | .slice _ n _ => n
  | _ => 0

theorem SeenP.le {E : List Spot} {seen : Array Nat} {n : Nat} {P : Nat → Spot} (h : SeenP E seen n P) : n ≤ E.length := by
  have hsub : seen.toList ⊆ List.range E.length := fun k hk => by
    obtain ⟨i, hi, e⟩ := List.mem_iff_getElem.1 hk
    have hi2 : i < n := by rw [← h.size, ← Array.length_toList]; exact hi
    obtain ⟨k', h1, h2⟩ := h.at_ i hi2
    rw [← Array.getElem?_toList, List.getElem?_eq_getElem hi] at h1
    rw [e] at h1
    obtain rfl := Option.some.inj h1
    exact List.mem_range.2 (List.getElem?_eq_some_iff.1 h2).1
  have := List.Nodup.length_le_of_subset h.nodup hsub
  rw [Array.length_toList, h.size, List.length_range] at this
  exact this
theorem SeenP.inj {E : List Spot} {seen : Array Nat} {n : Nat} {P : Nat → Spot} (h : SeenP E seen n P) (hE : E.Nodup) : ∀ i j, i < n → j < n → P i = P j → i = j := fun i j hi hj e => by
  obtain ⟨k, h1, h2⟩ := h.at_ i hi
  obtain ⟨k', h3, h4⟩ := h.at_ j hj
  rw [e] at h2
  have hk : k = k' := by
    obtain ⟨a1, a2⟩ := List.getElem?_eq_some_iff.1 h2
    obtain ⟨b1, b2⟩ := List.getElem?_eq_some_iff.1 h4
    have hp := List.pairwise_iff_getElem.1 hE
    rcases Nat.lt_trichotomy k k' with hlt | hlt | hlt
    · exact absurd (a2.trans b2.symm) (hp k k' a1 b1 hlt)
    · exact hlt
    · exact absurd (b2.trans a2.symm) (hp k' k b1 a1 hlt)
  subst hk
  rw [← Array.getElem?_toList] at h1 h3
  obtain ⟨a1, a2⟩ := List.getElem?_eq_some_iff.1 h1
  obtain ⟨b1, b2⟩ := List.getElem?_eq_some_iff.1 h3
  have hp := List.pairwise_iff_getElem.1 h.nodup
  rcases Nat.lt_trichotomy i j with hlt | hlt | hlt
  · exact absurd (a2.trans b2.symm) (hp i j a1 b1 hlt)
  · exact hlt
  · exact absurd (b2.trans a2.symm) (hp j i b1 a1 hlt)
theorem SeenP.push {E : List Spot} {es : Array MapEntry} {seen : Array Nat} {n : Nat} {P : Nat → Spot} (h : SeenP E seen n P) (hk : KeysAre es E) {e : MapEntry} (he : e ∈ (leftOf es seen).toList) : ∃ p, p ∈ E ∧ e.key = zval (some p) ∧ SeenP E (seen.push e.born) (n + 1) (fun i => if i = n then p else P i) := by
  have he2 : e ∈ es ∧ ¬ seen.contains e.born = true := by
    have := he
    unfold leftOf at this
    simpa using this
  obtain ⟨j, hj, ej⟩ := List.mem_iff_getElem.1 (Array.mem_toList_iff.2 he2.1)
  have hjs : j < es.size := by rw [← Array.length_toList]; exact hj
  have hjE : j < E.length := by rw [← hk.size]; exact hjs
  obtain ⟨e', h1, h2, h3⟩ := hk.at_ j E[j] (List.getElem?_eq_getElem hjE)
  rw [← Array.getElem?_toList, List.getElem?_eq_getElem hj, ej] at h1
  obtain rfl := Option.some.inj h1
  refine ⟨E[j], List.getElem_mem hjE, h2, by simp [h.size], ?_, fun i hi => ?_⟩
  · rw [Array.toList_push, List.nodup_append]
    refine ⟨h.nodup, by simp, fun a ha c hc => ?_⟩
    obtain rfl := List.mem_singleton.1 hc
    intro e2
    subst e2
    exact he2.2 (by simpa using ha)
  · by_cases hin : i = n
    · subst hin
      rw [if_pos rfl]
      exact ⟨e.born, by rw [← h.size]; simp, by rw [h3]; exact List.getElem?_eq_getElem hjE⟩
    · rw [if_neg hin]
      obtain ⟨k, a1, a2⟩ := h.at_ i (by omega)
      exact ⟨k, by rw [Array.getElem?_push_lt (by rw [h.size]; omega), ← Array.getElem?_eq_getElem]; exact a1, a2⟩
/-- All have come. -/
theorem SeenP.all {E : List Spot} {es : Array MapEntry} {seen : Array Nat} {n : Nat} {P : Nat → Spot} (h : SeenP E seen n P) (hk : KeysAre es E) (h0 : (leftOf es seen).size = 0) : n = E.length ∧ (∀ i, i < n → P i ∈ E) ∧ ∀ p ∈ E, ∃ i, i < n ∧ P i = p := by
  have hall : ∀ p ∈ E, ∃ i, i < n ∧ P i = p := fun p hp => by
    obtain ⟨j, hj, ej⟩ := List.mem_iff_getElem.1 hp
    obtain ⟨e, h1, h2, h3⟩ := hk.at_ j E[j] (List.getElem?_eq_getElem hj)
    have hin : e.born ∈ seen.toList := by
      by_cases hc : seen.contains e.born = true
      · simpa using hc
      · have : e ∈ leftOf es seen := by
          unfold leftOf
          rw [Array.mem_filter]
          exact ⟨Array.mem_of_getElem? h1, by simpa using hc⟩
        have := Array.size_pos_of_mem this
        omega
    obtain ⟨i, hi, ei⟩ := List.mem_iff_getElem.1 hin
    have hi2 : i < n := by rw [← h.size, ← Array.length_toList]; exact hi
    obtain ⟨k, a1, a2⟩ := h.at_ i hi2
    rw [← Array.getElem?_toList, List.getElem?_eq_getElem hi, ei] at a1
    obtain rfl := Option.some.inj a1
    rw [h3, List.getElem?_eq_getElem hj] at a2
    exact ⟨i, hi2, by rw [← Option.some.inj a2, ej]⟩
  have hmem : ∀ i, i < n → P i ∈ E := fun i hi => by
    obtain ⟨k, _, a2⟩ := h.at_ i hi
    exact List.mem_of_getElem? a2
  refine ⟨Nat.le_antisymm h.le ?_, hmem, hall⟩
  -- every place of E is one of the first n
  have hmap : ∀ k, k < E.length → ∃ i, i < n ∧ seen[i]? = some k := fun k hk2 => by
    obtain ⟨e, h1, h2, h3⟩ := hk.at_ k E[k] (List.getElem?_eq_getElem hk2)
    by_cases hc : seen.contains e.born = true
    · have hin : e.born ∈ seen.toList := by simpa using hc
      obtain ⟨i, hi, ei⟩ := List.mem_iff_getElem.1 hin
      exact ⟨i, by rw [← h.size, ← Array.length_toList]; exact hi, by rw [← Array.getElem?_toList, List.getElem?_eq_getElem hi, ei, h3]⟩
    · have : e ∈ leftOf es seen := by
        unfold leftOf
        rw [Array.mem_filter]
        exact ⟨Array.mem_of_getElem? h1, by simpa using hc⟩
      have := Array.size_pos_of_mem this
      omega
  have hsub : List.range E.length ⊆ seen.toList := fun k hk2 => by
    obtain ⟨i, hi, e⟩ := hmap k (List.mem_range.1 hk2)
    rw [← Array.getElem?_toList] at e
    exact List.mem_of_getElem? e
  have := List.Nodup.length_le_of_subset List.nodup_range hsub
  rw [List.length_range] at this
  have hs := h.size
  rw [← Array.length_toList] at hs
  omega

theorem run_len_map {w : World} {b : Nat} {es : Array MapEntry} {c : Nat} (h : w.heap[b]? = some (.map es c)) (ty : TypeId) : (Builtin.len_ #[MT] ty #[.map (some b)]).run Tryz.prog w = .ok (.int .i64 (es.size : Int)) w := by
  have hg : (getObj b).run Tryz.prog w = .ok (.map es c) w := MapKept.run_getObj_map h
  simp [Builtin.len_, hg, goInt]

theorem ownZ_keep {X Y : World} {base n : Nat} {v : Value} {Z : Nat → Pl} (h : OwnZ X base v n Z) (hk : ∀ (g : Nat) (cs : Array Value), X.heap[g]? = some (.cells cs 55 (0, 0)) → Y.heap[g]? = X.heap[g]?) : OwnZ Y base v n Z :=
  ⟨h.1, h.2.imp id fun ⟨g, cap, cur, e, hb, hg, rest⟩ => ⟨g, cap, cur, e, hb, (hk g _ hg).trans hg, rest⟩⟩
theorem own_lt {w : World} {base n g : Nat} {v : Value} {Z : Nat → Pl} (h : OwnZ w base v n Z) (hg : v.ownBlock = some g) : base ≤ g ∧ g < w.heap.size ∧ ∃ cs, w.heap[g]? = some (.cells cs 55 (0, 0)) := by
  rcases h.2 with ⟨rfl, _⟩ | ⟨k, cap, cur, rfl, hb, hk, _⟩
  · cases hg
  · obtain rfl : k = g := by simpa [Value.ownBlock] using hg
    exact ⟨hb, (Array.getElem?_eq_some_iff.1 hk).1, _, hk⟩
theorem born_lt {es : Array MapEntry} {E : List Spot} (h : KeysAre es E) : ∀ x ∈ es.toList, x.born < es.size := fun x hx => by
  obtain ⟨i, hi, e⟩ := List.mem_iff_getElem.1 hx
  have his : i < es.size := by rw [← Array.length_toList]; exact hi
  have hiE : i < E.length := by rw [← h.size]; exact his
  obtain ⟨e', h1, _, h3⟩ := h.at_ i E[i] (List.getElem?_eq_getElem hiE)
  rw [← Array.getElem?_toList, List.getElem?_eq_getElem hi, e] at h1
  obtain rfl := Option.some.inj h1
  omega
theorem born_nodup {es : Array MapEntry} {E : List Spot} (h : KeysAre es E) : (es.toList.map (·.born)).Nodup := by
  have e : es.toList.map (·.born) = List.range es.size := by
    apply List.ext_getElem?
    intro i
    rw [List.getElem?_map]
    by_cases hi : i < es.size
    · rw [List.getElem?_range hi]
      have hiE : i < E.length := by rw [← h.size]; exact hi
      obtain ⟨e', h1, _, h3⟩ := h.at_ i E[i] (List.getElem?_eq_getElem hiE)
      rw [Array.getElem?_toList, h1, Option.map_some, h3]
    · rw [List.getElem?_eq_none (by simp; omega), List.getElem?_eq_none (by simp; omega)]
      rfl
  rw [e]
  exact List.nodup_range

set_option maxRecDepth 20000 in
set_option maxHeartbeats 1000000 in
theorem sorted_any (w : World) (b base N : Nat) (E : List Spot) (es : Array MapEntry) (h : MapZ w b base N E es) (hE : E.length ≤ 4096) :
    Calls Tryz.prog 91 #[.map (some b)] w fun e w' => ∃ (B : Nat) (P : Nat → Spot), e = .returned (.slice (some ⟨B, 0, none⟩) E.length E.length) ∧ RowIs w' B 55 (fun i => zval (some (P i))) E.length ∧
      (∀ i, i < E.length → P i ∈ E) ∧ (∀ p, p ∈ E → ∃ i, i < E.length ∧ P i = p) ∧ Below w.heap.size w w' := by
  have hl := fun ty => run_len_map (w := w) h.obj ty
  have hsz := h.keys.size
  obtain ⟨c, ec⟩ : ∃ c, c = es.size := ⟨_, rfl⟩
  have m1 : (Instr.makeSlice 29 (.int .i64 0) (.int .i64 (c : Int))).run Tryz.prog w = _ := make_zs 0 c (Nat.zero_le _) (by omega) w
  obtain ⟨w1, hw1⟩ : ∃ w1, w1 = w.alloc (.cells (plsOf (fun _ => some (0, 0)) c).toArray 55) := ⟨_, rfl⟩
  have b1 : Below w.heap.size w w1 := by rw [hw1]; exact (Below.refl _ _).alloc (Nat.le_refl _) _
  have s1 : w1.heap.size = w.heap.size + 1 := by rw [hw1, World.size_alloc]
  have h1 := h.later b1
  have hr := run_range_map (P := Tryz.prog) w1 MT 55 138 b es es.size Tryz.underlying135 h1.obj
  have o1 : OwnZ w1 w.heap.size (.slice (some ⟨w.heap.size, 0, none⟩) 0 c) 0 (fun _ => none) := by rw [hw1]; exact ownZ_made w c (by omega) _
  obtain ⟨w2, hw2⟩ : ∃ w2, w2 = w1.alloc (.mapIter (some b) es.size #[] es.size) := ⟨_, rfl⟩
  have b2 : Below w1.heap.size w1 w2 := by rw [hw2]; exact (Below.refl _ _).alloc (Nat.le_refl _) _
  have h2 := h1.later b2
  have i2 : w2.heap[w.heap.size + 1]? = some (.mapIter (some b) es.size #[] es.size) := by rw [hw2, ← s1]; exact heap_alloc_new w1 _
  have o2 := o1.below_ b2
  rw [← hw1] at m1
  rw [← hw2, s1] at hr
  rw [← ec] at hl
  have EC := Lib.hid ec
  have H := Lib.hid h2
  have I2 := Lib.hid i2
  have O2 := Lib.hid o2
  have B2 : Hid (Below w.heap.size w w2) := Lib.hid (b1.trans (b2.mono (by omega)))
  have S2 : Hid (w.heap.size + 2 ≤ w2.heap.size) := Lib.hid (by rw [hw2, World.size_alloc]; omega)
  have BLT := Lib.hid h.lt
  clear h h1 h2 i2 o1 o2 b1 b2 hw1 hw2 ec hsz
  go_enter Tryz.func91, Tryz.ntmps91
  go_wp2
  clear hl m1 hr s1
  have HBORN : Hid (∀ x ∈ es.toList, x.born < es.size) := Lib.hid (born_lt H.out.keys)
  have HND : Hid ((es.toList.map (·.born)).Nodup) := Lib.hid (born_nodup H.out.keys)
  go_loopw [3] (fun v wr => ∃ (n : Nat) (seen : Array Nat) (P : Nat → Spot), wr.heap[w.heap.size + 1]? = some (.mapIter (some b) es.size seen es.size) ∧ MapZ wr b base N E es ∧ SeenP E seen n P ∧ OwnZ wr w.heap.size v n (fun i => some (P i)) ∧ Below w.heap.size w wr ∧ w.heap.size + 2 ≤ wr.heap.size) (fun v _ => E.length - sliceLen v)
  case atStart => exact ⟨0, #[], fun _ => (0, 0), I2.out, H.out, ⟨rfl, List.nodup_nil, fun i hi => absurd hi (by omega)⟩, O2.out.congr fun i hi => absurd hi (by omega), B2.out, S2.out⟩
  case round =>
    clear H I2 O2 B2 S2
    obtain ⟨n, seen, P, hit, hm, hs, ho, hb, hsz⟩ := hrel
    have HM := Lib.hid hm
    have HS := Lib.hid hs
    have HO := Lib.hid ho
    have HB := Lib.hid hb
    have HSZ := Lib.hid hsz
    have HIT := Lib.hid hit
    have hnx := run_next_at (P := Tryz.prog) wr 0 (w.heap.size + 1) b es.size es.size seen es es.size hit hm.obj HBORN.out (Nat.le_refl _)
    clear hm hs ho hb hsz hit
    rcases hnx with ⟨h0, hn⟩ | ⟨e, he, w1, hw1, hn⟩
    · have H0 := Lib.hid h0
      clear h0
      go_wp2_with fail
      refine (axisSort_any _ n P wr HO.out.reads (fun i hi => ?_) (HS.out.inj HM.out.nodup) (by have := HS.out.le; omega)).mono ?_
      · obtain ⟨k, _, hk⟩ := HS.out.at_ i hi
        exact HM.out.keys.ok _ (List.mem_of_getElem? hk)
      rintro e w3 ⟨B, P', rfl, hrow, hp1, hp2, hb3⟩
      obtain ⟨hn1, hn2, hn3⟩ := HS.out.all HM.out.keys H0.out
      have FIN : Hid (RowIs w3 B 55 (fun i => zval (some (P' i))) E.length ∧ (∀ i, i < E.length → P' i ∈ E) ∧ (∀ p, p ∈ E → ∃ i, i < E.length ∧ P' i = p) ∧ Below w.heap.size w w3) := Lib.hid (by
        rw [← hn1]
        refine ⟨hrow, fun i hi => ?_, fun p hp => ?_, HB.out.trans (hb3.mono HB.out.size)⟩
        · obtain ⟨j, hj, e⟩ := hp1 i hi
          rw [e]; exact hn2 j hj
        · obtain ⟨j, hj, e⟩ := hn3 p hp
          obtain ⟨i, hi, e2⟩ := hp2 j hj
          exact ⟨i, hi, e2.trans e⟩)
      have HN1 := Lib.hid hn1
      clear hrow hp1 hp2 hn1 hn2 hn3 hb3 hn
      go_wp2
      go_ret
      exact ⟨B, P', by first | rfl | (rw [HN1.out]; rfl), FIN.out⟩
    · obtain ⟨w2, hw2⟩ : ∃ w2, w2 = setBlock w1 (w.heap.size + 1) (.mapIter (some b) es.size (seen.push e.born) es.size) := ⟨_, rfl⟩
      rw [← hw2] at hn
      have hh1 : ∀ g : Nat, w1.heap[g]? = wr.heap[g]? := fun g => by rcases hw1 with rfl | rfl <;> rfl
      have hs1 : w1.heap.size = wr.heap.size := by rcases hw1 with rfl | rfl <;> rfl
      have hx := MapKept.heap_set (w := w1) (o' := .mapIter (some b) es.size (seen.push e.born) es.size) ((hh1 _).trans HIT.out)
      have it2 : w2.heap[w.heap.size + 1]? = some (.mapIter (some b) es.size (seen.push e.born) es.size) := by rw [hw2]; exact hx.1
      have k2 : ∀ g, g ≠ w.heap.size + 1 → w2.heap[g]? = wr.heap[g]? := fun g hg => by rw [hw2]; exact (hx.2 g hg).trans (hh1 g)
      have s2 : w2.heap.size = wr.heap.size := by rw [hw2]; show (w1.heap.setIfInBounds _ _).size = _; rw [Array.size_setIfInBounds, hs1]
      have hbr : b ≠ w.heap.size + 1 := fun e => by have := HM.out.obj; rw [e, HIT.out] at this; cases this
      have hcr : ∀ {g : Nat} {cs : Array Value} {T : TypeId} {fr : Nat × Nat}, wr.heap[g]? = some (.cells cs T fr) → g ≠ w.heap.size + 1 := fun {g cs T fr} hg e => by rw [e, HIT.out] at hg; cases hg
      have hm2 : MapZ w2 b base N E es := HM.out.cells (k2 b hbr) fun g cs hc => k2 g (hcr hc)
      have ho2 : OwnZ w2 w.heap.size u3 n (fun i => some (P i)) := ownZ_keep HO.out fun g cs hc => k2 g (hcr hc)
      have hb2 : Below w.heap.size w w2 := ⟨by rw [hw2]; rcases hw1 with rfl | rfl <;> exact HB.out.os, by rw [hw2]; rcases hw1 with rfl | rfl <;> exact HB.out.tape, by rw [hw2]; rcases hw1 with rfl | rfl <;> exact HB.out.output, by rw [s2]; exact HB.out.size, fun g hg => (k2 g (by omega)).trans (HB.out.block g hg)⟩
      obtain ⟨p, hpE, hkey, hsp⟩ := HS.out.push HM.out.keys he
      have hent := run_entry_at (P := Tryz.prog) w2 (w.heap.size + 1) b es.size seen es es.size e it2 hm2.obj (by have := he; unfold leftOf at this; have := (Array.mem_filter.1 (Array.mem_toList_iff.1 this)).1; exact Array.mem_toList_iff.2 this) HND.out
      rw [hkey] at hn hent
      have ho3 := ho2.congr (Z' := fun i => some (if i = n then p else P i)) fun i hi => by rw [if_neg (by omega)]
      obtain ⟨v', w4, r1, r2, r3, r4⟩ := run_z (p := some p) 29 ho3 (by rw [if_pos rfl]) (by have := HS.out.le; omega) (by rw [s2]; have := HSZ.out; omega)
      have R1 := Lib.hid r1
      have HP := Lib.hid hsp
      have it4 : w4.heap[w.heap.size + 1]? = some (.mapIter (some b) es.size (seen.push e.born) es.size) := by
        rw [r4.block _ (by rw [World.size_alloc, s2]; have := HSZ.out; omega) (fun ev => by
          obtain ⟨_, _, cs, hcs⟩ := own_lt ho2 ev.symm
          rw [it2] at hcs; cases hcs), heap_alloc_old w2 _ (by rw [s2]; have := HSZ.out; omega)]
        exact it2
      have hm4 : MapZ w4 b base N E es := by
        refine (hm2.later ((Below.refl w2.heap.size w2).alloc (Nat.le_refl _) (.cells #[zval (some p)] 55))).cells ?_ fun g cs hc => ?_
        · refine r4.block b (by rw [World.size_alloc]; have := hm2.lt; omega) (fun ev => ?_)
          obtain ⟨_, _, cs, hcs⟩ := own_lt ho2 ev.symm
          rw [hm2.obj] at hcs; cases hcs
        · refine r4.block g (Array.getElem?_eq_some_iff.1 hc).1 (fun ev => ?_)
          obtain ⟨_, hlt, cs', hcs⟩ := own_lt ho2 ev.symm
          rw [heap_alloc_old w2 _ hlt, hcs] at hc
          simp only [Option.some.injEq, Obj.cells.injEq] at hc
          exact absurd hc.2.1 (by decide)
      have hb4 : Below w.heap.size w w4 := (hb2.alloc hb2.size (.cells #[zval (some p)] 55)).grown r4 (by rw [World.size_alloc]; have := hb2.size; omega) fun k hk => (own_lt ho2 hk).1
      have FIN : Hid (w4.heap[w.heap.size + 1]? = some (.mapIter (some b) es.size (seen.push e.born) es.size) ∧ MapZ w4 b base N E es ∧ OwnZ w4 w.heap.size v' (n + 1) (fun i => some (if i = n then p else P i)) ∧ Below w.heap.size w w4 ∧ w.heap.size + 2 ≤ w4.heap.size) := Lib.hid ⟨it4, hm4, r2, hb4, by have := r4.size; rw [World.size_alloc, s2] at this; have := HSZ.out; omega⟩
      have LE : Hid (n + 1 ≤ E.length) := Lib.hid hsp.le
      have LN : Hid (sliceLen u3 = n ∧ sliceLen v' = n + 1) := Lib.hid ⟨by
        rcases ho2.2 with ⟨rfl, rfl⟩ | ⟨_, _, _, rfl, _⟩ <;> rfl, by obtain ⟨g, cap, rfl⟩ := r3; rfl⟩
      have ezv : zval (some p) = .complex .f64 (fl p.1) (fl p.2) := rfl
      rw [ezv] at hn hent R1
      clear hw2 hh1 hs1 hx it2 k2 s2 hbr hcr hm2 ho2 hb2 hkey ho3 r1 r2 r3 r4 it4 hm4 hb4 hsp hw1 he HO ezv
      go_wp2_with (at_builtin; refine Lib.wpList_append_run _ rfl (.tmp 14) (.tmp 16) _ _ rfl _ _ rfl rfl v' w4 R1.out ?_)
      clear hn hent
      go_roundw
      case rel => exact ⟨n + 1, seen.push e.born, _, FIN.out.1, FIN.out.2.1, HP.out, FIN.out.2.2.1, FIN.out.2.2.2⟩
      case measure => have := LN.out; have := LE.out; simp; omega
end Go.Proofs.YtdocclkphffpkaaGreat
