/- Bytes appended to bytes of the call's own: any, and so many 0. -/
import Derived.Test.YtodejfkbiefeoaaSealAwake
import Derived.Lib.AppendZeros
import Derived.Laws.OwnMore
namespace Go.Proofs.Ytodejfkbiefeoaa
open Go.RowKit

theorem cells_behind (f g : Nat → Nat) (n m : Nat) : cellsOf f n ++ cellsOf g m = cellsOf (behind f n g) (n + m) := by
  apply List.ext_getElem?
  intro i
  by_cases hi : i < n
  · rw [List.getElem?_append_left (by rw [cellsOf_length]; exact hi), cellsOf_at f hi, cellsOf_at _ (by omega)]
    unfold behind
    rw [if_pos hi]
  · rw [List.getElem?_append_right (by rw [cellsOf_length]; omega), cellsOf_length]
    by_cases hm : i < n + m
    · rw [cellsOf_at g (by omega), cellsOf_at _ hm]
      unfold behind
      rw [if_neg hi]
    · rw [List.getElem?_eq_none (by rw [cellsOf_length]; omega), List.getElem?_eq_none (by rw [cellsOf_length]; omega)]

/-- The value is a row of the call's own, of just these bytes. -/
def Own (w : World) (base : Nat) (v : Value) (n : Nat) (f : Nat → Nat) : Prop := w.ownsRow base 5 1 v n (cellsOf f n)

theorem Own.grown_below {w w' w0 : World} {base n B : Nat} {v : Value} {f : Nat → Nat} (h : Own w base v n f) (hb : Below B w0 w) (hB : B ≤ base) (hB2 : B ≤ w.heap.size) (hg : w.grownBy w' v.ownBlock) : Below B w0 w' :=
  hb.grown hg hB2 fun k hk => Nat.le_trans hB (h.lt k hk).1
theorem Own.row {w : World} {base n : Nat} {v : Value} {f : Nat → Nat} (h : Own w base v n f) (hn : v ≠ .slice none 0 0) : Row base w v n f := by
  obtain ⟨_, h2⟩ := h
  rcases h2 with ⟨rfl, _⟩ | ⟨g, cap, cur, rfl, hb, hg, hnc, hm, _, ht⟩
  · exact absurd rfl hn
  · refine ⟨g, cap, cur, rfl, hb, hnc, by unfold maxLen at hm; omega, hg, fun i hi => ?_⟩
    have h1 : (cellsOf f n)[i]? = some (.int .u8 (f i : Int)) := cellsOf_at f hi
    rw [← ht, List.getElem?_take] at h1
    split at h1
    · simpa using h1
    · cases h1
theorem own_new (w : World) (f : Nat → Nat) : Own (w.alloc (.cells #[] 5)) w.heap.size (.slice (some ⟨w.heap.size, 0, none⟩) 0 0) 0 f :=
  World.ownsRow_lit w #[] 0 (Nat.le_refl _) (by decide) rfl

theorem bare_of {w : World} {A : Option Addr} {n c : Nat} {Z : List Int} (h : IntsIn w .u8 A n c Z) : A = none → c = 0 := fun e => (h.bare e).2

/-- Any bytes behind them. -/
theorem run_bytes {w : World} {base n m c : Nat} {v : Value} {f g : Nat → Nat} {A : Option Addr} (ty : TypeId) (h : Own w base v n f) (hv : v ≠ .slice none 0 0) (hs : BytesAt w A m g) (hbare : A = none → c = 0)
    (hm : n + m ≤ 140737488355328) (hb : base ≤ w.heap.size) :
    ∃ v' w', (Builtin.append_ #[23, 23] ty #[v, .slice A m c]).run Try.prog w = .ok v' w' ∧ Own w' base v' (n + m) (behind f n g) ∧ v' ≠ .slice none 0 0 ∧ w.grownBy w' v.ownBlock := by
  obtain ⟨i0, hi, hz0, hz1, hz2⟩ := info_parts byte_info
  cases A with
  | none =>
    have hm0 : m = 0 := by
      rcases Nat.eq_zero_or_pos m with h0 | h0
      · exact h0
      · obtain ⟨ad, e⟩ := hs.addr h0; cases e
    obtain rfl := hbare rfl
    subst hm0
    refine ⟨v, w, run_append_owned_none (P := Try.prog) (w := w) base 23 ty 5 i0 1 Try.underlying23 hi v n _ h, ?_, hv, ⟨rfl, rfl, rfl, Nat.le_refl _, fun _ _ _ => rfl⟩⟩
    unfold Own at h ⊢
    have := cells_behind f g n 0
    rw [Nat.add_zero] at this ⊢
    rw [← this]
    simpa [cellsOf] using h
  | some ad =>
    obtain ⟨v', w', h1, h2, h3, h4⟩ := run_append_own (P := Try.prog) w base 23 ty 5 i0 _ 1 1 Try.underlying23 hi hz0 hz1 hz2 rfl (by decide) v n _ h ad m c (cellsOf g m) (by rw [cellsOf_length, Nat.mul_one])
      (fun j u hj => by obtain ⟨hl, rfl⟩ := cellsOf_inv hj; exact hs.at_ hl) (cellsOf_one g m) (by unfold maxLen; omega) (by omega) hb
    refine ⟨v', w', h1, ?_, fun e => hv (h4.1 e).1, h3⟩
    unfold Own
    rw [← cells_behind]
    exact h2

theorem zero_cells (k : Nat) : Builtin.zeroCells #[.int .u8 0] k = (cellsOf (fun _ => 0) k).toArray := by
  rw [← zeros_made]
  unfold Builtin.zeroCells madeCells
  rw [show (#[Value.int .u8 0] : Array Value).size = 1 from rfl, Nat.mul_one]

/-- So many 0 behind them. -/
theorem run_zeros {w : World} {base n k : Nat} {v : Value} {f : Nat → Nat} (ty : TypeId) (h : Own w base v n f) (hv : v ≠ .slice none 0 0) (hm : n + k ≤ 140737488355328) (hb : base ≤ w.heap.size) :
    ∃ v' w', (Builtin.append_ #[23, 3] ty #[v, .int .i64 (k : Int)]).run Try.prog w = .ok v' w' ∧ Own w' base v' (n + k) (behind f n fun _ => 0) ∧ v' ≠ .slice none 0 0 ∧ w.grownBy w' v.ownBlock := by
  obtain ⟨i0, hi, hz0, hz1, hz2⟩ := info_parts byte_info
  have hx := h
  obtain ⟨_, h2⟩ := h
  rcases h2 with ⟨rfl, _⟩ | ⟨g, cap, cur, rfl, hbg, hg, hnc, hcm, hcs, ht⟩
  · exact absurd rfl hv
  rw [Nat.mul_one] at hcs ht
  have hw : IntKind.i64.wrap (k : Int) = k := by rw [IntKind.wrap_i64]; omega
  have hneg : ¬ ((k : Int) < 0) := by omega
  have h48i : ¬ (281474976710656 < (k : Int)) := by omega
  have hzc : ∀ j, Builtin.zeroCells (Value.int .u8 0).cells j = (cellsOf (fun _ => 0) j).toArray := fun j => zero_cells j
  by_cases hroom : n + k ≤ cap
  · have hst := run_storeCells_at Try.prog g n 5 (cellsOf (fun _ => 0) k) 0 cur w hg (by rw [cellsOf_length]; omega) (cellsOf_one _ k)
    rw [Nat.add_zero, cellsOf_length] at hst
    refine ⟨.slice (some ⟨g, 0, none⟩) (n + k) cap, w.setRow g (cur.toList.take n ++ cellsOf (fun _ => 0) k ++ cur.toList.drop (n + k)).toArray, ?_, ?_, (by intro e; cases e), ⟨rfl, rfl, rfl, by simp [World.setRow], fun j _ hj => setRow_other w g j _ (fun e => hj (by simp [Value.ownBlock, e]))⟩⟩
    · by_cases hk : k = 0
      · subst hk
        have e0 : cellsOf (fun _ => 0) 0 = [] := rfl
        have hw0 : IntKind.i64.wrap 0 = 0 := by decide
        rw [e0] at hst ⊢
        simp only [List.append_nil, Nat.add_zero, List.take_append_drop, Array.toArray_toList] at hst ⊢
        simp [Builtin.append_, run_underlying Try.underlying23, run_underlying Try.underlying3, sizeOf, typeInfo, hi, asInt, asIntOf, hw0, hz1, Addr.add_lit, hnc, hst]
      · simp [Builtin.append_, run_underlying Try.underlying23, run_underlying Try.underlying3, sizeOf, typeInfo, zeroValue, hi, hz0, asInt, asIntOf, hw, hneg, h48i, hz1, hz2, hzc, hk, hroom, Addr.add_lit, hst]
    · refine ⟨by rw [cellsOf_length, Nat.mul_one], .inr ⟨g, cap, _, rfl, hbg, setRow_heap w g cur _ _ _ hg, hroom, hcm, ?_, ?_⟩⟩
      · simp [cellsOf_length]
        omega
      · rw [Nat.mul_one, ht, ← cells_behind]
        rw [List.take_append_of_le_length (by simp [cellsOf_length]), List.take_of_length_le (by simp [cellsOf_length])]
  · have hk : k ≠ 0 := by omega
    have holds : ∀ j u, (cellsOf f n)[j]? = some u → w.cell? ((⟨g, 0, none⟩ : Addr).add j) = some u := hx.cells (g := g) rfl
    have hfo := run_firstCells_some (P := Try.prog) w.drew 1 n ⟨g, 0, none⟩ n cap (cellsOf f n) (by rw [cellsOf_length, Nat.mul_one]) (by simpa using holds)
    have hfit := growslice_fits (need := n + k) (old := cap) (bytes := 1) (by omega) (by omega)
    rw [Nat.mul_one] at hfit
    have hge := grownCap_ge w (n + k) cap 5
    have hcm2 := grownCap_le_maxLen w (n + k) cap 5 (by unfold maxLen; omega)
    refine ⟨.slice (some ⟨w.heap.size, 0, none⟩) (n + k) (grownCap w (n + k) cap 5),
      w.drew.alloc (.cells ((cellsOf f n).toArray ++ (cellsOf (fun _ => 0) k).toArray ++ (cellsOf (fun _ => 0) (grownCap w (n + k) cap 5 - (n + k))).toArray) 5), ?_, ?_, (by intro e; cases e), ⟨rfl, rfl, rfl, by simp, fun j hj _ => heap_alloc_old w.drew _ hj⟩⟩
    · have h63' : ¬ (9223372036854775807 < ((n : Int) + (k : Int))) := by omega
      have h48' : ¬ (281474976710656 < Builtin.nextslicecap (n + k) cap) := by omega
      simp [Builtin.append_, run_underlying Try.underlying23, run_underlying Try.underlying3, sizeOf, typeInfo, zeroValue, hi, hz0, asInt, asIntOf, hw, hneg, h48i, hz1, hz2, hzc, hk, hroom, h63', h48', Question.forced, hfo, newRow, grownCap]
    · refine ⟨by rw [cellsOf_length, Nat.mul_one], .inr ⟨w.heap.size, _, _, rfl, hb, heap_alloc_new w.drew _, hge, hcm2, ?_, ?_⟩⟩
      · simp [cellsOf_length]
        omega
      · rw [Nat.mul_one, ← cells_behind]
        simp only [Array.toList_append]
        rw [List.take_append_of_le_length (by simp [cellsOf_length]), List.take_of_length_le (by simp [cellsOf_length])]

end Go.Proofs.Ytodejfkbiefeoaa
