/- Slices of places: that lie somewhere, in a block of the call's own; appended; made. Nothing of a program's functions. The place for which a text has a number. -/
import Derived.Test.YtdocclkphffpkaaGreatMerge2
import Derived.Test.YtdocclkphffpkaaGreatMerge3
import Derived.RangeFuncBox
import Derived.Maps.AppendAt
import Derived.Test.YtdocclkphffpkaaGreatLawKit
import Derived.IntWalk
namespace Go.Proofs.YtdocclkphffpkaaGreat
open Go.RowKit

/-- The slice reads as n places Z. -/
def ReadsZ (w : World) (v : Value) (n : Nat) (Z : Nat → Pl) : Prop :=
  ∃ A c, v = .slice A n c ∧ n ≤ c ∧ c ≤ 9223372036854775807 ∧ (A = none → c = 0) ∧ ∀ i, i < n → ∃ ad, A = some ad ∧ w.cell? (ad.add i) = some (zval (Z i))
theorem ReadsZ.below {w w' : World} {v : Value} {n : Nat} {Z : Nat → Pl} (h : ReadsZ w v n Z) (hb : Below w.heap.size w w') : ReadsZ w' v n Z := by
  obtain ⟨A, c, e, h1, h2, h3, hs⟩ := h
  exact ⟨A, c, e, h1, h2, h3, fun i hi => by obtain ⟨ad, e1, hc⟩ := hs i hi; exact ⟨ad, e1, cell_later hb hc⟩⟩
theorem ReadsZ.congr {w : World} {v : Value} {n : Nat} {Z Z' : Nat → Pl} (h : ReadsZ w v n Z) (he : ∀ i, i < n → Z i = Z' i) : ReadsZ w v n Z' := by
  obtain ⟨A, c, e, h1, h2, h3, hs⟩ := h
  exact ⟨A, c, e, h1, h2, h3, fun i hi => by rw [← he i hi]; exact hs i hi⟩
theorem readsZ_none (w : World) (Z : Nat → Pl) : ReadsZ w (.slice none 0 0) 0 Z := ⟨none, 0, rfl, Nat.le_refl _, by omega, fun _ => rfl, fun i hi => absurd hi (by omega)⟩
theorem ReadsZ.at_ {w : World} {ad : Addr} {n c : Nat} {Z : Nat → Pl} (h : ReadsZ w (.slice (some ad) n c) n Z) {i : Nat} (hi : i < n) : w.cell? (ad.add i) = some (zval (Z i)) := by
  obtain ⟨A, c', e, _, _, _, hs⟩ := h
  obtain ⟨ad', e1, hc⟩ := hs i hi
  cases e
  cases e1
  exact hc
theorem ReadsZ.addr {w : World} {A : Option Addr} {n c : Nat} {Z : Nat → Pl} (h : ReadsZ w (.slice A n c) n Z) (hn : 0 < n) : ∃ ad, A = some ad := by
  obtain ⟨A', c', e, _, _, _, hs⟩ := h
  obtain ⟨ad', e1, hc⟩ := hs 0 hn
  cases e
  exact ⟨ad', e1⟩

/-- The first n places of Z, as values. -/
def plsOf (Z : Nat → Pl) (n : Nat) : List Value := (List.range n).map fun i => zval (Z i)
theorem plsOf_length (Z : Nat → Pl) (n : Nat) : (plsOf Z n).length = n := by simp [plsOf]
theorem plsOf_at (Z : Nat → Pl) {n i : Nat} (h : i < n) : (plsOf Z n)[i]? = some (zval (Z i)) := by
  simp [plsOf, List.getElem?_range h]
theorem plsOf_congr {f g : Nat → Pl} {n : Nat} (h : ∀ i, i < n → f i = g i) : plsOf f n = plsOf g n := List.map_congr_left fun i hi => by rw [h i (List.mem_range.1 hi)]
theorem plsOf_next (Z : Nat → Pl) (n : Nat) : plsOf Z n ++ [zval (Z n)] = plsOf Z (n + 1) := by
  unfold plsOf
  rw [List.range_succ, List.map_append]
  rfl

/-- A row of the call's own, of just these places. -/
def OwnZ (w : World) (base : Nat) (v : Value) (n : Nat) (Z : Nat → Pl) : Prop := w.ownsRow base 55 1 v n (plsOf Z n)
theorem ownZ_none (w : World) (base : Nat) (Z : Nat → Pl) : OwnZ w base (.slice none 0 0) 0 Z := World.ownsRow_nil _ _ _ _
theorem OwnZ.reads {w : World} {base n : Nat} {v : Value} {Z : Nat → Pl} (h : OwnZ w base v n Z) : ReadsZ w v n Z := by
  have h0 := h
  rcases h.2 with ⟨rfl, rfl⟩ | ⟨b, cap, cur, rfl, _, hb, hnc, hm, _⟩
  · exact readsZ_none w Z
  · exact ⟨_, cap, rfl, hnc, by unfold maxLen at hm; omega, (by intro e; cases e), fun i hi => ⟨_, rfl, World.ownsRow.cells h0 (g := b) rfl i _ (plsOf_at Z hi)⟩⟩
theorem OwnZ.congr {w : World} {base n : Nat} {v : Value} {Z Z' : Nat → Pl} (h : OwnZ w base v n Z) (he : ∀ i, i < n → Z i = Z' i) : OwnZ w base v n Z' := by
  unfold OwnZ at h ⊢
  rw [← plsOf_congr he]
  exact h
theorem OwnZ.alloc {w : World} {base n : Nat} {v : Value} {Z : Nat → Pl} (h : OwnZ w base v n Z) (o : Obj) : OwnZ (w.alloc o) base v n Z := World.ownsRow.alloc h o
theorem OwnZ.below_ {w w' : World} {base n : Nat} {v : Value} {Z : Nat → Pl} (h : OwnZ w base v n Z) (hb : Below w.heap.size w w') : OwnZ w' base v n Z := owns_later h hb
theorem OwnZ.one {w : World} {base n : Nat} {v : Value} {Z : Nat → Pl} (h : OwnZ w base v n Z) : v.oneCell' = true := by
  rcases h.2 with ⟨rfl, _⟩ | ⟨b, cap, cur, rfl, _⟩ <;> rfl
theorem OwnZ.shape {w : World} {base n : Nat} {v : Value} {Z : Nat → Pl} (h : OwnZ w base v n Z) : ∃ A c, v = .slice A n c := by
  rcases h.2 with ⟨rfl, rfl⟩ | ⟨b, cap, cur, rfl, _⟩
  · exact ⟨_, _, rfl⟩
  · exact ⟨_, _, rfl⟩

theorem pl_info : (Tryz.prog.info? 55).map (fun i => (i.zero, i.size, i.bytes)) = some (some (.complex .f64 0 0), 1, 16) := by kernel_rfl
/-- One place behind them. -/
theorem run_z {w : World} {base n : Nat} {v : Value} {Z : Nat → Pl} {p : Pl} (ty : TypeId) (h : OwnZ w base v n Z) (hz : p = Z n) (hm : (n + 1) * 16 ≤ 140737488355328) (hb : base ≤ w.heap.size) :
    ∃ v' w', (Builtin.append_ #[29, 29] ty #[v, .slice (some ⟨w.heap.size, 0, none⟩) 1 1]).run Tryz.prog (w.alloc (.cells #[zval p] 55)) = .ok v' w' ∧ OwnZ w' base v' (n + 1) Z ∧
      (∃ g cap, v' = .slice (some ⟨g, 0, none⟩) (n + 1) cap) ∧ (w.alloc (.cells #[zval p] 55)).grownBy w' v.ownBlock := by
  obtain ⟨i0, hi, hz0, hz1, hz2⟩ := info_parts pl_info
  obtain ⟨v', w', h1, h2, h3, h4⟩ := run_append_own (P := Tryz.prog) (w.alloc (.cells #[zval p] 55)) base 29 ty 55 i0 _ 1 16 Tryz.underlying29 hi hz0 hz1 hz2 rfl (by decide) v n _ (h.alloc _) ⟨w.heap.size, 0, none⟩ 1 1 [zval p] rfl
    (cell_one_new _ _ _) (fun u hu => by simp at hu; subst hu; rfl) (by unfold maxLen; omega) hm (by simp; omega)
  refine ⟨v', w', h1, ?_, ownsRow_succ h2, h3⟩
  unfold OwnZ
  rw [← plsOf_next, ← hz]
  exact h2

/-- The same, and where the row then lies. -/
theorem run_z_at {w : World} {base n : Nat} {v : Value} {Z : Nat → Pl} {p : Pl} (ty : TypeId) (h : OwnZ w base v n Z) (hz : p = Z n) (hm : (n + 1) * 16 ≤ 140737488355328) (hb : base ≤ w.heap.size) :
    ∃ v' w', (Builtin.append_ #[29, 29] ty #[v, .slice (some ⟨w.heap.size, 0, none⟩) 1 1]).run Tryz.prog (w.alloc (.cells #[zval p] 55)) = .ok v' w' ∧ OwnZ w' base v' (n + 1) Z ∧
      (∃ g cap, v' = .slice (some ⟨g, 0, none⟩) (n + 1) cap) ∧ (w.alloc (.cells #[zval p] 55)).grownBy w' v.ownBlock ∧ (v'.ownBlock = v.ownBlock ∨ v'.ownBlock = some (w.heap.size + 1)) := by
  obtain ⟨i0, hi, hz0, hz1, hz2⟩ := info_parts pl_info
  obtain ⟨v', w', h1, h2, h3, h4, h5⟩ := run_append_own_at (P := Tryz.prog) (w := w.alloc (.cells #[zval p] 55)) base 29 ty 55 i0 _ 1 16 Tryz.underlying29 hi hz0 hz1 hz2 rfl (by decide) v n _ (h.alloc _) ⟨w.heap.size, 0, none⟩ 1 1 [zval p] rfl
    (cell_one_new _ _ _) (fun u hu => by simp at hu; subst hu; rfl) (by unfold maxLen; omega) hm (by simp; omega)
  refine ⟨v', w', h1, ?_, ownsRow_succ h2, h3, by rw [World.size_alloc] at h5; exact h5⟩
  unfold OwnZ
  rw [← plsOf_next, ← hz]
  exact h2

/-- So many zero places are made. -/
theorem pls_zeros (k : Nat) : (madeCells (Value.complex FloatKind.f64 0 0).cells k) = (plsOf (fun _ => some (0, 0)) k).toArray := by
  apply Array.ext'
  unfold madeCells plsOf
  simp only [Array.toList_map, Array.toList_range]
  apply List.map_congr_left
  intro i _
  have e : zval (some (0, 0)) = .complex .f64 0 0 := by
    show Value.complex .f64 (fl 0) (fl 0) = _
    have : fl 0 = 0 := fl_none
    rw [this]
  rw [e]
  simp [Value.cells, Nat.mod_one]
theorem make_zs (k c : Nat) (hkc : k ≤ c) (hk : 16 * c ≤ 281474976710656) (u : World) :
    (Instr.makeSlice 29 (.int .i64 (k : Int)) (.int .i64 (c : Int))).run Tryz.prog u = .ok (.slice (some ⟨u.heap.size, 0, none⟩) k c) (u.alloc (.cells (plsOf (fun _ => some (0, 0)) c).toArray 55)) := by
  obtain ⟨i0, hi, hz0, hz1, hz2⟩ := info_parts pl_info
  have h := run_make (P := Tryz.prog) u 29 55 i0 (.complex .f64 0 0) Tryz.underlying29 hi hz0 .i64 .i64 (k : Int) (c : Int) (by omega) (by omega) (by rw [hz2]; omega) (by omega)
  rw [hz1, Int.toNat_natCast, Int.toNat_natCast, Nat.mul_one] at h
  rw [h, ← pls_zeros]
theorem ownZ_made (w : World) (c : Nat) (hc : c ≤ 9223372036854775807) (Z : Nat → Pl) : OwnZ (w.alloc (.cells (plsOf (fun _ => some (0, 0)) c).toArray 55)) w.heap.size (.slice (some ⟨w.heap.size, 0, none⟩) 0 c) 0 Z := by
  refine ⟨rfl, .inr ⟨w.heap.size, c, _, rfl, Nat.le_refl _, heap_alloc_new w _, Nat.zero_le _, by unfold maxLen; omega, by simp [plsOf_length], by simp [plsOf]⟩⟩
end Go.Proofs.YtdocclkphffpkaaGreat

namespace Go.Proofs.YtdocclkphffpkaaGreat
open Go.RowKit

/-- The place, or none, for the number n. -/
def plOf (b n : Nat) : Pl := if (1 ≤ b ∧ b ≤ 16) ∧ 1 ≤ n ∧ n ≤ 24 * b then some ((n - 1) / b, (n - 1) % b) else none
theorem plOf_good (b n : Nat) : Good (plOf b n) := by
  intro q hq
  unfold plOf at hq
  split at hq
  · rename_i h
    obtain rfl := Option.some.inj hq
    exact ⟨Nat.div_lt_of_lt_mul (by rw [Nat.mul_comm]; omega), by have := Nat.mod_lt (n - 1) (show b > 0 by omega); show (n - 1) % b < 16; omega⟩
  · cases hq

theorem compose_int (x y : Int) (w : World) :
    Calls Tryz.prog 116 #[.int .i64 x, .int .i64 y] w fun e w' => e = .returned (.complex .f64 (floatOfInt .f64 x) (floatOfInt .f64 y)) ∧ w' = w := by
  go_enter Tryz.func116, Tryz.ntmps116
  go_wp2
  go_ret
  exact ⟨rfl, rfl⟩
theorem width_not (n : Int) (w : World) (h : ¬ (1 ≤ n ∧ n ≤ 16)) :
    Calls Tryz.prog 106 #[.int .i64 n] w fun e w' => e = .returned (.bool false) ∧ w = w' := by
  by_cases h1 : 1 ≤ n
  · have h2 : ¬ n ≤ 16 := fun e => h ⟨h1, e⟩
    clear h
    have d2 : decide (n ≤ 16) = false := by simp; omega
    go_enter Tryz.func106, Tryz.ntmps106
    go_wp2
    go_ret
    exact ⟨rfl, rfl⟩
  · clear h
    have d1 : decide (1 ≤ n) = false := by simp; omega
    go_enter Tryz.func106, Tryz.ntmps106
    go_wp2
    go_ret
    exact ⟨rfl, rfl⟩

set_option maxHeartbeats 400000 in
theorem place_any (k n : Int) (w : World) (h1 : 1 ≤ n) (h2 : n ≤ 16) (hk : 0 ≤ k) (hk2 : k < 24 * n) :
    Calls Tryz.prog 110 #[.int .i64 k, .int .i64 n] w (Drawn (.tuple #[.complex .f64 (fl (k / n).toNat) (fl (k % n).toNat), .int .i64 0]) w) := by
  have hn : ¬ n = 0 := by omega
  have hd0 : 0 ≤ k / n := Int.ediv_nonneg hk (by omega)
  have hd1 : k / n < 24 := Int.ediv_lt_of_lt_mul (by omega) hk2
  have hm0 : 0 ≤ k % n := Int.emod_nonneg k (by omega)
  have hq : IntKind.i64.wrap (k.tdiv n) = k / n := by rw [Int.tdiv_eq_ediv_of_nonneg hk]; exact IntWalk.i64_in _ (by omega)
  have hr : k.tmod n = k % n := Int.tmod_eq_emod_of_nonneg hk
  go_enter Tryz.func110, Tryz.ntmps110
  go_wp2_with fail
  refine (width_any n _ h1 h2).mono ?_
  rintro e w' ⟨rfl, rfl⟩
  go_wp2
  go_quiet ((go_at_call 116; exact Calls.quiet_of_same (compose_int _ _ _)))
  go_wp2
  go_ret2
  refine ⟨_, ?_, rfl⟩
  show Ending.returned (.tuple #[.complex .f64 (floatOfInt .f64 (k / n)) (floatOfInt .f64 (k % n)), .int .i64 0]) = _
  rw [fl_int hd0, fl_int hm0]
/-- No place: an error. -/
theorem place_not (k n : Int) (w : World) (h : ¬ ((1 ≤ n ∧ n ≤ 16) ∧ 0 ≤ k ∧ k < 24 * n)) (hk : -1000000 ≤ k ∧ k ≤ 1000000) (hn : 0 ≤ n ∧ n ≤ 1000) :
    Calls Tryz.prog 110 #[.int .i64 k, .int .i64 n] w fun e w' => (∃ u x, e = .returned (.tuple #[u, .int .i64 x]) ∧ x ≠ 0) ∧ w = w' := by
  by_cases hw : 1 ≤ n ∧ n ≤ 16
  · have h2 : ¬ (0 ≤ k ∧ k < 24 * n) := fun e => h ⟨hw, e⟩
    have W := Lib.hid hw
    clear h hw
    by_cases h0 : 0 ≤ k
    · have d0 : decide (k < 0) = false := by simp; omega
      have d1 : decide (24 * n ≤ k) = true := by simp; omega
      have h3 : ¬ k < 24 * n := by omega
      go_enter Tryz.func110, Tryz.ntmps110
      go_wp2_with fail
      refine (width_any n _ W.out.1 W.out.2).mono ?_
      rintro e w' ⟨rfl, rfl⟩
      go_wp2
      go_ret2
      exact ⟨⟨_, _, rfl, by decide⟩, rfl⟩
    · have d0 : decide (k < 0) = true := by simp; omega
      go_enter Tryz.func110, Tryz.ntmps110
      go_wp2_with fail
      refine (width_any n _ W.out.1 W.out.2).mono ?_
      rintro e w' ⟨rfl, rfl⟩
      go_wp2
      go_ret2
      exact ⟨⟨_, _, rfl, by decide⟩, rfl⟩
  · have W := Lib.hid hw
    clear h hw
    go_enter Tryz.func110, Tryz.ntmps110
    go_wp2_with fail
    refine (width_not n _ W.out).mono ?_
    rintro e w' ⟨rfl, rfl⟩
    go_wp2
    go_ret2
    exact ⟨⟨_, _, rfl, by decide⟩, rfl⟩

theorem placeOf_any (n b : Nat) (w : World) (hn : n < 65536) (hb : b < 256) :
    Calls Tryz.prog 101 #[.int .i64 (n : Int), .int .i64 (b : Int)] w (Drawn (zval (plOf b n)) w) := by
  by_cases h : (1 ≤ b ∧ b ≤ 16) ∧ 1 ≤ n ∧ n ≤ 24 * b
  · have e : plOf b n = some ((n - 1) / b, (n - 1) % b) := by unfold plOf; rw [if_pos h]
    have H := Lib.hid (place_any ((n : Int) - 1) b w (by omega) (by omega) (by omega) (by omega))
    have e1 : (((n : Int) - 1) / b).toNat = (n - 1) / b := by
      rw [show (n : Int) - 1 = ((n - 1 : Nat) : Int) by omega]; exact Int.toNat_natCast _
    have e2 : (((n : Int) - 1) % b).toNat = (n - 1) % b := by
      rw [show (n : Int) - 1 = ((n - 1 : Nat) : Int) by omega]; exact Int.toNat_natCast _
    rw [e1, e2] at H
    rw [e]
    obtain ⟨q, eq⟩ : ∃ q, q = (n - 1) / b := ⟨_, rfl⟩
    obtain ⟨r, er⟩ : ∃ r, r = (n - 1) % b := ⟨_, rfl⟩
    rw [← eq, ← er] at H ⊢
    clear e e1 e2 eq er h
    go_enter Tryz.func101, Tryz.ntmps101
    go_wp2_with fail
    with_reducible refine H.out.mono ?_
    rintro e w' ⟨k, rfl, rfl⟩
    go_wp2
    go_ret
    exact ⟨_, rfl, rfl⟩
  · have e : plOf b n = none := by unfold plOf; rw [if_neg h]
    have H := Lib.hid (place_not ((n : Int) - 1) b w (by omega) (by omega) (by omega))
    rw [e]
    clear e h
    go_enter Tryz.func101, Tryz.ntmps101
    go_wp2_with fail
    with_reducible refine H.out.mono ?_
    rintro e w' ⟨⟨u, x, rfl, hx⟩, rfl⟩
    go_wp2
    go_ret
    exact ⟨0, rfl, rfl⟩
end Go.Proofs.YtdocclkphffpkaaGreat

