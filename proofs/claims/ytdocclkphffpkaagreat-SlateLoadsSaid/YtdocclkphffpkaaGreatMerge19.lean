/- The document's answers for geometries and for whose places are (layers 6 and 10): whether a state fits. The document's Sort: how many unlike places a list names. And whether a state fits. The document's Fit, of any state whose places are places or none, and any geometry. -/
import Derived.Test.YtdocclkphffpkaaGreatMerge18
import Derived.Test.YtdocclkphffpkaaGreatMerge14
import Derived.Test.YtdocclkphffpkaaGreatMerge12
import Derived.Deep.RegionHeld3
namespace Go.Proofs.YtdocclkphffpkaaGreat
open Go.RowKit

theorem may_ok (s b : Int) (w : World) (g : Geo s b) :
    Calls Tryz.prog 83 #[.agg #[.int .i64 s, .int .i64 b]] w (Fresh (.bool true) w) := by
  obtain ⟨⟨g1, g2⟩, g3, g4⟩ := g
  go_enter Tryz.func83, Tryz.ntmps83
  go_wp2
  go_ret
  exact ⟨rfl, (Below.refl _ _).alloc (Nat.le_refl _) _⟩

theorem may_no (s b : Int) (w : World) (g : ¬ Geo s b) :
    Calls Tryz.prog 83 #[.agg #[.int .i64 s, .int .i64 b]] w (Fresh (.bool false) w) := by
  unfold Geo at g
  by_cases g1 : s < 6
  · clear g
    go_enter Tryz.func83, Tryz.ntmps83
    go_wp2
    go_ret
    exact ⟨rfl, (Below.refl _ _).alloc (Nat.le_refl _) _⟩
  by_cases g2 : 24 < s
  · clear g
    go_enter Tryz.func83, Tryz.ntmps83
    go_wp2
    go_ret
    exact ⟨rfl, (Below.refl _ _).alloc (Nat.le_refl _) _⟩
  by_cases g3 : b < 2
  · clear g
    go_enter Tryz.func83, Tryz.ntmps83
    go_wp2
    go_ret
    exact ⟨rfl, (Below.refl _ _).alloc (Nat.le_refl _) _⟩
  have g4 : decide (b ≤ 16) = false := decide_eq_false (by omega)
  clear g
  go_enter Tryz.func83, Tryz.ntmps83
  go_wp2
  go_ret
  exact ⟨rfl, (Below.refl _ _).alloc (Nat.le_refl _) _⟩

/-- What a geometry holds, as the chapter says it and as the document's answer does. -/
theorem holds_same (s b : Int) : (s - 2 - 2) * b = (s - 4) * b := by congr 1; omega
theorem holds_in {s b : Int} (g : Geo s b) : 4 ≤ (s - 4) * b ∧ (s - 4) * b ≤ 320 :=
  ⟨show 2 * 2 ≤ (s - 4) * b from Int.mul_le_mul (by have := g.1; omega) g.2.1 (by omega) (by have := g.1; omega), show (s - 4) * b ≤ 20 * 16 from Int.mul_le_mul (by have := g.1; omega) g.2.2 (by have := g.2; omega) (by omega)⟩
theorem refCapacity_ok (s b : Int) (w : World) (g : Geo s b) :
    Calls Tryz.prog 62 #[.agg #[.int .i64 s, .int .i64 b]] w (Fresh (.int .i64 ((s - 4) * b)) w) := by
  obtain ⟨h1, h2⟩ := holds_in g
  obtain ⟨g1, g2⟩ := g.1
  clear g
  go_enter Tryz.func62, Tryz.ntmps62
  go_wp2
  go_ret
  exact ⟨rfl, (Below.refl _ _).alloc (Nat.le_refl _) _⟩

theorem refAt_any (s b : Int) (a c : Nat) (w : World) (g : Geo s b) (ha : a < 24) (hc : c < 16) :
    Calls Tryz.prog 85 #[.agg #[.int .i64 s, .int .i64 b], .complex .f64 (fl a) (fl c)] w fun e w' => (∃ n x, e = .returned (.tuple #[.int .i64 n, .int .i64 x]) ∧ (x = 0 ↔ (a : Int) < s ∧ (c : Int) < b)) ∧ Below w.heap.size w w' := by
  have G := Lib.hid g
  obtain ⟨⟨g1, g2⟩, g3, g4⟩ := g
  have hsb : s * b ≤ 24 * 16 := Int.mul_le_mul (by omega) (by omega) (by omega) (by omega)
  have hsb0 : 0 ≤ s * b := Int.mul_nonneg (by omega) (by omega)
  have hab : (a : Int) * b ≤ 24 * 16 := Int.mul_le_mul (by omega) (by omega) (by omega) (by omega)
  have hab0 : 0 ≤ (a : Int) * b := Int.mul_nonneg (by omega) (by omega)
  go_enter Tryz.func85, Tryz.ntmps85
  go_wp2_with fail
  with_reducible refine (may_ok s b _ G.out).mono ?_
  rintro e w1 ⟨rfl, hb1⟩
  have x0 := geo_s hb1
  have x1 := geo_b hb1
  have B1 := Lib.hid (geo_below hb1)
  clear hb1
  by_cases hcb : (c : Int) < b
  · have hcb' : (c : Int) < b := hcb
    have FL := Lib.hid (refFlat_some a c b)
    go_wp2_with fail
    refine (FL.out _ ha hc (by omega) g4 hcb').mono ?_
    rintro e w' ⟨rfl, rfl⟩
    by_cases has : (a : Int) < s
    · have hlt : (a : Int) * b + c < s * b := by
        have : ((a : Int) + 1) * b ≤ s * b := Int.mul_le_mul_of_nonneg_right (by omega) (by omega)
        rw [Int.add_mul] at this
        omega
      have hge : ¬ s * b ≤ (a : Int) * b + c := by omega
      have AS := Lib.hid has
      clear has hcb FL
      go_wp2
      go_ret2
      exact ⟨⟨_, _, rfl, ⟨fun _ => ⟨AS.out, hcb'⟩, fun _ => rfl⟩⟩, B1.out⟩
    · have hge : s * b ≤ (a : Int) * b + c := by
        have : s * b ≤ (a : Int) * b := Int.mul_le_mul_of_nonneg_right (by omega) (by omega)
        omega
      have AS := Lib.hid has
      clear has hcb FL
      go_wp2
      go_ret2
      exact ⟨⟨_, _, rfl, ⟨fun h => absurd h (by decide), fun h => absurd h.1 (by have := AS.out; omega)⟩⟩, B1.out⟩
  · have CB := Lib.hid hcb
    have hle : b ≤ (c : Int) := by omega
    have FL := Lib.hid (refFlat_out a c b)
    clear hcb
    go_wp2_with fail
    refine (FL.out _ ha hc (by omega) g4 hle).mono ?_
    rintro e w' ⟨rfl, rfl⟩
    clear FL
    go_wp2
    go_ret2
    exact ⟨⟨_, _, rfl, ⟨fun h => absurd h (by decide), fun h => absurd h.2 (by have := CB.out; omega)⟩⟩, B1.out⟩

/-- A list that names just the places that some block has, up to block j of volume i. -/
def Names (M : Nat → Nat) (Z : Nat → Nat → Pl) (i j q : Nat) (P : Nat → Spot) : Prop := (∀ t, t < q → HasP M Z i j (P t)) ∧ ∀ p, HasP M Z i j p → ∃ t, t < q ∧ P t = p
theorem Names.has {M : Nat → Nat} {Z : Nat → Nat → Pl} {i j q : Nat} {P : Nat → Spot} (h : Names M Z i j q P) {t : Nat} (ht : t < q) : HasP M Z i j (P t) := h.1 t ht
theorem Names.every {M : Nat → Nat} {Z : Nat → Nat → Pl} {i j q : Nat} {P : Nat → Spot} (h : Names M Z i j q P) {p : Spot} (hp : HasP M Z i j p) : ∃ t, t < q ∧ P t = p := h.2 p hp
theorem names_none {M : Nat → Nat} {Z : Nat → Nat → Pl} {i j q : Nat} {P : Nat → Spot} (h : Names M Z i j q P) (hz : Z i j = none) : Names M Z i (j + 1) q P :=
  ⟨fun t ht => (hasP_none hz).2 (h.1 t ht), fun p hp => h.2 p ((hasP_none hz).1 hp)⟩
def snocP (P : Nat → Spot) (q : Nat) (p : Spot) (t : Nat) : Spot := if t = q then p else P t
theorem names_some {M : Nat → Nat} {Z : Nat → Nat → Pl} {i j q : Nat} {P : Nat → Spot} {p : Spot} (h : Names M Z i j q P) (hz : Z i j = some p) : Names M Z i (j + 1) (q + 1) (snocP P q p) := by
  refine ⟨fun t ht => ?_, fun r hr => ?_⟩
  · unfold snocP
    by_cases c : t = q
    · rw [if_pos c]; exact (hasP_some hz).2 (.inr rfl)
    · rw [if_neg c]; exact (hasP_some hz).2 (.inl (h.1 t (by omega)))
  · rcases (hasP_some hz).1 hr with h1 | rfl
    · obtain ⟨t, ht, e⟩ := h.2 r h1
      exact ⟨t, by omega, by unfold snocP; rw [if_neg (by omega)]; exact e⟩
    · exact ⟨q, by omega, by unfold snocP; rw [if_pos rfl]⟩
theorem names_next {M : Nat → Nat} {Z : Nat → Nat → Pl} {i q : Nat} {P : Nat → Spot} (h : Names M Z i (M i) q P) : Names M Z (i + 1) 0 q P :=
  ⟨fun t ht => hasP_next.1 (h.1 t ht), fun p hp => h.2 p (hasP_next.2 hp)⟩
theorem names_zero (M : Nat → Nat) (Z : Nat → Nat → Pl) (P : Nat → Spot) : Names M Z 0 0 0 P :=
  ⟨fun t ht => absurd ht (Nat.not_lt_zero _), fun p hp => by rcases hp with ⟨i, _, h, _⟩ | ⟨j, h, _⟩ <;> omega⟩

set_option maxRecDepth 20000 in
theorem all_any (K S M : Nat → Nat) (V : Nat → Value) (Z : Nat → Nat → Pl) (w : World) (hr : ∀ i, i < 8 → ReadsZ w (V i) (M i) (Z i)) (hg : ∀ i j, Good (Z i j)) (hM : ∀ i, i < 8 → M i ≤ 32) :
    Calls Tryz.prog 84 #[.agg (scells K S V).toArray] w fun e w' => ∃ v q P, e = .returned v ∧ OwnZ w' w.heap.size v q (fun t => some (P t)) ∧ q ≤ 256 ∧ Names M Z 8 0 q P ∧ Below w.heap.size w w' := by
  obtain ⟨w1, hw1⟩ : ∃ w1, w1 = (w.alloc (.cells (scells K S V).toArray 32)).alloc (.cells #[] 55) := ⟨_, rfl⟩
  have B1 : Hid (Below w.heap.size w w1) := Lib.hid (by rw [hw1]; exact ((Below.refl _ w).alloc (Nat.le_refl _) _).alloc (by simp) _)
  have S1 : Hid (StIs w1 w.heap.size K S V) := Lib.hid (by rw [hw1]; exact (st_new w K S V).below ((Below.refl _ _).alloc (Nat.le_refl _) _))
  have O1 : Hid (OwnZ w1 (w.heap.size + 1) (.slice (some ⟨w.heap.size + 1, 0, none⟩) 0 0) 0 (fun t => some ((fun _ => (0, 0)) t))) := Lib.hid (by
    rw [hw1]
    have h := ownZ_made (w.alloc (.cells (scells K S V).toArray 32)) 0 (by omega) (fun t => some ((fun _ => (0, 0)) t))
    rw [World.size_alloc] at h
    exact h)
  have Z1 : Hid (w.heap.size + 2 ≤ w1.heap.size) := Lib.hid (by rw [hw1]; simp)
  have HR := Lib.hid hr
  have HM := Lib.hid hM
  have HG := Lib.hid hg
  clear hr hM hg
  go_enter Tryz.func84, Tryz.ntmps84
  go_wp2_with fail
  rw [← hw1]
  clear hw1
  go_loopw [3, 4] (fun u x wr => ∃ (i q : Nat) (v : Value) (P : Nat → Spot), i ≤ 8 ∧ v = u ∧ x = .int .i64 (i : Int) ∧ OwnZ wr (w.heap.size + 1) v q (fun t => some (P t)) ∧ q ≤ 32 * i ∧ Names M Z i 0 q P ∧ StIs wr w.heap.size K S V ∧ Below w.heap.size w wr ∧ w.heap.size + 2 ≤ wr.heap.size) (fun _ x _ => 8 - (intOf x).toNat)
  case atStart => exact ⟨0, 0, _, _, by omega, rfl, rfl, O1.out, by omega, names_zero _ _ _, S1.out, B1.out, Z1.out⟩
  case round =>
    clear B1 S1 O1 Z1
    obtain ⟨i, q, v, P, hi, rfl, rfl, ho, hq, hn, hs, hb, hz⟩ := hrel
    have HO := Lib.hid ho
    have HQ := Lib.hid hq
    have HN := Lib.hid hn
    have HS := Lib.hid hs
    have HB := Lib.hid hb
    have HZ := Lib.hid hz
    clear ho hq hn hs hb hz
    by_cases h8 : i < 8
    · obtain ⟨A, c, ev, q1, q2, q3, -⟩ := HR.out i h8
      have HRI := Lib.hid (HR.out i h8)
      obtain ⟨m, em⟩ : ∃ m, m = M i := ⟨_, rfl⟩
      rw [← em] at ev HRI
      rw [ev] at HRI
      have hm32 : m ≤ 32 := by rw [em]; exact HM.out i h8
      have EM := Lib.hid em
      have EV := Lib.hid ev
      have d8 : decide ((i : Int) < 8) = true := by simp; omega
      clear ev em
      go_wp2
      clear d8
      go_loopw [3, 5] (fun u x wq => ∃ (j q : Nat) (v : Value) (P : Nat → Spot), j ≤ m ∧ v = u ∧ x = .int .i64 (j : Int) ∧ OwnZ wq (w.heap.size + 1) v q (fun t => some (P t)) ∧ q ≤ 32 * i + j ∧ Names M Z i j q P ∧ StIs wq w.heap.size K S V ∧ Below w.heap.size w wq ∧ w.heap.size + 2 ≤ wq.heap.size) (fun _ x _ => m - (intOf x).toNat)
      case atStart => exact ⟨0, q, v, P, by omega, rfl, rfl, HO.out, by have := HQ.out; omega, HN.out, HS.out, HB.out, HZ.out⟩
      case round =>
        clear HO HQ HN HS HB HZ
        obtain ⟨j, q, v, P, hj, rfl, rfl, ho, hq, hn, hs, hb, hz⟩ := hrel
        have HO := Lib.hid ho
        have HQ := Lib.hid hq
        have HN := Lib.hid hn
        have HS := Lib.hid hs
        have HB := Lib.hid hb
        have HZ := Lib.hid hz
        clear ho hq hn hs hb hz
        have c4 : wr.cell? ⟨w.heap.size, 16 + i, none⟩ = some (.slice A m c) := by rw [← EV.out]; exact StIs.row HS.out h8
        by_cases hlt : j < m
        · obtain ⟨ad, rfl⟩ := HRI.out.addr (by omega)
          have hc := (HRI.out.below HB.out).at_ hlt
          cases hzz : Z i j with
          | none =>
            rw [hzz] at hc
            have hc2 : wr.cell? (ad.add j) = some (Value.complex .f64 13830554455654793216 0) := hc
            have HZZ := Lib.hid hzz
            clear hc hzz
            have h1 := order_none
            have h2 := order_zero
            go_wp2
            go_roundw
            case rel => exact ⟨j + 1, q, _, P, by omega, rfl, by go_num, HO.out, by have := HQ.out; omega, names_none HN.out HZZ.out, HS.out, HB.out, HZ.out⟩
            case measure => simp [intOf]; omega
          | some p =>
            rw [hzz] at hc
            have hc2 : wr.cell? (ad.add j) = some (Value.complex .f64 (fl p.1) (fl p.2)) := hc
            have HZZ := Lib.hid hzz
            have hok := HG.out i j p hzz
            have h1 := order_some_none p.1 (by have := hok.1; omega)
            have M32 := HM.out i h8
            have hq8 : q ≤ 256 := by have := HQ.out; have := EM.out; omega
            have ho2 := HO.out.congr (Z' := fun t => some (snocP P q p t)) fun t ht => by unfold snocP; rw [if_neg (by omega)]
            obtain ⟨v', w', r, o', ⟨g, cap, ev'⟩, gr⟩ := run_z (p := some p) 29 ho2 (by unfold snocP; rw [if_pos rfl]) (by omega) (by have := HZ.out; omega)
            have r2 : (Builtin.append_ #[29, 29] 29 #[v, .slice (some ⟨wr.heap.size, 0, none⟩) 1 1]).run Tryz.prog (wr.alloc (.cells #[.complex .f64 (fl p.1) (fl p.2)] 55)) = .ok v' w' := r
            have R := Lib.hid r2
            have sa : (wr.alloc (.cells #[zval (some p)] 55)).heap.size = wr.heap.size + 1 := World.size_alloc _ _
            have hs' : StIs w' w.heap.size K S V := (gr.block _ (by rw [sa]; have := HZ.out; omega) fun e => by have := (HO.out.lt e.symm).1; omega).trans ((RowIs.below HS.out ((Below.refl _ _).alloc (Nat.le_refl _) _)))
            have hb' : Below w.heap.size w w' := (HB.out.alloc HB.out.size _).grown gr (by rw [sa]; have := HZ.out; omega) fun k hk => by have := (HO.out.lt hk).1; omega
            have hz' : w.heap.size + 2 ≤ w'.heap.size := by have := gr.size; rw [sa] at this; have := HZ.out; omega
            have FIN : Hid (OwnZ w' (w.heap.size + 1) v' (q + 1) (fun t => some (snocP P q p t)) ∧ q + 1 ≤ 32 * i + (j + 1) ∧ Names M Z i (j + 1) (q + 1) (snocP P q p) ∧ StIs w' w.heap.size K S V ∧ Below w.heap.size w w' ∧ w.heap.size + 2 ≤ w'.heap.size) := Lib.hid ⟨o', by have := HQ.out; omega, names_some HN.out HZZ.out, hs', hb', hz'⟩
            obtain ⟨A0, c0, ev0⟩ := HO.out.shape
            subst ev0
            subst ev'
            clear r r2 o' gr sa hs' hb' hz' ho2 hc hzz hok M32 hq8
            go_wp2_with (at_builtin; refine Lib.wpList_append_run _ rfl (.tmp 28) (.tmp 36) _ _ rfl _ _ rfl rfl _ _ R.out ?_)
            go_roundw
            case rel => exact ⟨j + 1, q + 1, _, snocP P q p, by omega, rfl, by go_num, FIN.out⟩
            case measure => simp [intOf]; omega
        · obtain rfl : j = m := by omega
          have n2 : Hid (Names M Z (i + 1) 0 q P) := Lib.hid (names_next (by rw [← EM.out]; exact HN.out))
          have q2' : Hid (q ≤ 32 * (i + 1)) := Lib.hid (by have := HQ.out; have := EM.out; have := HM.out i h8; omega)
          go_wp2
          go_roundw
          case rel => exact ⟨i + 1, q, _, P, by omega, rfl, by go_num, HO.out, q2'.out, n2.out, HS.out, HB.out, HZ.out⟩
          case measure => simp [intOf]; omega
    · obtain rfl : i = 8 := by omega
      have FIN : Hid (OwnZ wr w.heap.size v q (fun t => some (P t)) ∧ q ≤ 256 ∧ Names M Z 8 0 q P ∧ Below w.heap.size w wr) := Lib.hid ⟨HO.out.base (by omega), HQ.out, HN.out, HB.out⟩
      go_wp2
      go_ret
      exact ⟨_, q, P, rfl, FIN.out⟩
end Go.Proofs.YtdocclkphffpkaaGreat

namespace Go.Proofs.YtdocclkphffpkaaGreat
open Go.RowKit

/-- The number of a place in width 16. -/
def idx (p : Spot) : Nat := p.1 * 16 + p.2
theorem idx_lt {p : Spot} (h : SpotOk p) : idx p < 384 := by have h1 := h.1; have h2 := h.2; unfold idx; omega
def unidx (n : Nat) : Spot := (n / 16, n % 16)
theorem unidx_ok {n : Nat} (h : n < 384) : SpotOk (unidx n) := ⟨by show n / 16 < 24; omega, by show n % 16 < 16; omega⟩
theorem unidx_idx {p : Spot} (h : SpotOk p) : unidx (idx p) = p := by
  have h2 := h.2
  unfold unidx idx
  exact Prod.ext (by show (p.1 * 16 + p.2) / 16 = p.1; omega) (by show (p.1 * 16 + p.2) % 16 = p.2; omega)
theorem idx_unidx (n : Nat) : idx (unidx n) = n := by unfold unidx idx; show n / 16 * 16 + n % 16 = n; omega

/-- Which of the first places, in their order, are marked. -/
def picked (D : Nat → Bool) (n : Nat) : List Nat := (List.range n).filter D
theorem picked_next (D : Nat → Bool) (n : Nat) : picked D (n + 1) = if D n then picked D n ++ [n] else picked D n := by
  unfold picked
  rw [List.range_succ, List.filter_append]
  cases h : D n <;> simp [h]
theorem picked_len (D : Nat → Bool) (n : Nat) : (picked D n).length ≤ n := by
  have := List.length_filter_le D (List.range n)
  rw [List.length_range] at this
  exact this

theorem List.Nodup.map_on_ {f : Nat → Spot} {l : List Nat} (hf : ∀ a b, f a = f b → a = b) (h : l.Nodup) : (l.map f).Nodup := by
  unfold List.Nodup at h ⊢
  rw [List.pairwise_map]
  exact h.imp fun hab e => hab (hf _ _ e)

def marks (P : Nat → Spot) (k i : Nat) : Bool := decide (∃ t, t < k ∧ idx (P t) = i)
theorem marks_next (P : Nat → Spot) (k i : Nat) : marks P (k + 1) i = if i = idx (P k) then true else marks P k i := by
  unfold marks
  by_cases c : i = idx (P k)
  · rw [if_pos c]; simp only [decide_eq_true_eq]; exact ⟨k, by omega, c.symm⟩
  · rw [if_neg c]
    congr 1
    apply propext
    constructor
    · rintro ⟨t, ht, e⟩
      rcases (by omega : t < k ∨ t = k) with h | rfl
      · exact ⟨t, h, e⟩
      · exact absurd e.symm c
    · rintro ⟨t, ht, e⟩
      exact ⟨t, by omega, e⟩

theorem bool_info : (Tryz.prog.info? 4).map (fun i => (i.zero, i.size, i.bytes)) = some (some (.bool false), 1, 1) := by kernel_rfl
theorem bools_zeros (k : Nat) : (madeCells (Value.bool false).cells k) = ((List.range k).map fun _ => Value.bool false).toArray := by
  apply Array.ext'
  unfold madeCells
  simp only [Array.toList_map, Array.toList_range]
  apply List.map_congr_left
  intro i _
  simp [Value.cells, Nat.mod_one]
theorem make_bools (k : Nat) (hk : k ≤ 281474976710656) (u : World) :
    (Instr.makeSlice 146 (.int .i64 (k : Int)) (.int .i64 (k : Int))).run Tryz.prog u = .ok (.slice (some ⟨u.heap.size, 0, none⟩) k k) (u.alloc (.cells ((List.range k).map fun _ => Value.bool false).toArray 4)) := by
  obtain ⟨i0, hi, hz0, hz1, hz2⟩ := info_parts bool_info
  have h := run_make (P := Tryz.prog) u 146 4 i0 (.bool false) Tryz.underlying146 hi hz0 .i64 .i64 (k : Int) (k : Int) (by omega) (by omega) (by rw [hz2]; omega) (by omega)
  rw [hz1, Int.toNat_natCast, Nat.mul_one] at h
  rw [h, ← bools_zeros]

set_option maxRecDepth 20000 in
theorem refSort_any (v : Value) (n : Nat) (P : Nat → Spot) (w : World) (hv : ReadsZ w v n (fun t => some (P t))) (hP : ∀ t, t < n → SpotOk (P t)) (hn : n ≤ 4096) :
    Calls Tryz.prog 86 #[v] w fun e w' => ∃ (u : Value) (Z : Nat → Pl) (E : List Spot), e = .returned (.tuple #[u, .int .i64 0]) ∧ OwnZ w' w.heap.size u E.length Z ∧ E.Nodup ∧ (∀ p, p ∈ E ↔ ∃ t, t < n ∧ P t = p) ∧ Below w.heap.size w w' := by
  obtain ⟨A, c, rfl, v1, v2, v3, -⟩ := id hv
  have HV := Lib.hid hv
  have HP := Lib.hid hP
  have m1 : ∀ u : World, (Instr.makeSlice 146 (.int .i64 384) (.int .i64 384)).run Tryz.prog u = .ok (.slice (some ⟨u.heap.size, 0, none⟩) 384 384) (u.alloc (.cells ((List.range 384).map fun _ => Value.bool false).toArray 4)) := make_bools 384 (by omega)
  obtain ⟨row, hrow⟩ : ∃ row, row = (.cells ((List.range 384).map fun _ => Value.bool false).toArray 4 : Obj) := ⟨_, rfl⟩
  rw [← hrow] at m1
  obtain ⟨w1, hw1⟩ : ∃ w1, w1 = w.alloc row := ⟨_, rfl⟩
  have B1 : Hid (Below w.heap.size w w1) := Lib.hid (by rw [hw1]; exact (Below.refl _ w).alloc (Nat.le_refl _) _)
  have R1 : Hid (RowIs w1 w.heap.size 4 (fun i => .bool (marks P 0 i)) 384) := Lib.hid (by
    rw [hw1, hrow]
    refine (row_new w 4 (fun _ => .bool false) 384 ((List.range 384).map fun _ => Value.bool false) (by simp) fun i hi => by simp [hi]).congr fun i hi => ?_
    have : marks P 0 i = false := by unfold marks; simp
    rw [this])
  have Z1 : Hid (w1.heap.size = w.heap.size + 1) := Lib.hid (by rw [hw1, World.size_alloc])
  clear hv hP hrow
  go_enter Tryz.func86, Tryz.ntmps86
  go_wp2
  rw [← hw1]
  clear hw1 m1
  go_loopw [5] (fun x wr => ∃ k : Nat, k ≤ n ∧ x = .int .i64 (k : Int) ∧ RowIs wr w.heap.size 4 (fun i => .bool (marks P k i)) 384 ∧ Below w.heap.size w wr ∧ w.heap.size + 1 ≤ wr.heap.size) (fun x _ => n - (intOf x).toNat)
  case atStart => exact ⟨0, by omega, rfl, R1.out, B1.out, Nat.le_of_eq Z1.out.symm⟩
  case round =>
    clear B1 R1 Z1
    obtain ⟨k, hk, rfl, hr, hb, hz⟩ := hrel
    have HR := Lib.hid hr
    have HB := Lib.hid hb
    have HZ := Lib.hid hz
    clear hr hb hz
    by_cases hlt : k < n
    · obtain ⟨ad, rfl⟩ := HV.out.addr (by omega)
      have hok := HP.out k hlt
      have hc := (HV.out.below HB.out).at_ hlt
      obtain ⟨a, ea⟩ : ∃ a, a = (P k).1 := ⟨_, rfl⟩
      obtain ⟨b, eb⟩ : ∃ b, b = (P k).2 := ⟨_, rfl⟩
      have hc2 : wr.cell? (ad.add k) = some (.complex .f64 (fl a) (fl b)) := by rw [ea, eb]; exact hc
      have ha : a < 24 := by rw [ea]; exact hok.1
      have hb16 : b < 16 := by rw [eb]; exact hok.2
      obtain ⟨g, eg⟩ : ∃ g, g = a * 16 + b := ⟨_, rfl⟩
      have hg : g < 384 := by omega
      have FL : Hid (∀ W, Calls Tryz.prog 41 #[.complex .f64 (fl a) (fl b), .int .i64 16] W fun e w' => e = .returned (.tuple #[.int .i64 (g : Int), .int .i64 0]) ∧ W = w') := Lib.hid fun W => by
        have := refFlat_some a b 16 W ha hb16 (by omega) (by omega) (by omega)
        rw [show ((g : Nat) : Int) = (a : Int) * 16 + b by omega]
        exact this
      have fr := HR.out.free g
      have cg := HR.out.cell (i := g) hg
      have NX : Hid (RowIs (wr.setCell ⟨w.heap.size, g, none⟩ (.bool true)) w.heap.size 4 (fun i => .bool (marks P (k + 1) i)) 384) := Lib.hid (HR.out.set_ (k := g) (fun _ => by rw [marks_next, if_pos (by rw [eg, ea, eb]; rfl)]) (fun i _ hi => by rw [marks_next, if_neg (by intro e; apply hi; rw [e, eg, ea, eb]; rfl)]))
      have B2 : Hid (Below w.heap.size w (wr.setCell ⟨w.heap.size, g, none⟩ (.bool true))) := Lib.hid (HB.out.setCell (p := ⟨w.heap.size, g, none⟩) (Nat.le_refl _) _)
      obtain ⟨old, eold⟩ : ∃ old, old = marks P k g := ⟨_, rfl⟩
      rw [← eold] at cg
      clear hok hc ea eb ha hb16 eg eold
      go_wp2_with fail
      with_reducible refine (FL.out _).mono ?_
      rintro e w' ⟨rfl, rfl⟩
      go_wp2
      go_roundw
      case rel => exact ⟨k + 1, by omega, by go_num, NX.out, B2.out, by have := HZ.out; simpa using this⟩
      case measure => simp [intOf]; omega
    · obtain rfl : k = n := by omega
      have O2 : Hid (OwnZ (wr.alloc (.cells #[] 55)) (w.heap.size + 1) (.slice (some ⟨wr.heap.size, 0, none⟩) 0 0) 0 (fun _ => none)) := Lib.hid ((ownZ_made wr 0 (by omega) _).base HZ.out)
      have B2 : Hid (Below w.heap.size w (wr.alloc (.cells #[] 55))) := Lib.hid (HB.out.alloc HB.out.size _)
      have R2 : Hid (RowIs (wr.alloc (.cells #[] 55)) w.heap.size 4 (fun i => .bool (marks P k i)) 384) := Lib.hid (RowIs.below HR.out ((Below.refl _ _).alloc (Nat.le_refl _) _))
      have S2 : Hid (w.heap.size + 1 ≤ (wr.alloc (.cells #[] 55)).heap.size) := Lib.hid (by rw [World.size_alloc]; have := HZ.out; omega)
      obtain ⟨w2, hw2⟩ : ∃ w2, w2 = wr.alloc (.cells #[] 55) := ⟨_, rfl⟩
      rw [← hw2] at O2 B2 R2 S2
      clear HR HB HZ
      go_wp2
      rw [← hw2]
      clear hw2
      go_loopw [8, 9] (fun u x wq => ∃ (m : Nat) (v : Value) (Z : Nat → Pl), m ≤ 384 ∧ v = u ∧ x = .int .i64 (m : Int) ∧ OwnZ wq (w.heap.size + 1) v (picked (marks P k) m).length Z ∧ RowIs wq w.heap.size 4 (fun i => .bool (marks P k i)) 384 ∧ Below w.heap.size w wq ∧ w.heap.size + 1 ≤ wq.heap.size) (fun _ x _ => 384 - (intOf x).toNat)
      case atStart => exact ⟨0, _, _, by omega, rfl, rfl, O2.out, R2.out, B2.out, S2.out⟩
      case round =>
        clear O2 R2 B2 S2
        obtain ⟨m, v, Z, hm, rfl, rfl, ho, hr, hb, hz⟩ := hrel
        have HO := Lib.hid ho
        have HR := Lib.hid hr
        have HB := Lib.hid hb
        have HZ := Lib.hid hz
        clear ho hr hb hz
        by_cases hlt : m < 384
        · have cg := HR.out.cell (i := m) hlt
          cases hmk : marks P k m with
          | false =>
            rw [hmk] at cg
            have nx : picked (marks P k) (m + 1) = picked (marks P k) m := by rw [picked_next, hmk]; rfl
            have FIN : Hid (OwnZ wr (w.heap.size + 1) v (picked (marks P k) (m + 1)).length Z) := Lib.hid (by rw [nx]; exact HO.out)
            clear hmk nx
            go_wp2
            go_roundw
            case rel => exact ⟨m + 1, _, Z, by omega, rfl, by go_num, FIN.out, HR.out, HB.out, HZ.out⟩
            case measure => simp [intOf]; omega
          | true =>
            rw [hmk] at cg
            have nx : (picked (marks P k) (m + 1)).length = (picked (marks P k) m).length + 1 := by rw [picked_next, hmk, if_pos rfl, List.length_append]; rfl
            have hq := picked_len (marks P k) m
            obtain ⟨q, eq⟩ : ∃ q, q = (picked (marks P k) m).length := ⟨_, rfl⟩
            rw [← eq] at HO nx hq
            have ho2 := HO.out.congr (Z' := fun t => if t = q then some (unidx m) else Z t) fun t ht => by rw [if_neg (by omega)]
            obtain ⟨v', w', r, o', ⟨g, cap, ev'⟩, gr⟩ := run_z (p := some (unidx m)) 29 ho2 (by rw [if_pos rfl]) (by omega) (by have := HZ.out; omega)
            have r2 : (Builtin.append_ #[29, 29] 29 #[v, .slice (some ⟨wr.heap.size, 0, none⟩) 1 1]).run Tryz.prog (wr.alloc (.cells #[.complex .f64 (floatOfInt .f64 ((m : Int) / 16)) (floatOfInt .f64 ((m : Int) % 16))] 55)) = .ok v' w' := r
            have R := Lib.hid r2
            have sa : (wr.alloc (.cells #[zval (some (unidx m))] 55)).heap.size = wr.heap.size + 1 := World.size_alloc _ _
            have hr' : RowIs w' w.heap.size 4 (fun i => .bool (marks P k i)) 384 := (gr.block _ (by rw [sa]; have := HZ.out; omega) fun e => by have := (HO.out.lt e.symm).1; omega).trans ((RowIs.below HR.out ((Below.refl _ _).alloc (Nat.le_refl _) _)))
            have hb' : Below w.heap.size w w' := (HB.out.alloc HB.out.size _).grown gr (by rw [sa]; have := HZ.out; omega) fun k hk => by have := (HO.out.lt hk).1; omega
            have hz' : w.heap.size + 1 ≤ w'.heap.size := by have := gr.size; rw [sa] at this; have := HZ.out; omega
            have FIN : Hid (OwnZ w' (w.heap.size + 1) v' (picked (marks P k) (m + 1)).length (fun t => if t = q then some (unidx m) else Z t) ∧ RowIs w' w.heap.size 4 (fun i => .bool (marks P k i)) 384 ∧ Below w.heap.size w w' ∧ w.heap.size + 1 ≤ w'.heap.size) := Lib.hid ⟨by rw [nx]; exact o', hr', hb', hz'⟩
            obtain ⟨A0, c0, ev0⟩ := HO.out.shape
            subst ev0
            subst ev'
            have h0 : ¬ (16 : Int) = 0 := by omega
            have hq0 : 0 ≤ (m : Int) / 16 := by omega
            have hq1 : (m : Int) / 16 < 24 := by omega
            have hqq : IntKind.i64.wrap ((m : Int).tdiv 16) = (m : Int) / 16 := by rw [Int.tdiv_eq_ediv_of_nonneg (by omega)]; exact IntWalk.i64_in _ (by omega)
            have hqr : (m : Int).tmod 16 = (m : Int) % 16 := Int.tmod_eq_emod_of_nonneg (by omega)
            clear r r2 o' gr sa hr' hb' hz' ho2 nx eq hq hmk
            go_wp2_with fail
            refine (refMake_any _ _ _).mono ?_
            rintro e w5 ⟨rfl, rfl⟩
            go_wp2_with (at_builtin; refine Lib.wpList_append_run _ rfl (.tmp 44) (.tmp 50) _ _ rfl _ _ rfl rfl _ _ R.out ?_)
            go_roundw
            case rel => exact ⟨m + 1, _, _, by omega, rfl, by go_num, FIN.out⟩
            case measure => simp [intOf]; omega
        · obtain rfl : m = 384 := by omega
          have el : ((picked (marks P k) 384).map unidx).length = (picked (marks P k) 384).length := List.length_map _
          have FIN : Hid (OwnZ wr w.heap.size v ((picked (marks P k) 384).map unidx).length Z ∧ ((picked (marks P k) 384).map unidx).Nodup ∧ (∀ p, p ∈ (picked (marks P k) 384).map unidx ↔ ∃ t, t < k ∧ P t = p) ∧ Below w.heap.size w wr) := Lib.hid (by
            refine ⟨by rw [el]; exact HO.out.base (by omega), ?_, fun p => ⟨fun hp => ?_, ?_⟩, HB.out⟩
            · refine List.Nodup.map_on_ (fun a b e => ?_) ((List.nodup_range).filter _)
              rw [← idx_unidx a, ← idx_unidx b, e]
            · obtain ⟨i, hi, rfl⟩ := List.mem_map.1 hp
              have := (List.mem_filter.1 hi).2
              unfold marks at this
              obtain ⟨t, ht, e⟩ := of_decide_eq_true this
              exact ⟨t, ht, by rw [← e, unidx_idx (HP.out t ht)]⟩
            · rintro ⟨t, ht, rfl⟩
              refine List.mem_map.2 ⟨idx (P t), List.mem_filter.2 ⟨List.mem_range.2 (idx_lt (HP.out t ht)), ?_⟩, unidx_idx (HP.out t ht)⟩
              unfold marks
              exact decide_eq_true ⟨t, ht, rfl⟩)
          go_wp2
          go_ret2
          exact ⟨_, Z, _, rfl, FIN.out⟩
end Go.Proofs.YtdocclkphffpkaaGreat

namespace Go.Proofs.YtdocclkphffpkaaGreat
open Go.RowKit Go.Shelf

attribute [local go_sem] Oper.semAt_some

theorem spot_of {M : Nat → Nat} {Z : Nat → Nat → Pl} (hg : ∀ i j, Good (Z i j)) {i j : Nat} {p : Spot} (h : HasP M Z i j p) : SpotOk p := by
  rcases h with ⟨i', j', _, _, hz⟩ | ⟨j', _, hz⟩
  · exact hg i' j' _ hz
  · exact hg i j' _ hz

set_option maxRecDepth 20000 in
theorem refPlaces_any (K S M : Nat → Nat) (V : Nat → Value) (Z : Nat → Nat → Pl) (w : World) (hr : ∀ i, i < 8 → ReadsZ w (V i) (M i) (Z i)) (hg : ∀ i j, Good (Z i j)) (hM : ∀ i, i < 8 → M i ≤ 32) :
    Calls Tryz.prog 61 #[.agg (scells K S V).toArray] w fun e w' => ∃ (A : Option Addr) (n c : Nat) (E : List Spot), e = .returned (.slice A n c) ∧ n = E.length ∧ E.Nodup ∧ (∀ p, p ∈ E ↔ HasP M Z 8 0 p) ∧ Below w.heap.size w w' := by
  have Z1 := Lib.hid (st_new w K S V)
  have B1 : Hid (Below w.heap.size w (w.alloc (.cells (scells K S V).toArray 32))) := Lib.hid ((Below.refl _ w).alloc (Nat.le_refl _) _)
  obtain ⟨w1, hw1⟩ : ∃ w1, w1 = w.alloc (.cells (scells K S V).toArray 32) := ⟨_, rfl⟩
  rw [← hw1] at Z1 B1
  have HR := Lib.hid hr
  have HG := Lib.hid hg
  have HM := Lib.hid hM
  clear hr hg hM
  go_enter Tryz.func61, Tryz.ntmps61
  go_wp2_with (rw [← hw1]; clear hw1; refine wpList_load_mid rfl 32 (.tmp 1) rfl w.heap.size 0 rfl (scells K S V) _ (StIs.whole Z1.out) Tryz.underlying32 rfl (state_len _ _ _) ?_)
  with_reducible refine (all_any K S M V Z w1 (fun i hi => (HR.out i hi).below B1.out) HG.out HM.out).mono ?_
  rintro e w2 ⟨v, q, P, rfl, ho, hq, hn, hb2⟩
  have B2 := Lib.hid (B1.out.trans (hb2.mono B1.out.size))
  have HO := Lib.hid ho.reads
  obtain ⟨A, c, rfl⟩ := ho.shape
  have HN := Lib.hid hn
  have HQ := Lib.hid hq
  clear ho hn hq hb2 Z1 B1
  go_wp2_with fail
  with_reducible refine (refSort_any _ q P w2 HO.out (fun t ht => spot_of HG.out (HN.out.has ht)) (by have := HQ.out; omega)).mono ?_
  rintro e w3 ⟨u, Z', E, rfl, ho, hnd, hE, hb3⟩
  obtain ⟨A', c', rfl⟩ := ho.shape
  have B3 := Lib.hid (B2.out.trans (hb3.mono B2.out.size))
  have FIN : Hid (E.Nodup ∧ (∀ p, p ∈ E ↔ HasP M Z 8 0 p) ∧ Below w.heap.size w w3) := Lib.hid ⟨hnd, fun p => (hE p).trans ⟨fun ⟨t, ht, e⟩ => e ▸ HN.out.has ht, fun hp => HN.out.every hp⟩, B3.out⟩
  clear ho hnd hE hb3
  go_wp2
  go_ret
  exact ⟨A', _, c', E, rfl, rfl, FIN.out⟩

def FitW (s b : Int) (K S M : Nat → Nat) (Z : Nat → Nat → Pl) : Prop := Geo s b ∧ SoundA K S M ∧ ∀ p, HasP M Z 8 0 p → (p.1 : Int) < s ∧ (p.2 : Int) < b

set_option maxRecDepth 20000 in
theorem within_any (s b : Int) (K S M : Nat → Nat) (V : Nat → Value) (Z : Nat → Nat → Pl) (w : World) (hr : ∀ i, i < 8 → ReadsZ w (V i) (M i) (Z i)) (hg : ∀ i j, Good (Z i j)) :
    Calls Tryz.prog 60 #[.agg (scells K S V).toArray, .agg #[.int .i64 s, .int .i64 b]] w fun e w' => (∃ x, e = .returned (.int .i64 x) ∧ (x = 0 ↔ FitW s b K S M Z)) ∧ Below w.heap.size w w' := by
  have ZB := Lib.hid ((st_new w K S V).below ((Below.refl _ _).alloc (Nat.le_refl _) (.cells #[.int .i64 s, .int .i64 b] 34)))
  have B0 : Hid (Below w.heap.size w ((w.alloc (.cells (scells K S V).toArray 32)).alloc (.cells #[.int .i64 s, .int .i64 b] 34))) := Lib.hid (((Below.refl _ w).alloc (Nat.le_refl _) _).alloc (by simp) _)
  obtain ⟨w0, hw0⟩ : ∃ w0, w0 = (w.alloc (.cells (scells K S V).toArray 32)).alloc (.cells #[.int .i64 s, .int .i64 b] 34) := ⟨_, rfl⟩
  have e0 : w0.cell? ⟨w.heap.size + 1, 0, none⟩ = some (.int .i64 s) := by rw [hw0, ← World.size_alloc w (.cells (scells K S V).toArray 32), World.cell?_alloc_mark]; rfl
  have e1 : w0.cell? ⟨w.heap.size + 1, 1, none⟩ = some (.int .i64 b) := by rw [hw0, ← World.size_alloc w (.cells (scells K S V).toArray 32), World.cell?_alloc_mark]; rfl
  rw [← hw0] at ZB B0
  have HR := Lib.hid hr
  have HG := Lib.hid hg
  clear hr hg
  by_cases g : Geo s b
  · have G := Lib.hid g
    clear g
    go_enter Tryz.func60, Tryz.ntmps60
    go_wp2_with fail
    rw [← hw0]
    clear hw0
    with_reducible refine (may_ok s b _ G.out).mono ?_
    rintro e w1 ⟨rfl, hb1⟩
    have Z1 := Lib.hid (ZB.out.below hb1)
    have B1 := Lib.hid (B0.out.trans (hb1.mono B0.out.size))
    have E0 := Lib.hid (cell_later hb1 e0)
    have E1 := Lib.hid (cell_later hb1 e1)
    clear hb1 ZB B0 e0 e1
    go_wp2_with (refine wpList_load_mid rfl 32 (.tmp 2) rfl w.heap.size 0 rfl (scells K S V) _ (StIs.whole Z1.out) Tryz.underlying32 rfl (state_len _ _ _) ?_)
    with_reducible refine (refSound_any K S M V Z _ (fun i hi => (HR.out i hi).below B1.out) HG.out).mono ?_
    rintro e w2 ⟨⟨x, rfl, hx⟩, hb2⟩
    have Z2 := Lib.hid (Z1.out.below hb2)
    have B2 := Lib.hid (B1.out.trans (hb2.mono B1.out.size))
    have F0 := Lib.hid (cell_later hb2 E0.out)
    have F1 := Lib.hid (cell_later hb2 E1.out)
    have HX := Lib.hid hx
    clear hb2 Z1 B1 E0 E1 hx
    cases x with
    | false =>
      have NS : Hid (¬ FitW s b K S M Z) := Lib.hid fun h => absurd (HX.out.2 h.2.1) (by decide)
      go_wp2
      go_ret
      exact ⟨⟨_, rfl, ⟨fun h => absurd h (by decide), fun h => absurd h NS.out⟩⟩, B2.out⟩
    | true =>
      have SO : Hid (SoundA K S M) := Lib.hid (HX.out.1 rfl)
      have M32 : Hid (∀ i, i < 8 → M i ≤ 32) := Lib.hid fun i hi => by
        obtain ⟨h1, h2⟩ := SO.out i hi
        unfold EntryA at h1
        omega
      clear HX
      go_wp2_with (refine wpList_load_mid rfl 32 (.tmp 2) rfl w.heap.size 0 rfl (scells K S V) _ (StIs.whole Z2.out) Tryz.underlying32 rfl (state_len _ _ _) ?_)
      with_reducible refine (all_any K S M V Z _ (fun i hi => (HR.out i hi).below B2.out) HG.out M32.out).mono ?_
      rintro e w3 ⟨v, n, P, rfl, ho, hq, hn, hb3⟩
      obtain ⟨A, c, rfl⟩ := ho.shape
      have RO := Lib.hid ho.reads
      have B3 := Lib.hid (B2.out.trans (hb3.mono B2.out.size))
      have G0 := Lib.hid (cell_later hb3 F0.out)
      have G1 := Lib.hid (cell_later hb3 F1.out)
      have HN := Lib.hid hn
      clear hb3 Z2 B2 F0 F1 ho hn
      go_wp2
      go_loopw [6] (fun x wr => ∃ i : Nat, i ≤ n ∧ x = .int .i64 (i : Int) ∧ Below w3.heap.size w3 wr ∧ ∀ j, j < i → ((P j).1 : Int) < s ∧ ((P j).2 : Int) < b) (fun x _ => n - (intOf x).toNat)
      case atStart => exact ⟨0, by omega, rfl, Below.refl _ _, fun j hj => absurd hj (by omega)⟩
      case round =>
        obtain ⟨i, hi, rfl, hb, hpre⟩ := hrel
        have HB := Lib.hid hb
        have HPRE := Lib.hid hpre
        clear hb hpre
        by_cases hlt : i < n
        · obtain ⟨ad, rfl⟩ := RO.out.addr (by omega)
          obtain ⟨a, ea⟩ : ∃ a, a = (P i).1 := ⟨_, rfl⟩
          obtain ⟨d, ed⟩ : ∃ d, d = (P i).2 := ⟨_, rfl⟩
          have hok := spot_of HG.out (HN.out.has hlt)
          have hc : w3.cell? (ad.add i) = some (.complex .f64 (fl a) (fl d)) := by rw [ea, ed]; exact RO.out.at_ hlt
          have ha : a < 24 := by rw [ea]; exact hok.1
          have hd : d < 16 := by rw [ed]; exact hok.2
          have EA := Lib.hid ea
          have ED := Lib.hid ed
          clear ea ed hok
          have S0 : Below wr.heap.size wr wr.drew := (Below.refl _ _).drew
          go_wp2
          refine wp_region_noPanic ?_
          refine wp_region_held_drew (S := fun w' => Below w3.heap.size w3 w') (by kernel_rfl) (HB.out.drew) (fun hH => ?_)
          refine wpAnyH_take (i := 0) (v := .agg #[.int .i64 s, .int .i64 b]) rfl (by kernel_rfl) (by kernel_rfl) (by kernel_rfl) (fun _ _ _ h => h) (Or.inl ⟨by rfl, fun w' hS => by have s1 := cell_later hS G0.out; have s2 := cell_later hS G1.out; go_simp⟩) hH ?_
          simp only [Act.put, List.setIfInBounds_toArray]
          refine wpAnyH_take (i := 1) (v := .slice (some ad) n c) rfl (by kernel_rfl) (by kernel_rfl) (by kernel_rfl) (fun _ _ _ h => h) (Or.inl ⟨by rfl, fun w' hS => by go_simp⟩) hH ?_
          simp only [Act.put]
          refine wpAnyH_take (i := 2) (v := .int .i64 (i : Int)) rfl (by kernel_rfl) (by kernel_rfl) (by kernel_rfl) (fun _ _ _ h => h) (Or.inl ⟨by rfl, fun w' hS => by go_simp⟩) hH ?_
          simp only [Act.put]
          refine wpAnyH_take (i := 3) (v := .pointer (some (ad.add i))) rfl (by kernel_rfl) (by kernel_rfl) (by kernel_rfl) (fun _ _ _ h => h) (Or.inl ⟨by rfl, fun w' hS => by go_simp⟩) hH ?_
          simp only [Act.put]
          refine wpAnyH_take (i := 4) (v := .complex .f64 (fl a) (fl d)) rfl (by kernel_rfl) (by kernel_rfl) (by kernel_rfl) (fun _ _ _ h => h) (Or.inl ⟨by rfl, fun w' hS => by have s1 := cell_later hS hc; go_simp⟩) hH ?_
          simp only [Act.put]
          refine wpAnyH_ready (rs := [5]) (by kernel_rfl) (by simp) ?_
          refine AllReadyH.cons rfl (fun K_ hK_ => ?_) AllReadyH.nil
          go_simp
          refine (refAt_any s b a d _ G.out ha hd).mono ?_
          rintro e w5 ⟨⟨t, x, rfl, hx⟩, hb5⟩
          have B5 : Below w3.heap.size w3 w5 := hH.trans (hb5.mono hH.size)
          have B5w := Lib.hid B5
          have HX := Lib.hid hx
          clear hb5 hx S0
          refine hK_.out _ _ B5 (fun hH => ?_)
          clear hK_ K_ B5
          refine wpAnyH_take (i := 6) (v := .tuple #[.int .i64 t, .int .i64 x]) rfl (by kernel_rfl) (by kernel_rfl) (by kernel_rfl) (fun _ _ _ h => h) (Or.inl ⟨by rfl, fun w' hS => by go_simp⟩) hH ?_
          simp only [Act.put, List.setIfInBounds_toArray]
          refine wpAnyH_take (i := 7) (v := .int .i64 t) rfl (by kernel_rfl) (by kernel_rfl) (by kernel_rfl) (fun _ _ _ h => h) (Or.inl ⟨by rfl, fun w' hS => by go_simp⟩) hH ?_
          simp only [Act.put]
          refine wpAnyH_take (i := 8) (v := .int .i64 x) rfl (by kernel_rfl) (by kernel_rfl) (by kernel_rfl) (fun _ _ _ h => h) (Or.inl ⟨by rfl, fun w' hS => by go_simp⟩) hH ?_
          simp only [Act.put]
          refine wpAnyH_take (i := 9) (v := .int .i64 t) rfl (by kernel_rfl) (by kernel_rfl) (by kernel_rfl) (fun _ _ _ h => h) (Or.inl ⟨by rfl, fun w' hS => by go_simp⟩) hH ?_
          simp only [Act.put]
          refine wpAnyH_take (i := 10) (v := .int .i64 x) rfl (by kernel_rfl) (by kernel_rfl) (by kernel_rfl) (fun _ _ _ h => h) (Or.inl ⟨by rfl, fun w' hS => by go_simp⟩) hH ?_
          simp only [Act.put]
          refine wpAnyH_done (by kernel_rfl) ?_ _
          refine NoPanic.normal ?_
          clear hH
          by_cases hx0 : x = 0
          · subst hx0
            go_wp2
            go_roundw
            case rel => exact ⟨i + 1, by omega, by go_num, B5w.out, fun j hj => by
              by_cases hji : j < i
              · exact HPRE.out j hji
              · obtain rfl : j = i := by omega
                rw [← EA.out, ← ED.out]
                exact HX.out.1 (by first | trivial | rfl)⟩
            case measure => simp [intOf]; omega
          · have d1 : (x != 0) = true := by simp [hx0]
            have d2 : (x == 0) = false := by simp [hx0]
            have HX0 := Lib.hid hx0
            have FIN : Hid (¬ FitW s b K S M Z ∧ Below w.heap.size w w5) := Lib.hid ⟨fun h => by
              have := h.2.2 (P i) (HN.out.has hlt)
              rw [← EA.out, ← ED.out] at this
              exact HX0.out (HX.out.2 this), B3.out.trans (B5w.out.mono B3.out.size)⟩
            clear hx0
            go_wp2
            go_ret
            exact ⟨⟨_, rfl, ⟨fun h => absurd h (by decide), fun h => absurd h FIN.out.1⟩⟩, FIN.out.2⟩
        · obtain rfl : i = n := by omega
          have FIN : Hid (FitW s b K S M Z ∧ Below w.heap.size w wr) := Lib.hid ⟨⟨G.out, SO.out, fun p hp => by
            obtain ⟨j, hj, e⟩ := HN.out.every hp
            rw [← e]; exact HPRE.out j hj⟩, B3.out.trans (HB.out.mono B3.out.size)⟩
          go_wp2
          go_ret
          exact ⟨⟨_, rfl, ⟨fun _ => FIN.out.1, fun _ => rfl⟩⟩, FIN.out.2⟩
  · have G := Lib.hid g
    clear g
    go_enter Tryz.func60, Tryz.ntmps60
    go_wp2_with fail
    rw [← hw0]
    clear hw0
    with_reducible refine (may_no s b _ G.out).mono ?_
    rintro e w1 ⟨rfl, hb1⟩
    have B1 := Lib.hid (B0.out.trans (hb1.mono B0.out.size))
    clear hb1 e0 e1
    go_wp2
    go_ret
    exact ⟨⟨_, rfl, ⟨fun h => absurd h (by decide), fun h => absurd h.1 G.out⟩⟩, B1.out⟩

theorem fitA_iff {s b : Int} {K S M : Nat → Nat} {Z : Nat → Nat → Pl} {E : List Spot} (hn : E.Nodup) (hE : ∀ p, p ∈ E ↔ HasP M Z 8 0 p) : FitA s b K S M Z ↔ FitW s b K S M Z ∧ (E.length : Int) ≤ (s - 4) * b := by
  unfold FitA FitW
  rw [← holds_same]
  constructor
  · rintro ⟨h1, h2, h3, E', e1, e2, e3⟩
    refine ⟨⟨h1, h2, h3⟩, ?_⟩
    have := same_length hn e1 fun p => (hE p).trans (e2 p).symm
    omega
  · rintro ⟨⟨h1, h2, h3⟩, h4⟩
    exact ⟨h1, h2, h3, E, hn, hE, h4⟩

set_option maxRecDepth 20000 in
set_option maxHeartbeats 1000000 in
theorem refFit_any (s b : Int) (K S M : Nat → Nat) (V : Nat → Value) (Z : Nat → Nat → Pl) (w : World) (hr : ∀ i, i < 8 → ReadsZ w (V i) (M i) (Z i)) (hg : ∀ i j, Good (Z i j)) :
    Calls Tryz.prog 39 #[.agg (scells K S V).toArray, .agg #[.int .i64 s, .int .i64 b]] w fun e w' => (∃ x, e = .returned (.int .i64 x) ∧ (x = 0 ↔ FitA s b K S M Z)) ∧ Below w.heap.size w w' := by
  have ZB := Lib.hid ((st_new w K S V).below ((Below.refl _ _).alloc (Nat.le_refl _) (.cells #[.int .i64 s, .int .i64 b] 34)))
  have B0 : Hid (Below w.heap.size w ((w.alloc (.cells (scells K S V).toArray 32)).alloc (.cells #[.int .i64 s, .int .i64 b] 34))) := Lib.hid (((Below.refl _ w).alloc (Nat.le_refl _) _).alloc (by simp) _)
  obtain ⟨w0, hw0⟩ : ∃ w0, w0 = (w.alloc (.cells (scells K S V).toArray 32)).alloc (.cells #[.int .i64 s, .int .i64 b] 34) := ⟨_, rfl⟩
  have e0 : w0.cell? ⟨w.heap.size + 1, 0, none⟩ = some (.int .i64 s) := by rw [hw0, ← World.size_alloc w (.cells (scells K S V).toArray 32), World.cell?_alloc_mark]; rfl
  have e1 : w0.cell? ⟨w.heap.size + 1, 1, none⟩ = some (.int .i64 b) := by rw [hw0, ← World.size_alloc w (.cells (scells K S V).toArray 32), World.cell?_alloc_mark]; rfl
  rw [← hw0] at ZB B0
  have HR := Lib.hid hr
  have HG := Lib.hid hg
  clear hr hg
  go_enter Tryz.func39, Tryz.ntmps39
  go_wp2_with (rw [← hw0]; clear hw0; refine wpList_load_mid rfl 32 (.tmp 2) rfl w.heap.size 0 rfl (scells K S V) _ (StIs.whole ZB.out) Tryz.underlying32 rfl (state_len _ _ _) ?_)
  with_reducible refine (within_any s b K S M V Z _ (fun i hi => (HR.out i hi).below B0.out) HG.out).mono ?_
  rintro e w1 ⟨⟨x, rfl, hx⟩, hb1⟩
  have Z1 := Lib.hid (ZB.out.below hb1)
  have B1 := Lib.hid (B0.out.trans (hb1.mono B0.out.size))
  have E0 := Lib.hid (cell_later hb1 e0)
  have E1 := Lib.hid (cell_later hb1 e1)
  have HX := Lib.hid hx
  clear hb1 ZB B0 e0 e1 hx
  by_cases hx0 : x = 0
  · subst hx0
    have FW : Hid (FitW s b K S M Z) := Lib.hid (HX.out.1 rfl)
    have G : Hid (Geo s b) := Lib.hid FW.out.1
    have M32 : Hid (∀ i, i < 8 → M i ≤ 32) := Lib.hid fun i hi => by
      obtain ⟨h1, h2⟩ := FW.out.2.1 i hi
      unfold EntryA at h1
      omega
    have CP := Lib.hid (fun W => refCapacity_ok s b W G.out)
    obtain ⟨k, ek⟩ : ∃ k, k = (s - 4) * b := ⟨_, rfl⟩
    rw [← ek] at CP
    have EK := Lib.hid ek
    have ZR : Hid (∀ W, Below w1.heap.size w1 W → ∀ i, i < 8 → ReadsZ W (V i) (M i) (Z i)) := Lib.hid fun W hW i hi => (HR.out i hi).below (B1.out.trans (hW.mono B1.out.size))
    clear HX ek
    go_wp2
    refine wp_region_noPanic ?_
    refine wp_region_held_drew (S := fun w' => Below w1.heap.size w1 w') (by kernel_rfl) ((Below.refl _ _).drew) (fun hH => ?_)
    refine wpAnyH_take (i := 0) (v := .int .i64 0) rfl (by kernel_rfl) (by kernel_rfl) (by kernel_rfl) (fun _ _ _ h => h) (Or.inl ⟨by rfl, fun w' hS => by go_simp⟩) hH ?_
    simp only [Act.put, List.setIfInBounds_toArray]
    refine wpAnyH_take (i := 1) (v := .bool true) rfl (by kernel_rfl) (by kernel_rfl) (by kernel_rfl) (fun _ _ _ h => h) (Or.inl ⟨by rfl, fun w' hS => by go_simp⟩) hH ?_
    simp only [Act.put]
    refine wpAnyH_take (i := 2) (v := .bool true) rfl (by kernel_rfl) (by kernel_rfl) (by kernel_rfl) (fun _ _ _ h => h) (Or.inl ⟨by rfl, fun w' hS => by go_simp⟩) hH ?_
    simp only [Act.put]
    refine wpAnyH_take (i := 3) (v := .agg (scells K S V).toArray) rfl (by kernel_rfl) (by kernel_rfl) (by kernel_rfl) (fun _ _ _ h => h) (yieldsIf_load_mid (by rfl) 32 (.tmp 2) rfl w.heap.size 0 rfl (scells K S V) _ (fun w' hS => StIs.whole (Z1.out.below hS)) Tryz.underlying32 rfl (state_len _ _ _)) hH ?_
    simp only [Act.put]
    refine wpAnyH_take (i := 6) (v := .agg #[.int .i64 s, .int .i64 b]) rfl (by kernel_rfl) (by kernel_rfl) (by kernel_rfl) (fun _ _ _ h => h) (Or.inl ⟨by rfl, fun w' hS => by have s1 := cell_later hS E0.out; have s2 := cell_later hS E1.out; go_simp⟩) hH ?_
    simp only [Act.put]
    refine wpAnyH_ready (rs := [4]) (by kernel_rfl) (by simp) ?_
    refine AllReadyH.cons rfl (fun K_ hK_ => ?_) AllReadyH.nil
    · rw [if_pos (by rfl)]
      go_simp
      refine (refPlaces_any K S M V Z _ (ZR.out _ hH) HG.out M32.out).mono ?_
      rintro e w2 ⟨A, n, c, E, rfl, en, hnd, hE, hb2⟩
      have B2 : Below w1.heap.size w1 w2 := hH.trans (hb2.mono hH.size)
      have B2w := Lib.hid B2
      have IFF := Lib.hid (fitA_iff (s := s) (b := b) (K := K) (S := S) hnd hE)
      rw [← en, ← EK.out] at IFF
      clear hb2 hnd hE en
      refine hK_.out _ _ B2 (fun hH => ?_)
      clear hK_ K_ B2
      refine wpAnyH_take (i := 5) (v := .int .i64 (n : Int)) rfl (by kernel_rfl) (by kernel_rfl) (by kernel_rfl) (fun _ _ _ h => h) (Or.inl ⟨by rfl, fun w' hS => by go_simp⟩) hH ?_
      simp only [Act.put]
      refine wpAnyH_ready (rs := [7]) (by kernel_rfl) (by simp) ?_
      refine AllReadyH.cons rfl (fun K_ hK_ => ?_) AllReadyH.nil
      rw [if_pos (by rfl)]
      go_simp
      refine (CP.out _).mono ?_
      rintro e w3 ⟨rfl, hb3⟩
      have B3 : Below w1.heap.size w1 w3 := hH.trans (hb3.mono hH.size)
      have B3w := Lib.hid B3
      clear hb3
      refine hK_.out _ _ B3 (fun hH => ?_)
      clear hK_ K_ B3
      refine wpAnyH_take (i := 8) (v := .bool (decide (k < (n : Int)))) rfl (by kernel_rfl) (by kernel_rfl) (by kernel_rfl) (fun _ _ _ h => h) (Or.inl ⟨by rfl, fun w' hS => by go_simp⟩) hH ?_
      simp only [Act.put]
      refine wpAnyH_take (i := 9) (v := .bool (decide (k < (n : Int)))) rfl (by kernel_rfl) (by kernel_rfl) (by kernel_rfl) (fun _ _ _ h => h) (Or.inl ⟨by rfl, fun w' hS => by go_simp⟩) hH ?_
      simp only [Act.put]
      refine wpAnyH_done (by kernel_rfl) ?_ _
      refine NoPanic.normal ?_
      have FB := Lib.hid (B1.out.trans (B3w.out.mono B1.out.size))
      clear hH
      by_cases hlt : k < (n : Int)
      · have FN : Hid (¬ FitA s b K S M Z) := Lib.hid fun h => by have := (IFF.out.1 h).2; omega
        go_wp2
        go_ret
        exact ⟨⟨_, rfl, ⟨fun h => absurd h (by decide), fun h => absurd h FN.out⟩⟩, FB.out⟩
      · have FN : Hid (FitA s b K S M Z) := Lib.hid (IFF.out.2 ⟨FW.out, by omega⟩)
        go_wp2
        go_ret
        exact ⟨⟨_, rfl, ⟨fun _ => FN.out, fun _ => rfl⟩⟩, FB.out⟩
  · have d1 : (x == 0) = false := by simp [hx0]
    have FN : Hid (¬ FitA s b K S M Z) := Lib.hid fun h => hx0 (HX.out.2 ⟨h.1, h.2.1, h.2.2.1⟩)
    have X0 := Lib.hid hx0
    clear hx0 HX
    go_wp2
    go_quiet (fail)
    have FB : Hid (Below w.heap.size w (w1.drewN nq)) := Lib.hid (below_drewN B1.out nq)
    go_wp2
    go_ret
    exact ⟨⟨_, rfl, ⟨fun h => absurd h X0.out, fun h => absurd h FN.out⟩⟩, FB.out⟩
end Go.Proofs.YtdocclkphffpkaaGreat

