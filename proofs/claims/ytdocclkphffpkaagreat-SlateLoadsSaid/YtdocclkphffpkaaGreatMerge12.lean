/- Owners, of any state whose places are places or none: whether it is sound, and which places it then names. Fit, of any state whose places are places or none, and any geometry. -/
import Derived.Test.YtdocclkphffpkaaGreatLfSound
import Derived.Test.YtdocclkphffpkaaGreatLfByPlace
import Derived.Test.YtdocclkphffpkaaGreatLfSorted
import Derived.Test.YtdocclkphffpkaaGreatLfPlat
namespace Go.Proofs.YtdocclkphffpkaaGreat
open Go.RowKit

/-- A slice that is looked up; none if there is no such key. -/
theorem run_lookup_place {W : World} {b base N : Nat} {E : List Spot} {es : Array MapEntry} {p : Spot} (h : MapZ W b base N E es) (hp : SpotOk p) : ∃ A n c, (Instr.lookup MT (.map (some b)) (zval (some p)) false).run Tryz.prog W = .ok (.slice A n c) W := by
  have hg : (getObj b).run Tryz.prog W = .ok (.map es es.size) W := MapKept.run_getObj_map h.obj
  have hk := run_key (w := W) hp h.keys
  have key : ∃ u, (∃ A n c, u = Value.slice A n c) ∧ (Instr.lookup MT (.map (some b)) (zval (some p)) false).run Tryz.prog W = .ok u W := by
    cases hf : findAt p E 0 with
    | none =>
      rw [hf] at hk
      refine ⟨.slice none 0 0, ⟨_, _, _, rfl⟩, ?_⟩
      simp only [Instr.lookup, Sem.run_bind, run_underlying Tryz.underlying135, Result.andThen_ok, hg, Sem.run_pure, run_check, hk, Option.map_none, owners_zero, Bool.false_eq_true, if_false]
    | some j =>
      obtain ⟨k, hkj, hE⟩ := findAt_some hf
      rw [Nat.zero_add] at hkj
      subst hkj
      obtain ⟨e, he, hkey, hborn⟩ := h.keys.at_ j p hE
      rw [hf] at hk
      refine ⟨e.val, ?_, ?_⟩
      · obtain ⟨n, us, -, ho⟩ := h.own j e he
        rcases ho.2 with ⟨e1, _⟩ | ⟨_, _, _, e1, _⟩
        · exact ⟨_, _, _, e1⟩
        · exact ⟨_, _, _, e1⟩
      · simp only [Instr.lookup, Sem.run_bind, run_underlying Tryz.underlying135, Result.andThen_ok, hg, Sem.run_pure, run_check, hk, Option.map_some, he, Option.getD_some, Bool.false_eq_true, if_false]
  obtain ⟨u, ⟨A, n, c, rfl⟩, hr⟩ := key
  exact ⟨A, n, c, hr⟩

theorem owners_info_ : (Tryz.prog.info? 138).map (fun i => (i.zero, i.size, i.bytes)) = some (some (.slice none 0 0), 1, 24) := by kernel_rfl
theorem rows_zeros (k : Nat) : (madeCells (Value.slice none 0 0).cells k) = ((List.range k).map fun _ => Value.slice none 0 0).toArray := by
  apply Array.ext'
  unfold madeCells
  simp only [Array.toList_map, Array.toList_range]
  apply List.map_congr_left
  intro i _
  simp [Value.cells, Nat.mod_one]
theorem make_rows (k : Nat) (hk : 24 * k ≤ 281474976710656) (u : World) :
    (Instr.makeSlice 110 (.int .i64 (k : Int)) (.int .i64 (k : Int))).run Tryz.prog u = .ok (.slice (some ⟨u.heap.size, 0, none⟩) k k) (u.alloc (.cells ((List.range k).map fun _ => Value.slice none 0 0).toArray 138)) := by
  obtain ⟨i0, hi, hz0, hz1, hz2⟩ := info_parts owners_info_
  have h := run_make (P := Tryz.prog) u 110 138 i0 (.slice none 0 0) Tryz.underlying110 hi hz0 .i64 .i64 (k : Int) (k : Int) (by omega) (Int.le_refl _) (by rw [hz2]; omega) (by omega)
  rw [hz1, Int.toNat_natCast, Nat.mul_one] at h
  rw [h, rows_zeros]

/-- No more unlike places than there are. -/
theorem spots_most {E : List Spot} (hn : E.Nodup) (hok : ∀ p ∈ E, SpotOk p) : E.length ≤ 384 := by
  have h1 : (E.map spotN).Nodup := by
    rw [List.Nodup, List.pairwise_map]
    refine List.Pairwise.imp_of_mem (fun {a c} ha hc hac e => hac (spotN_inj (hok a ha) (hok c hc) e)) hn
  have h2 : E.map spotN ⊆ List.range 384 := fun k hk => by
    obtain ⟨p, hp, rfl⟩ := List.mem_map.1 hk
    have := hok p hp
    unfold SpotOk at this
    unfold spotN
    exact List.mem_range.2 (by omega)
  have := List.Nodup.length_le_of_subset h1 h2
  rwa [List.length_map, List.length_range] at this

set_option maxRecDepth 100000 in
set_option maxHeartbeats 1000000 in
theorem owners_any (K S M : Nat → Nat) (V : Nat → Value) (Z : Nat → Nat → Pl) (w : World) (hr : ∀ i, i < 8 → ReadsZ w (V i) (M i) (Z i)) (hg : ∀ i j, Good (Z i j)) (hM : ∀ i, i < 8 → M i ≤ 1000) :
    Calls Tryz.prog 66 #[.agg (scells K S V).toArray] w fun e w' =>
      ((¬ SoundA K S M ∧ e = .returned (.tuple #[.slice none 0 0, .slice none 0 0, .int .i64 2])) ∨
       (SoundA K S M ∧ ∃ (B : Nat) (E : List Spot) (P : Nat → Spot) (v : Value), e = .returned (.tuple #[.slice (some ⟨B, 0, none⟩) E.length E.length, v, .int .i64 0]) ∧ RowIs w' B 55 (fun i => zval (some (P i))) E.length ∧ E.Nodup ∧ (∀ p, p ∈ E ↔ HasP M Z 8 0 p) ∧
        (∀ i, i < E.length → P i ∈ E) ∧ (∀ p, p ∈ E → ∃ i, i < E.length ∧ P i = p))) ∧ Below w.heap.size w w' := by
  have ZB := Lib.hid (st_new w K S V)
  have B0 : Hid (Below w.heap.size w (w.alloc (.cells (scells K S V).toArray 32))) := Lib.hid ((Below.refl _ w).alloc (Nat.le_refl _) _)
  have HR := Lib.hid hr
  have HG := Lib.hid hg
  have HM := Lib.hid hM
  clear hr hg hM
  go_enter Tryz.func66, Tryz.ntmps66
  go_wp2_with (refine wpList_load_mid rfl 32 (.tmp 1) rfl w.heap.size 0 rfl (scells K S V) _ (StIs.whole ZB.out) Tryz.underlying32 rfl (state_len _ _ _) ?_)
  with_reducible refine (sound_any K S M V Z _ (fun i hi => (HR.out i hi).below B0.out) HG.out).mono ?_
  rintro e w1 ⟨⟨x, rfl, hx⟩, hb1⟩
  have Z1 := Lib.hid (ZB.out.below hb1)
  have B1 := Lib.hid (B0.out.trans (hb1.mono B0.out.size))
  clear hb1 ZB B0
  cases x with
  | false =>
    have HX : Hid (¬ SoundA K S M) := Lib.hid fun h => by have := hx.2 h; cases this
    clear hx
    go_wp2
    go_ret3
    exact ⟨.inl ⟨HX.out, rfl⟩, B1.out⟩
  | true =>
    have HX : Hid (SoundA K S M) := Lib.hid (hx.1 rfl)
    clear hx
    go_wp2_with (refine wpList_load_mid rfl 32 (.tmp 1) rfl w.heap.size 0 rfl (scells K S V) _ (StIs.whole Z1.out) Tryz.underlying32 rfl (state_len _ _ _) ?_)
    with_reducible refine (byPlace_any K S M V Z _ (fun i hi => (HR.out i hi).below B1.out) HG.out HM.out).mono ?_
    rintro e w2 ⟨rfl, ⟨E, es, hm, hE⟩, hb2⟩
    obtain ⟨b, eb⟩ : ∃ b, b = w1.heap.size + 1 := ⟨_, rfl⟩
    rw [← eb] at hm ⊢
    have MZ := Lib.hid hm
    have B2 := Lib.hid (B1.out.trans (hb2.mono B1.out.size))
    have HE := Lib.hid hE
    have L := Lib.hid (spots_most hm.nodup hm.keys.ok)
    clear hb2 hm B1 Z1 hE eb
    go_wp2_with fail
    with_reducible refine (sorted_any _ _ _ _ _ _ MZ.out (by have := L.out; omega)).mono ?_
    rintro e w3 ⟨B, P, rfl, hrow, hp1, hp2, hb3⟩
    obtain ⟨n, en⟩ : ∃ n, n = E.length := ⟨_, rfl⟩
    rw [← en] at hrow hp1 hp2 L ⊢
    have B3 := Lib.hid (B2.out.trans (hb3.mono B2.out.size))
    have mk := make_rows n (by have := L.out; omega)
    obtain ⟨w4, hw4⟩ : ∃ w4, w4 = w3.alloc (.cells ((List.range n).map fun _ => Value.slice none 0 0).toArray 138) := ⟨_, rfl⟩
    have b4 : Below w3.heap.size w3 w4 := by rw [hw4]; exact (Below.refl _ _).alloc (Nat.le_refl _) _
    have ROW := Lib.hid (hrow.below b4)
    have LST : Hid (∃ C, RowIs w4 w3.heap.size 138 C n) := Lib.hid ⟨fun _ => .slice none 0 0, by rw [hw4]; exact heap_alloc_new w3 _⟩
    have MZ4 := Lib.hid ((MZ.out.later hb3).later b4)
    have B4 := Lib.hid (B3.out.trans (b4.mono B3.out.size))
    have BL : Hid (w.heap.size ≤ w3.heap.size) := Lib.hid B3.out.size
    have BR : Hid (B < w3.heap.size ∧ b < w3.heap.size) := Lib.hid ⟨hrow.lt, (MZ.out.later hb3).lt⟩
    have mk3 := mk w3
    clear mk
    rw [← hw4] at mk3
    have hn384 : n ≤ 384 := L.out
    have HP1 := Lib.hid hp1
    have HP2 := Lib.hid hp2
    have EN := Lib.hid en
    clear hw4 b4 hb3 hrow hp1 hp2 B3 B2 MZ en
    go_wp2
    clear mk3
    go_loopw [22] (fun x wr => ∃ i : Nat, i ≤ n ∧ x = .int .i64 (i : Int) ∧ RowIs wr B 55 (fun i => zval (some (P i))) n ∧ MapZ wr b (b + 1) 10000 E es ∧ (∃ C, RowIs wr w3.heap.size 138 C n) ∧ Below w.heap.size w wr) (fun x _ => n - (intOf x).toNat)
    case atStart => exact ⟨0, by omega, rfl, ROW.out, MZ4.out, LST.out, B4.out⟩
    case round =>
      clear ROW LST MZ4 B4
      obtain ⟨i, hi, rfl, hrow, hm, ⟨C, hc⟩, hb⟩ := hrel
      have ROW := Lib.hid hrow
      have MZ := Lib.hid hm
      have LST := Lib.hid hc
      have HB := Lib.hid hb
      clear hrow hm hc hb
      by_cases hlt : i < n
      · have c0 : wr.cell? ⟨B, i, none⟩ = some (.complex .f64 (fl (P i).1) (fl (P i).2)) := ROW.out.cell (i := i) hlt
        obtain ⟨A, m, c, hlk⟩ := run_lookup_place MZ.out (MZ.out.keys.ok _ (HP1.out i hlt))
        have hlk : (Instr.lookup MT (.map (some b)) (.complex .f64 (fl (P i).1) (fl (P i).2)) false).run Tryz.prog wr = .ok (.slice A m c) wr := hlk
        have c1 := LST.out.cell (i := i) hlt
        have c2 := LST.out.free i
        obtain ⟨X, eX⟩ : ∃ X, X = fl (P i).1 := ⟨_, rfl⟩
        obtain ⟨Y, eY⟩ : ∃ Y, Y = fl (P i).2 := ⟨_, rfl⟩
        rw [← eX, ← eY] at c0 hlk
        clear eX eY
        go_wp2
        clear c0 c1 c2 hlk
        go_roundw
        case rel => exact ⟨i + 1, by omega, by go_num, ROW.out.apart (apart_set _ _ _ _) (by have := BR.out; omega), MZ.out.cells (Below.heap_setCell _ _ _ _ (by have := BR.out; show b ≠ w3.heap.size; omega)) (fun g cs hg => Below.heap_setCell _ _ _ _ (fun e => by
          have e' : g = w3.heap.size := e
          subst e'
          have hx := (show wr.heap[w3.heap.size]? = _ from LST.out).symm.trans hg
          simp only [Option.some.injEq, Obj.cells.injEq] at hx
          exact absurd hx.2.1 (by decide))), ⟨_, LST.out.set_ (C' := fun j => if j = i then .slice A m c else C j) (fun _ => by rw [if_pos rfl]) (fun j _ hj => by rw [if_neg hj])⟩, HB.out.setCell (p := ⟨w3.heap.size, i, none⟩) BL.out _⟩
        case measure => simp [intOf]; omega
      · obtain rfl : i = n := by omega
        go_wp2
        go_ret3
        exact ⟨.inr ⟨HX.out, B, E, P, _, by rw [← EN.out]; rfl, by rw [← EN.out]; exact ROW.out, MZ.out.nodup, HE.out, by rw [← EN.out]; exact HP1.out, by rw [← EN.out]; exact HP2.out⟩, HB.out⟩
end Go.Proofs.YtdocclkphffpkaaGreat

namespace Go.Proofs.YtdocclkphffpkaaGreat
open Go.RowKit

theorem flat_out (a c : Nat) (b : Int) (w : World) (ha : a < 24) (hc : c < 16) (h1 : 1 ≤ b) (h2 : b ≤ 16) (h : b ≤ (c : Int)) :
    Calls Tryz.prog 92 #[.complex .f64 (fl a) (fl c), .int .i64 b] w fun e w' => e = .returned (.tuple #[.int .i64 0, .int .i64 5]) ∧ w = w' := by
  have d : decide (b ≤ (c : Int)) = true := by simp; omega
  go_enter Tryz.func92, Tryz.ntmps92
  go_wp2_with fail
  refine (width_any b _ h1 h2).mono ?_
  rintro e w' ⟨rfl, rfl⟩
  go_wp2_with fail
  refine (parts_any a c _ ha hc).mono ?_
  rintro e w' ⟨rfl, rfl⟩
  go_wp2
  go_ret2
  exact ⟨rfl, rfl⟩
theorem ge_int {a : Nat} {s : Int} (ha : a < 25) (h0 : 0 ≤ s) (hs : s ≤ (a : Int)) : (FloatKind.f64.format.order (fl a) (floatOfInt .f64 s) == some .gt || FloatKind.f64.format.order (fl a) (floatOfInt .f64 s) == some .eq) = true := by
  rw [fl_int h0, fl_order a s.toNat ha (by omega)]
  rcases Nat.lt_or_ge s.toNat a with h | h
  · rw [Nat.compare_eq_gt.2 h]; rfl
  · rw [Nat.compare_eq_eq.2 (by omega)]; rfl

theorem at_any (s b : Int) (a c : Nat) (w : World) (g : Geo s b) (ha : a < 24) (hc : c < 16) :
    Calls Tryz.prog 67 #[.agg #[.int .i64 s, .int .i64 b], .complex .f64 (fl a) (fl c)] w fun e w' => (∃ n x, e = .returned (.tuple #[.int .i64 n, .int .i64 x]) ∧ (x = 0 ↔ (a : Int) < s ∧ (c : Int) < b)) ∧ Below w.heap.size w w' := by
  have G := Lib.hid g
  by_cases hcb : (c : Int) < b
  · have hm : (a : Int) * b ≤ 24 * 16 := Int.mul_le_mul (by omega) g.2.2 (by have := g.2; omega) (by omega)
    have hm0 : 0 ≤ (a : Int) * b := Int.mul_nonneg (by omega) (by have := g.2; omega)
    have HC := Lib.hid hcb
    by_cases has : (a : Int) < s
    · have hf : FloatKind.f64.format.order (fl a) (floatOfInt .f64 s) = some .lt := lt_int (x := a) (by omega) has (by have := g.1; omega)
      have HA := Lib.hid has
      clear g hcb has
      go_enter Tryz.func67, Tryz.ntmps67
      go_wp2_with fail
      refine (check_ok s b _ G.out).mono ?_
      rintro e w1 ⟨rfl, hb⟩
      have c0 := geo_s hb
      have c1 := geo_b hb
      have HB := Lib.hid (geo_below hb)
      clear hb
      go_wp2_with fail
      refine (flat_any a c b _ ha (by have := G.out.2; omega) G.out.2.2 HC.out).mono ?_
      rintro e w2 ⟨rfl, rfl⟩
      go_wp2
      go_ret2
      exact ⟨⟨_, _, rfl, ⟨fun _ => ⟨HA.out, HC.out⟩, fun _ => rfl⟩⟩, HB.out⟩
    · have hf := ge_int (a := a) (s := s) (by omega) (by have := g.1; omega) (by omega)
      have HA := Lib.hid has
      clear g hcb has
      go_enter Tryz.func67, Tryz.ntmps67
      go_wp2_with fail
      refine (check_ok s b _ G.out).mono ?_
      rintro e w1 ⟨rfl, hb⟩
      have c0 := geo_s hb
      have c1 := geo_b hb
      have HB := Lib.hid (geo_below hb)
      clear hb
      go_wp2_with fail
      refine (flat_any a c b _ ha (by have := G.out.2; omega) G.out.2.2 HC.out).mono ?_
      rintro e w2 ⟨rfl, rfl⟩
      go_wp2
      go_ret2
      exact ⟨⟨_, _, rfl, ⟨fun h => absurd h (by decide), fun h => by have := h.1; have := HA.out; omega⟩⟩, HB.out⟩
  · have HC := Lib.hid hcb
    clear g hcb
    go_enter Tryz.func67, Tryz.ntmps67
    go_wp2_with fail
    refine (check_ok s b _ G.out).mono ?_
    rintro e w1 ⟨rfl, hb⟩
    have c0 := geo_s hb
    have c1 := geo_b hb
    have HB := Lib.hid (geo_below hb)
    clear hb
    go_wp2_with fail
    refine (flat_out a c b _ ha hc (by have := G.out.2; omega) G.out.2.2 (by have := HC.out; omega)).mono ?_
    rintro e w2 ⟨rfl, rfl⟩
    go_wp2
    go_ret2
    exact ⟨⟨_, _, rfl, ⟨fun h => absurd h (by decide), fun h => by have := h.2; have := HC.out; omega⟩⟩, HB.out⟩

/-- A state that fits. -/
def FitA (s b : Int) (K S M : Nat → Nat) (Z : Nat → Nat → Pl) : Prop :=
  Geo s b ∧ SoundA K S M ∧ (∀ p, HasP M Z 8 0 p → (p.1 : Int) < s ∧ (p.2 : Int) < b) ∧ ∃ E : List Spot, E.Nodup ∧ (∀ p, p ∈ E ↔ HasP M Z 8 0 p) ∧ (E.length : Int) ≤ (s - 2 - 2) * b
theorem same_length {E F : List Spot} (hE : E.Nodup) (hF : F.Nodup) (h : ∀ p, p ∈ E ↔ p ∈ F) : E.length = F.length :=
  Nat.le_antisymm (List.Nodup.length_le_of_subset hE fun p hp => (h p).1 hp) (List.Nodup.length_le_of_subset hF fun p hp => (h p).2 hp)

set_option maxRecDepth 100000 in
set_option maxHeartbeats 1000000 in
theorem fit_any (s b : Int) (K S M : Nat → Nat) (V : Nat → Value) (Z : Nat → Nat → Pl) (w : World) (hr : ∀ i, i < 8 → ReadsZ w (V i) (M i) (Z i)) (hg : ∀ i j, Good (Z i j)) (hM : ∀ i, i < 8 → M i ≤ 1000) :
    Calls Tryz.prog 45 #[.agg (scells K S V).toArray, .agg #[.int .i64 s, .int .i64 b]] w fun e w' => (∃ x, e = .returned (.int .i64 x) ∧ (x = 0 ↔ FitA s b K S M Z)) ∧ Below w.heap.size w w' := by
  have ZB := Lib.hid ((st_new w K S V).below ((Below.refl _ _).alloc (Nat.le_refl _) (.cells #[.int .i64 s, .int .i64 b] 34)))
  have B0 : Hid (Below w.heap.size w ((w.alloc (.cells (scells K S V).toArray 32)).alloc (.cells #[.int .i64 s, .int .i64 b] 34))) := Lib.hid (((Below.refl _ w).alloc (Nat.le_refl _) _).alloc (by simp) _)
  obtain ⟨w0, hw0⟩ : ∃ w0, w0 = (w.alloc (.cells (scells K S V).toArray 32)).alloc (.cells #[.int .i64 s, .int .i64 b] 34) := ⟨_, rfl⟩
  have e0 : w0.cell? ⟨w.heap.size + 1, 0, none⟩ = some (.int .i64 s) := by rw [hw0, ← World.size_alloc w (.cells (scells K S V).toArray 32), World.cell?_alloc_mark]; rfl
  have e1 : w0.cell? ⟨w.heap.size + 1, 1, none⟩ = some (.int .i64 b) := by rw [hw0, ← World.size_alloc w (.cells (scells K S V).toArray 32), World.cell?_alloc_mark]; rfl
  rw [← hw0] at ZB B0
  have HR := Lib.hid hr
  have HG := Lib.hid hg
  have HM := Lib.hid hM
  clear hr hg hM
  by_cases g : Geo s b
  · have G := Lib.hid g
    have hk : 0 ≤ (s - 2 - 2) * b := Int.mul_nonneg (by have := g.1; omega) (by have := g.2; omega)
    obtain ⟨k, ek⟩ : ∃ k, k = (s - 2 - 2) * b := ⟨_, rfl⟩
    have C2 : Hid (∀ W : World, Calls Tryz.prog 65 #[.agg #[.int .i64 s, .int .i64 b]] W (Fresh (.tuple #[.int .i64 k, .int .i64 0]) W)) := Lib.hid fun W => by rw [ek]; exact capacity_ok s b W g
    have EK := Lib.hid ek
    clear g ek hk
    go_enter Tryz.func45, Tryz.ntmps45
    go_wp2_with fail
    rw [← hw0]
    clear hw0
    with_reducible refine (C2.out _).mono ?_
    rintro e w1 ⟨rfl, hb1⟩
    have Z1 := Lib.hid (ZB.out.below hb1)
    have B1 := Lib.hid (B0.out.trans (hb1.mono B0.out.size))
    have E0 := Lib.hid (cell_later hb1 e0)
    have E1 := Lib.hid (cell_later hb1 e1)
    clear hb1 ZB B0 e0 e1
    go_wp2_with (refine wpList_load_mid rfl 32 (.tmp 2) rfl w.heap.size 0 rfl (scells K S V) _ (StIs.whole Z1.out) Tryz.underlying32 rfl (state_len _ _ _) ?_)
    with_reducible refine (owners_any K S M V Z _ (fun i hi => (HR.out i hi).below B1.out) HG.out HM.out).mono ?_
    rintro e w2 ⟨⟨hns, rfl⟩ | ⟨hso, B, E, P, v, rfl, hrow, hnd, hE, hp1, hp2⟩, hb2⟩
    · have B2 := Lib.hid (B1.out.trans (hb2.mono B1.out.size))
      have NS := Lib.hid hns
      clear hb2 hns
      go_wp2
      go_ret
      exact ⟨⟨_, rfl, ⟨fun h => absurd h (by decide), fun h => absurd h.2.1 NS.out⟩⟩, B2.out⟩
    · obtain ⟨n, en⟩ : ∃ n, n = E.length := ⟨_, rfl⟩
      rw [← en] at hrow hp1 hp2 ⊢
      have B2 := Lib.hid (B1.out.trans (hb2.mono B1.out.size))
      have ROW := Lib.hid hrow
      have F0 := Lib.hid (cell_later hb2 E0.out)
      have F1 := Lib.hid (cell_later hb2 E1.out)
      have SO := Lib.hid hso
      have HP1 := Lib.hid hp1
      have HP2 := Lib.hid hp2
      have ND := Lib.hid hnd
      have HE := Lib.hid hE
      have EN := Lib.hid en
      have OK : Hid (∀ i, i < n → SpotOk (P i)) := Lib.hid fun i hi => by
        rcases (hE _).1 (hp1 i hi) with ⟨i', j', _, _, hz⟩ | ⟨j', _, hz⟩
        · exact HG.out i' j' _ hz
        · exact HG.out 8 j' _ hz
      have hn384 : n ≤ 384 := by
        rw [en]
        refine spots_most hnd fun p hp => ?_
        obtain ⟨i, hi, e⟩ := hp2 p hp
        rw [← e]; exact OK.out i hi
      clear hb2 B1 Z1 E0 E1 hrow hso hp1 hp2 hnd hE en
      go_wp2
      go_loopw [32] (fun x wr => ∃ i : Nat, i ≤ n ∧ x = .int .i64 (i : Int) ∧ RowIs wr B 55 (fun i => zval (some (P i))) n ∧ wr.cell? ⟨w.heap.size + 1, 0, none⟩ = some (.int .i64 s) ∧ wr.cell? ⟨w.heap.size + 1, 1, none⟩ = some (.int .i64 b) ∧ Below w.heap.size w wr ∧
        ∀ j, j < i → ((P j).1 : Int) < s ∧ ((P j).2 : Int) < b) (fun x _ => n - (intOf x).toNat)
      case atStart => exact ⟨0, by omega, rfl, ROW.out, F0.out, F1.out, B2.out, fun j hj => absurd hj (by omega)⟩
      case round =>
        clear ROW F0 F1 B2
        obtain ⟨i, hi, rfl, hrow, f0, f1, hb, hpre⟩ := hrel
        have ROW := Lib.hid hrow
        have HB := Lib.hid hb
        have HPRE := Lib.hid hpre
        have F0 := Lib.hid f0
        have F1 := Lib.hid f1
        clear hrow hb hpre
        by_cases hlt : i < n
        · obtain ⟨a, ea⟩ : ∃ a, a = (P i).1 := ⟨_, rfl⟩
          obtain ⟨c, ec⟩ : ∃ c, c = (P i).2 := ⟨_, rfl⟩
          have c0 : wr.cell? ⟨B, i, none⟩ = some (.complex .f64 (fl a) (fl c)) := by rw [ea, ec]; exact ROW.out.cell (i := i) hlt
          have ha : a < 24 := by rw [ea]; exact (OK.out i hlt).1
          have hc : c < 16 := by rw [ec]; exact (OK.out i hlt).2
          have EA := Lib.hid ea
          have EC := Lib.hid ec
          clear ea ec
          go_wp2_with fail
          refine (at_any s b a c _ G.out ha hc).mono ?_
          rintro e w3 ⟨⟨t, x, rfl, hx⟩, hb3⟩
          have B3 := Lib.hid (HB.out.trans (hb3.mono HB.out.size))
          have ROW3 := Lib.hid (ROW.out.below hb3)
          have f03 := Lib.hid (cell_later hb3 F0.out)
          have f13 := Lib.hid (cell_later hb3 F1.out)
          have HX := Lib.hid hx
          clear hb3 hx c0 f0 f1
          by_cases hx0 : x = 0
          · subst hx0
            go_wp2
            go_roundw
            case rel => exact ⟨i + 1, by omega, by go_num, ROW3.out, f03.out, f13.out, B3.out, fun j hj => by
              by_cases hji : j < i
              · exact HPRE.out j hji
              · obtain rfl : j = i := by omega
                rw [← EA.out, ← EC.out]
                exact HX.out.1 (by first | trivial | rfl)⟩
            case measure => simp [intOf]; omega
          · have d : (x != 0) = true := by simp [hx0]
            have d2 : (x == 0) = false := by simp [hx0]
            have HX0 := Lib.hid hx0
            clear hx0
            go_wp2
            go_ret
            exact ⟨⟨_, rfl, ⟨fun h => absurd h HX0.out, fun h => by
              have := h.2.2.1 (P i) ((HE.out _).1 (HP1.out i hlt))
              rw [← EA.out, ← EC.out] at this
              exact HX.out.2 this⟩⟩, B3.out⟩
        · obtain rfl : i = n := by omega
          have ALL : Hid (∀ p, HasP M Z 8 0 p → (p.1 : Int) < s ∧ (p.2 : Int) < b) := Lib.hid fun p hp => by
            obtain ⟨j, hj, e⟩ := HP2.out p ((HE.out p).2 hp)
            rw [← e]; exact HPRE.out j hj
          by_cases hcap : k < (i : Int)
          · have d : decide (k < (i : Int)) = true := by simp; omega
            have HC := Lib.hid hcap
            clear hcap
            go_wp2
            go_ret
            exact ⟨⟨_, rfl, ⟨fun h => absurd h (by decide), fun h => by
              obtain ⟨E', h1, h2, h3⟩ := h.2.2.2
              have := same_length ND.out h1 fun p => (HE.out p).trans (h2 p).symm
              have := HC.out
              have := EK.out
              have := EN.out
              omega⟩⟩, HB.out⟩
          · have d : decide (k < (i : Int)) = false := by simp; omega
            have HC := Lib.hid hcap
            clear hcap
            go_wp2
            go_ret
            exact ⟨⟨_, rfl, ⟨fun _ => ⟨G.out, SO.out, ALL.out, E, ND.out, HE.out, by have := HC.out; have := EK.out; have := EN.out; omega⟩, fun _ => rfl⟩⟩, HB.out⟩
  · have G := Lib.hid g
    clear g
    go_enter Tryz.func45, Tryz.ntmps45
    go_wp2_with fail
    rw [← hw0]
    clear hw0
    with_reducible refine (capacity_bad s b _ G.out).mono ?_
    rintro e w1 ⟨rfl, hb1⟩
    have B1 := Lib.hid (B0.out.trans (hb1.mono B0.out.size))
    clear hb1 e0 e1
    go_wp2
    go_ret
    exact ⟨⟨_, rfl, ⟨fun h => absurd h (by decide), fun h => absurd h.1 G.out⟩⟩, B1.out⟩
end Go.Proofs.YtdocclkphffpkaaGreat

