/- What package table answers: New, with, Get (Put: XTabStep). -/
import Derived.Test.YtokklimfncljnaaTabWalks
namespace Go.Proofs.Ytokklimfncljnaa
open Go.RowKit

/-- A pointer to a table of its own. -/
def Tabled (n : Nat) (Z : Nat → Pl) (w : World) (e : Ending) (w' : World) : Prop := ∃ g, e = .returned (.pointer (some ⟨g, 0, none⟩)) ∧ TabAt w' g n Z ∧ Below w.heap.size w w'

theorem tnew_ok (n : Nat) (w : World) (h1 : 1 ≤ n) (h2 : n ≤ 32) :
    Calls Try.prog 11 #[.int .i64 (n : Int)] w fun e w' => ∃ g, e = .returned (.tuple #[.pointer (some ⟨g, 0, none⟩), .int .i64 0]) ∧ TabAt w' g n (fun _ => none) ∧ Below w.heap.size w w' := by
  have d1 : decide ((n : Int) < 1) = false := by simp; omega
  have d2 : decide ((32 : Int) < (n : Int)) = false := by simp; omega
  go_enter Try.func11, Try.ntmps11
  go_wp2
  go_ret2
  exact ⟨_, rfl, ⟨⟨fun _ => none, table_new w n fun _ => none, fun _ _ => .inl ⟨rfl, fun _ _ => rfl⟩⟩, ⟨h1, h2⟩, fun _ => good_none⟩, (Below.refl _ _).alloc (Nat.le_refl _) _⟩

theorem tnew_bad (z : Int) (w : World) (h : ¬ (1 ≤ z ∧ z ≤ 32)) :
    Calls Try.prog 11 #[.int .i64 z] w fun e w' => e = .returned (.tuple #[.pointer none, .int .i64 1]) ∧ w = w' := by
  by_cases h1 : z < 1
  · go_enter Try.func11, Try.ntmps11
    go_wp2
    go_ret2
    exact ⟨rfl, rfl⟩
  · have h2 : 32 < z := by omega
    have d1 : decide (z < 1) = false := by simpa using h1
    clear h
    go_enter Try.func11, Try.ntmps11
    go_wp2
    go_ret2
    exact ⟨rfl, rfl⟩

theorem tget_ok {w : World} {g n : Nat} {Z : Nat → Pl} (h : TabAt w g n Z) {i : Nat} (hi : i < n) {a b : Nat} (hz : Z i = some (a, b)) (ha : a < 24) :
    Calls Try.prog 15 #[.pointer (some ⟨g, 0, none⟩), .int .i64 (i : Int)] w (Fresh (.tuple #[.complex .f64 (fl a) (fl b), .bool true, .int .i64 0]) w) := by
  have ho := order_some_none a (by omega)
  go_enter Try.func15, Try.ntmps15
  go_wp2_with fail
  refine (check_ok h hi).mono ?_
  rintro e w' ⟨rfl, rfl⟩
  go_wp2_with fail
  have hp := place_of h hi
  rw [hz] at hp
  refine hp.mono ?_
  rintro e w1 ⟨rfl, hb⟩
  have HB := Lib.hid hb
  clear hb hp h
  rw [show zre (some (a, b)) = fl a from rfl, show zim (some (a, b)) = fl b from rfl]
  go_wp2
  go_ret3
  exact ⟨rfl, HB.out⟩

theorem tget_none {w : World} {g n : Nat} {Z : Nat → Pl} (h : TabAt w g n Z) {i : Nat} (hi : i < n) (hz : Z i = none) :
    Calls Try.prog 15 #[.pointer (some ⟨g, 0, none⟩), .int .i64 (i : Int)] w (Fresh (.tuple #[.complex .f64 0 0, .bool false, .int .i64 0]) w) := by
  have h1 := order_none
  have h2 := order_zero
  go_enter Try.func15, Try.ntmps15
  go_wp2_with fail
  refine (check_ok h hi).mono ?_
  rintro e w' ⟨rfl, rfl⟩
  go_wp2_with fail
  have hp := place_of h hi
  rw [hz] at hp
  refine hp.mono ?_
  rintro e w1 ⟨rfl, hb⟩
  have HB := Lib.hid hb
  clear hb hp h
  rw [show zre none = 13830554455654793216 from rfl, show zim none = 0 from rfl]
  go_wp2
  go_ret3
  exact ⟨rfl, HB.out⟩

/-- A table by its pages. -/
structure TabBy (w : World) (g n : Nat) (pg : Nat → Option Addr) (Z : Nat → Pl) : Prop where
  row : TableIs w g n pg
  page : ∀ k, k < 4 → PageAt w (.pointer (pg k)) fun j => Z (8 * k + j)
theorem TabBy.below {w w' : World} {g n : Nat} {pg : Nat → Option Addr} {Z : Nat → Pl} (h : TabBy w g n pg Z) (b : Below w.heap.size w w') : TabBy w' g n pg Z :=
  ⟨RowIs.below h.row b, fun k hk => (h.page k hk).below b⟩
theorem TabBy.congr {w : World} {g n : Nat} {pg : Nat → Option Addr} {Z Z' : Nat → Pl} (h : TabBy w g n pg Z) (he : ∀ j, j < 32 → Z j = Z' j) : TabBy w g n pg Z' :=
  ⟨h.row, fun k hk => (h.page k hk).congr fun j hj => he _ (by omega)⟩
/-- Behind the variable 'next'. -/
theorem copied_table {w w2 : World} {g n : Nat} {Z : Nat → Pl} {pg : Nat → Option Addr} (h : TabBy w g n pg Z)
    (hw : (w.alloc (.cells (tcells 0 fun _ => none).toArray 53)).setCells w.heap.size 0 (tcells n pg) = w2) :
    TabBy w2 g n pg Z ∧ TabBy w2 w.heap.size n pg Z ∧ Below w.heap.size w w2 ∧ w.heap.size < w2.heap.size := by
  subst hw
  have hb : Below w.heap.size w ((w.alloc (.cells (tcells 0 fun _ => none).toArray 53)).setCells w.heap.size 0 (tcells n pg)) :=
    ((Below.refl _ w).alloc (Nat.le_refl _) _).trans ((apart_setCells _ _ _ _).below (by simp) fun i hi e => by omega)
  have hr := stored_table (table_new w 0 fun _ => none) n pg
  exact ⟨h.below hb, ⟨hr, fun k hk => (h.page k hk).below hb⟩, hb, RowIs.lt hr⟩

/-- A page of it has been put in another one's place. -/
theorem TabBy.put {w : World} {g n : Nat} {pg : Nat → Option Addr} {Z : Nat → Pl} (h : TabBy w g n pg Z) {i k j : Nat} {p : Pl} (hi : 8 * k + j = i) (hj : j < 8) {A : Option Addr}
    (ha : PageAt w (.pointer A) (upd (fun j => Z (8 * k + j)) j p)) (hk : k < 4) : TabBy (w.setCell ⟨g, 1 + k, none⟩ (.pointer A)) g n (fun m => if m = k then A else pg m) (upd Z i p) := by
  have hap := apart_set w g (1 + k) (.pointer A)
  refine ⟨RowIs.set_ h.row (fun _ => ?_) (fun m _ hm => ?_), fun m hm => ?_⟩
  · rw [tcell_page, if_pos rfl]
  · unfold tcell
    by_cases h0 : m = 0
    · rw [if_pos h0, if_pos h0]
    · rw [if_neg h0, if_neg h0]
      show Value.pointer (pg (m - 1)) = Value.pointer (if m - 1 = k then A else pg (m - 1))
      rw [if_neg (by omega)]
  · by_cases e : m = k
    · subst e
      rw [if_pos rfl]
      refine (ha.besides h.row (by decide) hap).congr fun j' hj' => ?_
      unfold upd
      by_cases e2 : j' = j
      · rw [if_pos e2, if_pos (by omega)]
      · rw [if_neg e2, if_neg (by omega)]
    · rw [if_neg e]
      refine ((h.page m hm).besides h.row (by decide) hap).congr fun j' hj' => ?_
      unfold upd
      rw [if_neg (by omega)]

theorem with_any {w : World} {g n : Nat} {Z : Nat → Pl} (h : TabAt w g n Z) {i : Nat} (hi : i < n) {p : Pl} (hp : Good p) :
    Calls Try.prog 23 #[.pointer (some ⟨g, 0, none⟩), .int .i64 (i : Int), .complex .f64 (zre p) (zim p)] w (Tabled n (upd Z i p) w) := by
  have hz := zero_table
  obtain ⟨pg, hr, hpg⟩ := h.ex
  have hs := h.size
  have hg := h.good
  have HG := Lib.hid (good_upd hg hp i)
  have RR := Lib.hid (TableIs.range hr)
  have RT : (w.alloc (.cells (tcells 0 fun _ => none).toArray 53)).there w.heap.size 0 (tcells n pg).toArray.size := RowIs.there (table_new w 0 fun _ => none) (o := 0) (m := 5) (by omega)
  have HT : Hid (TabBy w g n pg Z) := Lib.hid ⟨hr, hpg⟩
  have HS := Lib.hid hs
  clear hr hpg h
  go_enter Try.func23, Try.ntmps23
  go_wp2_with (first
    | (refine wpList_load_mid rfl 53 (.tmp 10) ?_ g 0 ?_ (tcells n pg) _ ?_ Try.underlying53 rfl table_size ?_
       · rfl
       · rfl
       · exact RR.out)
    | (refine wpList_store_mid rfl 53 (.tmp 7) (.tmp 11) ?_ w.heap.size 0 (tcells n pg).toArray ?_ ?_ ?_ table_size (tcells_one _ _) ?_
       · rfl
       · rfl
       · rfl
       · exact RT
       generalize hw : World.setCells _ _ _ _ = w2
       obtain ⟨ht2, hr2, hb2, hl2⟩ := copied_table HT.out hw
       have T2 := Lib.hid ht2
       have R2 := Lib.hid hr2
       have B2 := Lib.hid hb2
       have L2 := Lib.hid hl2
       clear ht2 hr2 hb2 hl2 hw))
  refine (place_of (Z := Z) ⟨⟨pg, T2.out.row, T2.out.page⟩, hs, hg⟩ hi).mono ?_
  rintro e w3 ⟨rfl, hb3⟩
  have B3 := Lib.hid (B2.out.trans (hb3.mono B2.out.size))
  have T3 := Lib.hid (T2.out.below hb3)
  have R3 := Lib.hid (R2.out.below hb3)
  have L3 : Hid (w.heap.size < w3.heap.size) := Lib.hid (Nat.lt_of_lt_of_le L2.out hb3.size)
  clear hb3 hz RT RR HT T2 R2 B2 L2
  by_cases e : Z i = p
  · obtain ⟨o1, o2⟩ := (z_order (hg i) hp).1 e
    have HE := Lib.hid e
    clear e
    go_wp2
    go_ret
    refine ⟨w.heap.size, rfl, ⟨⟨pg, R3.out.row, ?_⟩, HS.out, HG.out⟩, B3.out⟩
    refine (R3.out.congr (Z' := upd Z i p) fun j _ => ?_).page
    unfold upd
    split
    · rename_i h5; rw [h5, HE.out]
    · rfl
  · obtain ⟨k, hk⟩ : ∃ k, k = i / 8 := ⟨_, rfl⟩
    obtain ⟨j, hj⟩ : ∃ j, j = i % 8 := ⟨_, rfl⟩
    have hk4 : k < 4 := by omega
    have hj8 : j < 8 := by omega
    have hik : 8 * k + j = i := by omega
    have hq : (i : Int) / 8 = (k : Int) := by omega
    have hm : (i : Int) % 8 = (j : Int) := by omega
    have hne := (z_order (hg i) hp).2 e
    have c1 : w3.cell? ⟨g, 1 + k, none⟩ = some (.pointer (pg k)) := by rw [RowIs.cell T3.out.row (by omega), tcell_page]
    have P := Lib.hid (T3.out.page k hk4)
    have HK := Lib.hid hik
    have GK := Lib.hid fun j => hg (8 * k + j)
    clear hk hj hik e
    rcases hne with o1 | ⟨o1, o2⟩
    all_goals
      go_wp2_with fail
      refine (pwith_any P.out GK.out hj8 hp).mono ?_
      rintro e w4 ⟨A, rfl, ha, hb4⟩
      have B4 := Lib.hid (B3.out.trans (hb4.mono B3.out.size))
      have R4 := Lib.hid (R3.out.below hb4)
      have HA := Lib.hid ha
      have d1 : w4.cell? ⟨w.heap.size, 1 + k, none⟩ = some (.pointer (pg k)) := by rw [RowIs.cell R4.out.row (by omega), tcell_page]
      have d2 : w4.frozen? ⟨w.heap.size, 1 + k, none⟩ = false := RowIs.free R4.out.row _
      clear ha hb4 c1
      go_wp2
      go_ret
      have hf := R4.out.put (p := p) HK.out hj8 HA.out hk4
      exact ⟨w.heap.size, rfl, ⟨⟨_, hf.row, hf.page⟩, HS.out, HG.out⟩, B4.out.setCell (Nat.le_refl _) _⟩
end Go.Proofs.Ytokklimfncljnaa
