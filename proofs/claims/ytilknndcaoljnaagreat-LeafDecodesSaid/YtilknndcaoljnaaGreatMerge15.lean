/- The document's Fit, of any state whose places are places or none, and any geometry. Decode, of any pages: the state that they are laid of, or nothing and Corrupt. -/
import Derived.Test.YtilknndcaoljnaaGreatMerge14
import Derived.Test.YtilknndcaoljnaaGreatMerge8
import Derived.Deep.RegionHeld3
import Derived.Test.YtilknndcaoljnaaGreatMerge13
import Derived.Test.YtilknndcaoljnaaGreatMerge11
import Derived.Test.YtilknndcaoljnaaGreatMerge10
import Derived.Test.YtilknndcaoljnaaGreatMerge12
namespace Go.Proofs.YtilknndcaoljnaaGreat
open Go.RowKit Go.Shelf

attribute [local go_sem] Oper.semAt_some

theorem spot_of {M : Nat → Nat} {Z : Nat → Nat → Pl} (hg : ∀ i j, Good (Z i j)) {i j : Nat} {p : Spot} (h : HasP M Z i j p) : SpotOk p := by
  rcases h with ⟨i', j', _, _, hz⟩ | ⟨j', _, hz⟩
  · exact hg i' j' _ hz
  · exact hg i j' _ hz

set_option maxRecDepth 20000 in
theorem refPlaces_any (K S M : Nat → Nat) (V : Nat → Value) (Z : Nat → Nat → Pl) (w : World) (hr : ∀ i, i < 8 → ReadsZ w (V i) (M i) (Z i)) (hg : ∀ i j, Good (Z i j)) (hM : ∀ i, i < 8 → M i ≤ 32) :
    Calls Tryz.prog 54 #[.agg (scells K S V).toArray] w fun e w' => ∃ (A : Option Addr) (n c : Nat) (E : List Spot), e = .returned (.slice A n c) ∧ n = E.length ∧ E.Nodup ∧ (∀ p, p ∈ E ↔ HasP M Z 8 0 p) ∧ Below w.heap.size w w' := by
  have Z1 := Lib.hid (st_new w K S V)
  have B1 : Hid (Below w.heap.size w (w.alloc (.cells (scells K S V).toArray 29))) := Lib.hid ((Below.refl _ w).alloc (Nat.le_refl _) _)
  obtain ⟨w1, hw1⟩ : ∃ w1, w1 = w.alloc (.cells (scells K S V).toArray 29) := ⟨_, rfl⟩
  rw [← hw1] at Z1 B1
  have HR := Lib.hid hr
  have HG := Lib.hid hg
  have HM := Lib.hid hM
  clear hr hg hM
  go_enter Tryz.func54, Tryz.ntmps54
  go_wp2_with (rw [← hw1]; clear hw1; refine wpList_load_mid rfl 29 (.tmp 1) rfl w.heap.size 0 rfl (scells K S V) _ (StIs.whole Z1.out) Tryz.underlying29 rfl (state_len _ _ _) ?_)
  with_reducible refine (all_any K S M V Z w1 (fun i hi => (HR.out i hi).below B1.out) HG.out HM.out).mono ?_
  rintro e w2 ⟨v, q, P, rfl, ho, hq, hn, hb2⟩
  have B2 := Lib.hid (B1.out.trans (hb2.mono B1.out.size))
  have HO := Lib.hid ho.reads
  obtain ⟨A, c, rfl⟩ := ho.shape
  have HN := Lib.hid hn
  have HQ := Lib.hid hq
  clear ho hn hq hb2 Z1 B1
  go_wp2_with fail
  with_reducible refine (refSort_any _ q P w2 HO.out (fun t ht => spot_of HG.out (HN.out.has ht)) (by have := HQ.out; omega)).mono ?_
  rintro e w3 ⟨u, Z', E, rfl, ho, hnd, hE, hb3⟩
  obtain ⟨A', c', rfl⟩ := ho.shape
  have B3 := Lib.hid (B2.out.trans (hb3.mono B2.out.size))
  have FIN : Hid (E.Nodup ∧ (∀ p, p ∈ E ↔ HasP M Z 8 0 p) ∧ Below w.heap.size w w3) := Lib.hid ⟨hnd, fun p => (hE p).trans ⟨fun ⟨t, ht, e⟩ => e ▸ HN.out.has ht, fun hp => HN.out.every hp⟩, B3.out⟩
  clear ho hnd hE hb3
  go_wp2
  go_ret
  exact ⟨A', _, c', E, rfl, rfl, FIN.out⟩

def FitW (s b : Int) (K S M : Nat → Nat) (Z : Nat → Nat → Pl) : Prop := Geo s b ∧ SoundA K S M ∧ ∀ p, HasP M Z 8 0 p → (p.1 : Int) < s ∧ (p.2 : Int) < b

set_option maxRecDepth 20000 in
theorem within_any (s b : Int) (K S M : Nat → Nat) (V : Nat → Value) (Z : Nat → Nat → Pl) (w : World) (hr : ∀ i, i < 8 → ReadsZ w (V i) (M i) (Z i)) (hg : ∀ i j, Good (Z i j)) :
    Calls Tryz.prog 53 #[.agg (scells K S V).toArray, .agg #[.int .i64 s, .int .i64 b]] w fun e w' => (∃ x, e = .returned (.int .i64 x) ∧ (x = 0 ↔ FitW s b K S M Z)) ∧ Below w.heap.size w w' := by
  have ZB := Lib.hid ((st_new w K S V).below ((Below.refl _ _).alloc (Nat.le_refl _) (.cells #[.int .i64 s, .int .i64 b] 31)))
  have B0 : Hid (Below w.heap.size w ((w.alloc (.cells (scells K S V).toArray 29)).alloc (.cells #[.int .i64 s, .int .i64 b] 31))) := Lib.hid (((Below.refl _ w).alloc (Nat.le_refl _) _).alloc (by simp) _)
  obtain ⟨w0, hw0⟩ : ∃ w0, w0 = (w.alloc (.cells (scells K S V).toArray 29)).alloc (.cells #[.int .i64 s, .int .i64 b] 31) := ⟨_, rfl⟩
  have e0 : w0.cell? ⟨w.heap.size + 1, 0, none⟩ = some (.int .i64 s) := by rw [hw0, ← World.size_alloc w (.cells (scells K S V).toArray 29), World.cell?_alloc_mark]; rfl
  have e1 : w0.cell? ⟨w.heap.size + 1, 1, none⟩ = some (.int .i64 b) := by rw [hw0, ← World.size_alloc w (.cells (scells K S V).toArray 29), World.cell?_alloc_mark]; rfl
  rw [← hw0] at ZB B0
  have HR := Lib.hid hr
  have HG := Lib.hid hg
  clear hr hg
  by_cases g : Geo s b
  · have G := Lib.hid g
    clear g
    go_enter Tryz.func53, Tryz.ntmps53
    go_wp2_with fail
    rw [← hw0]
    clear hw0
    with_reducible refine (may_ok s b _ G.out).mono ?_
    rintro e w1 ⟨rfl, hb1⟩
    have Z1 := Lib.hid (ZB.out.below hb1)
    have B1 := Lib.hid (B0.out.trans (hb1.mono B0.out.size))
    have E0 := Lib.hid (cell_later hb1 e0)
    have E1 := Lib.hid (cell_later hb1 e1)
    clear hb1 ZB B0 e0 e1
    go_wp2_with (refine wpList_load_mid rfl 29 (.tmp 2) rfl w.heap.size 0 rfl (scells K S V) _ (StIs.whole Z1.out) Tryz.underlying29 rfl (state_len _ _ _) ?_)
    with_reducible refine (refSound_any K S M V Z _ (fun i hi => (HR.out i hi).below B1.out) HG.out).mono ?_
    rintro e w2 ⟨⟨x, rfl, hx⟩, hb2⟩
    have Z2 := Lib.hid (Z1.out.below hb2)
    have B2 := Lib.hid (B1.out.trans (hb2.mono B1.out.size))
    have F0 := Lib.hid (cell_later hb2 E0.out)
    have F1 := Lib.hid (cell_later hb2 E1.out)
    have HX := Lib.hid hx
    clear hb2 Z1 B1 E0 E1 hx
    cases x with
    | false =>
      have NS : Hid (¬ FitW s b K S M Z) := Lib.hid fun h => absurd (HX.out.2 h.2.1) (by decide)
      go_wp2
      go_ret
      exact ⟨⟨_, rfl, ⟨fun h => absurd h (by decide), fun h => absurd h NS.out⟩⟩, B2.out⟩
    | true =>
      have SO : Hid (SoundA K S M) := Lib.hid (HX.out.1 rfl)
      have M32 : Hid (∀ i, i < 8 → M i ≤ 32) := Lib.hid fun i hi => by
        obtain ⟨h1, h2⟩ := SO.out i hi
        unfold EntryA at h1
        omega
      clear HX
      go_wp2_with (refine wpList_load_mid rfl 29 (.tmp 2) rfl w.heap.size 0 rfl (scells K S V) _ (StIs.whole Z2.out) Tryz.underlying29 rfl (state_len _ _ _) ?_)
      with_reducible refine (all_any K S M V Z _ (fun i hi => (HR.out i hi).below B2.out) HG.out M32.out).mono ?_
      rintro e w3 ⟨v, n, P, rfl, ho, hq, hn, hb3⟩
      obtain ⟨A, c, rfl⟩ := ho.shape
      have RO := Lib.hid ho.reads
      have B3 := Lib.hid (B2.out.trans (hb3.mono B2.out.size))
      have G0 := Lib.hid (cell_later hb3 F0.out)
      have G1 := Lib.hid (cell_later hb3 F1.out)
      have HN := Lib.hid hn
      clear hb3 Z2 B2 F0 F1 ho hn
      go_wp2
      go_loopw [6] (fun x wr => ∃ i : Nat, i ≤ n ∧ x = .int .i64 (i : Int) ∧ Below w3.heap.size w3 wr ∧ ∀ j, j < i → ((P j).1 : Int) < s ∧ ((P j).2 : Int) < b) (fun x _ => n - (intOf x).toNat)
      case atStart => exact ⟨0, by omega, rfl, Below.refl _ _, fun j hj => absurd hj (by omega)⟩
      case round =>
        obtain ⟨i, hi, rfl, hb, hpre⟩ := hrel
        have HB := Lib.hid hb
        have HPRE := Lib.hid hpre
        clear hb hpre
        by_cases hlt : i < n
        · obtain ⟨ad, rfl⟩ := RO.out.addr (by omega)
          obtain ⟨a, ea⟩ : ∃ a, a = (P i).1 := ⟨_, rfl⟩
          obtain ⟨d, ed⟩ : ∃ d, d = (P i).2 := ⟨_, rfl⟩
          have hok := spot_of HG.out (HN.out.has hlt)
          have hc : w3.cell? (ad.add i) = some (.complex .f64 (fl a) (fl d)) := by rw [ea, ed]; exact RO.out.at_ hlt
          have ha : a < 24 := by rw [ea]; exact hok.1
          have hd : d < 16 := by rw [ed]; exact hok.2
          have EA := Lib.hid ea
          have ED := Lib.hid ed
          clear ea ed hok
          have S0 : Below wr.heap.size wr wr.drew := (Below.refl _ _).drew
          go_wp2
          refine wp_region_noPanic ?_
          refine wp_region_held_drew (S := fun w' => Below w3.heap.size w3 w') (by kernel_rfl) (HB.out.drew) (fun hH => ?_)
          refine wpAnyH_take (i := 0) (v := .agg #[.int .i64 s, .int .i64 b]) rfl (by kernel_rfl) (by kernel_rfl) (by kernel_rfl) (fun _ _ _ h => h) (Or.inl ⟨by rfl, fun w' hS => by have s1 := cell_later hS G0.out; have s2 := cell_later hS G1.out; go_simp⟩) hH ?_
          simp only [Act.put, List.setIfInBounds_toArray]
          refine wpAnyH_take (i := 1) (v := .slice (some ad) n c) rfl (by kernel_rfl) (by kernel_rfl) (by kernel_rfl) (fun _ _ _ h => h) (Or.inl ⟨by rfl, fun w' hS => by go_simp⟩) hH ?_
          simp only [Act.put]
          refine wpAnyH_take (i := 2) (v := .int .i64 (i : Int)) rfl (by kernel_rfl) (by kernel_rfl) (by kernel_rfl) (fun _ _ _ h => h) (Or.inl ⟨by rfl, fun w' hS => by go_simp⟩) hH ?_
          simp only [Act.put]
          refine wpAnyH_take (i := 3) (v := .pointer (some (ad.add i))) rfl (by kernel_rfl) (by kernel_rfl) (by kernel_rfl) (fun _ _ _ h => h) (Or.inl ⟨by rfl, fun w' hS => by go_simp⟩) hH ?_
          simp only [Act.put]
          refine wpAnyH_take (i := 4) (v := .complex .f64 (fl a) (fl d)) rfl (by kernel_rfl) (by kernel_rfl) (by kernel_rfl) (fun _ _ _ h => h) (Or.inl ⟨by rfl, fun w' hS => by have s1 := cell_later hS hc; go_simp⟩) hH ?_
          simp only [Act.put]
          refine wpAnyH_ready (rs := [5]) (by kernel_rfl) (by simp) ?_
          refine AllReadyH.cons rfl (fun K_ hK_ => ?_) AllReadyH.nil
          go_simp
          refine (refAt_any s b a d _ G.out ha hd).mono ?_
          rintro e w5 ⟨⟨t, x, rfl, hx⟩, hb5⟩
          have B5 : Below w3.heap.size w3 w5 := hH.trans (hb5.mono hH.size)
          have B5w := Lib.hid B5
          have HX := Lib.hid hx
          clear hb5 hx S0
          refine hK_.out _ _ B5 (fun hH => ?_)
          clear hK_ K_ B5
          refine wpAnyH_take (i := 6) (v := .tuple #[.int .i64 t, .int .i64 x]) rfl (by kernel_rfl) (by kernel_rfl) (by kernel_rfl) (fun _ _ _ h => h) (Or.inl ⟨by rfl, fun w' hS => by go_simp⟩) hH ?_
          simp only [Act.put, List.setIfInBounds_toArray]
          refine wpAnyH_take (i := 7) (v := .int .i64 t) rfl (by kernel_rfl) (by kernel_rfl) (by kernel_rfl) (fun _ _ _ h => h) (Or.inl ⟨by rfl, fun w' hS => by go_simp⟩) hH ?_
          simp only [Act.put]
          refine wpAnyH_take (i := 8) (v := .int .i64 x) rfl (by kernel_rfl) (by kernel_rfl) (by kernel_rfl) (fun _ _ _ h => h) (Or.inl ⟨by rfl, fun w' hS => by go_simp⟩) hH ?_
          simp only [Act.put]
          refine wpAnyH_take (i := 9) (v := .int .i64 t) rfl (by kernel_rfl) (by kernel_rfl) (by kernel_rfl) (fun _ _ _ h => h) (Or.inl ⟨by rfl, fun w' hS => by go_simp⟩) hH ?_
          simp only [Act.put]
          refine wpAnyH_take (i := 10) (v := .int .i64 x) rfl (by kernel_rfl) (by kernel_rfl) (by kernel_rfl) (fun _ _ _ h => h) (Or.inl ⟨by rfl, fun w' hS => by go_simp⟩) hH ?_
          simp only [Act.put]
          refine wpAnyH_done (by kernel_rfl) ?_ _
          refine NoPanic.normal ?_
          clear hH
          by_cases hx0 : x = 0
          · subst hx0
            go_wp2
            go_roundw
            case rel => exact ⟨i + 1, by omega, by go_num, B5w.out, fun j hj => by
              by_cases hji : j < i
              · exact HPRE.out j hji
              · obtain rfl : j = i := by omega
                rw [← EA.out, ← ED.out]
                exact HX.out.1 (by first | trivial | rfl)⟩
            case measure => simp [intOf]; omega
          · have d1 : (x != 0) = true := by simp [hx0]
            have d2 : (x == 0) = false := by simp [hx0]
            have HX0 := Lib.hid hx0
            have FIN : Hid (¬ FitW s b K S M Z ∧ Below w.heap.size w w5) := Lib.hid ⟨fun h => by
              have := h.2.2 (P i) (HN.out.has hlt)
              rw [← EA.out, ← ED.out] at this
              exact HX0.out (HX.out.2 this), B3.out.trans (B5w.out.mono B3.out.size)⟩
            clear hx0
            go_wp2
            go_ret
            exact ⟨⟨_, rfl, ⟨fun h => absurd h (by decide), fun h => absurd h FIN.out.1⟩⟩, FIN.out.2⟩
        · obtain rfl : i = n := by omega
          have FIN : Hid (FitW s b K S M Z ∧ Below w.heap.size w wr) := Lib.hid ⟨⟨G.out, SO.out, fun p hp => by
            obtain ⟨j, hj, e⟩ := HN.out.every hp
            rw [← e]; exact HPRE.out j hj⟩, B3.out.trans (HB.out.mono B3.out.size)⟩
          go_wp2
          go_ret
          exact ⟨⟨_, rfl, ⟨fun _ => FIN.out.1, fun _ => rfl⟩⟩, FIN.out.2⟩
  · have G := Lib.hid g
    clear g
    go_enter Tryz.func53, Tryz.ntmps53
    go_wp2_with fail
    rw [← hw0]
    clear hw0
    with_reducible refine (may_no s b _ G.out).mono ?_
    rintro e w1 ⟨rfl, hb1⟩
    have B1 := Lib.hid (B0.out.trans (hb1.mono B0.out.size))
    clear hb1 e0 e1
    go_wp2
    go_ret
    exact ⟨⟨_, rfl, ⟨fun h => absurd h (by decide), fun h => absurd h.1 G.out⟩⟩, B1.out⟩

theorem fitA_iff {s b : Int} {K S M : Nat → Nat} {Z : Nat → Nat → Pl} {E : List Spot} (hn : E.Nodup) (hE : ∀ p, p ∈ E ↔ HasP M Z 8 0 p) : FitA s b K S M Z ↔ FitW s b K S M Z ∧ (E.length : Int) ≤ (s - 4) * b := by
  unfold FitA FitW
  rw [← holds_same]
  constructor
  · rintro ⟨h1, h2, h3, E', e1, e2, e3⟩
    refine ⟨⟨h1, h2, h3⟩, ?_⟩
    have := same_length hn e1 fun p => (hE p).trans (e2 p).symm
    omega
  · rintro ⟨⟨h1, h2, h3⟩, h4⟩
    exact ⟨h1, h2, h3, E, hn, hE, h4⟩

set_option maxRecDepth 20000 in
set_option maxHeartbeats 1000000 in
theorem refFit_any (s b : Int) (K S M : Nat → Nat) (V : Nat → Value) (Z : Nat → Nat → Pl) (w : World) (hr : ∀ i, i < 8 → ReadsZ w (V i) (M i) (Z i)) (hg : ∀ i j, Good (Z i j)) :
    Calls Tryz.prog 31 #[.agg (scells K S V).toArray, .agg #[.int .i64 s, .int .i64 b]] w fun e w' => (∃ x, e = .returned (.int .i64 x) ∧ (x = 0 ↔ FitA s b K S M Z)) ∧ Below w.heap.size w w' := by
  have ZB := Lib.hid ((st_new w K S V).below ((Below.refl _ _).alloc (Nat.le_refl _) (.cells #[.int .i64 s, .int .i64 b] 31)))
  have B0 : Hid (Below w.heap.size w ((w.alloc (.cells (scells K S V).toArray 29)).alloc (.cells #[.int .i64 s, .int .i64 b] 31))) := Lib.hid (((Below.refl _ w).alloc (Nat.le_refl _) _).alloc (by simp) _)
  obtain ⟨w0, hw0⟩ : ∃ w0, w0 = (w.alloc (.cells (scells K S V).toArray 29)).alloc (.cells #[.int .i64 s, .int .i64 b] 31) := ⟨_, rfl⟩
  have e0 : w0.cell? ⟨w.heap.size + 1, 0, none⟩ = some (.int .i64 s) := by rw [hw0, ← World.size_alloc w (.cells (scells K S V).toArray 29), World.cell?_alloc_mark]; rfl
  have e1 : w0.cell? ⟨w.heap.size + 1, 1, none⟩ = some (.int .i64 b) := by rw [hw0, ← World.size_alloc w (.cells (scells K S V).toArray 29), World.cell?_alloc_mark]; rfl
  rw [← hw0] at ZB B0
  have HR := Lib.hid hr
  have HG := Lib.hid hg
  clear hr hg
  go_enter Tryz.func31, Tryz.ntmps31
  go_wp2_with (rw [← hw0]; clear hw0; refine wpList_load_mid rfl 29 (.tmp 2) rfl w.heap.size 0 rfl (scells K S V) _ (StIs.whole ZB.out) Tryz.underlying29 rfl (state_len _ _ _) ?_)
  with_reducible refine (within_any s b K S M V Z _ (fun i hi => (HR.out i hi).below B0.out) HG.out).mono ?_
  rintro e w1 ⟨⟨x, rfl, hx⟩, hb1⟩
  have Z1 := Lib.hid (ZB.out.below hb1)
  have B1 := Lib.hid (B0.out.trans (hb1.mono B0.out.size))
  have E0 := Lib.hid (cell_later hb1 e0)
  have E1 := Lib.hid (cell_later hb1 e1)
  have HX := Lib.hid hx
  clear hb1 ZB B0 e0 e1 hx
  by_cases hx0 : x = 0
  · subst hx0
    have FW : Hid (FitW s b K S M Z) := Lib.hid (HX.out.1 rfl)
    have G : Hid (Geo s b) := Lib.hid FW.out.1
    have M32 : Hid (∀ i, i < 8 → M i ≤ 32) := Lib.hid fun i hi => by
      obtain ⟨h1, h2⟩ := FW.out.2.1 i hi
      unfold EntryA at h1
      omega
    have CP := Lib.hid (fun W => refCapacity_ok s b W G.out)
    obtain ⟨k, ek⟩ : ∃ k, k = (s - 4) * b := ⟨_, rfl⟩
    rw [← ek] at CP
    have EK := Lib.hid ek
    have ZR : Hid (∀ W, Below w1.heap.size w1 W → ∀ i, i < 8 → ReadsZ W (V i) (M i) (Z i)) := Lib.hid fun W hW i hi => (HR.out i hi).below (B1.out.trans (hW.mono B1.out.size))
    clear HX ek
    go_wp2
    refine wp_region_noPanic ?_
    refine wp_region_held_drew (S := fun w' => Below w1.heap.size w1 w') (by kernel_rfl) ((Below.refl _ _).drew) (fun hH => ?_)
    refine wpAnyH_take (i := 0) (v := .int .i64 0) rfl (by kernel_rfl) (by kernel_rfl) (by kernel_rfl) (fun _ _ _ h => h) (Or.inl ⟨by rfl, fun w' hS => by go_simp⟩) hH ?_
    simp only [Act.put, List.setIfInBounds_toArray]
    refine wpAnyH_take (i := 1) (v := .bool true) rfl (by kernel_rfl) (by kernel_rfl) (by kernel_rfl) (fun _ _ _ h => h) (Or.inl ⟨by rfl, fun w' hS => by go_simp⟩) hH ?_
    simp only [Act.put]
    refine wpAnyH_take (i := 2) (v := .bool true) rfl (by kernel_rfl) (by kernel_rfl) (by kernel_rfl) (fun _ _ _ h => h) (Or.inl ⟨by rfl, fun w' hS => by go_simp⟩) hH ?_
    simp only [Act.put]
    refine wpAnyH_take (i := 3) (v := .agg (scells K S V).toArray) rfl (by kernel_rfl) (by kernel_rfl) (by kernel_rfl) (fun _ _ _ h => h) (yieldsIf_load_mid (by rfl) 29 (.tmp 2) rfl w.heap.size 0 rfl (scells K S V) _ (fun w' hS => StIs.whole (Z1.out.below hS)) Tryz.underlying29 rfl (state_len _ _ _)) hH ?_
    simp only [Act.put]
    refine wpAnyH_take (i := 6) (v := .agg #[.int .i64 s, .int .i64 b]) rfl (by kernel_rfl) (by kernel_rfl) (by kernel_rfl) (fun _ _ _ h => h) (Or.inl ⟨by rfl, fun w' hS => by have s1 := cell_later hS E0.out; have s2 := cell_later hS E1.out; go_simp⟩) hH ?_
    simp only [Act.put]
    refine wpAnyH_ready (rs := [4]) (by kernel_rfl) (by simp) ?_
    refine AllReadyH.cons rfl (fun K_ hK_ => ?_) AllReadyH.nil
    · rw [if_pos (by rfl)]
      go_simp
      refine (refPlaces_any K S M V Z _ (ZR.out _ hH) HG.out M32.out).mono ?_
      rintro e w2 ⟨A, n, c, E, rfl, en, hnd, hE, hb2⟩
      have B2 : Below w1.heap.size w1 w2 := hH.trans (hb2.mono hH.size)
      have B2w := Lib.hid B2
      have IFF := Lib.hid (fitA_iff (s := s) (b := b) (K := K) (S := S) hnd hE)
      rw [← en, ← EK.out] at IFF
      clear hb2 hnd hE en
      refine hK_.out _ _ B2 (fun hH => ?_)
      clear hK_ K_ B2
      refine wpAnyH_take (i := 5) (v := .int .i64 (n : Int)) rfl (by kernel_rfl) (by kernel_rfl) (by kernel_rfl) (fun _ _ _ h => h) (Or.inl ⟨by rfl, fun w' hS => by go_simp⟩) hH ?_
      simp only [Act.put]
      refine wpAnyH_ready (rs := [7]) (by kernel_rfl) (by simp) ?_
      refine AllReadyH.cons rfl (fun K_ hK_ => ?_) AllReadyH.nil
      rw [if_pos (by rfl)]
      go_simp
      refine (CP.out _).mono ?_
      rintro e w3 ⟨rfl, hb3⟩
      have B3 : Below w1.heap.size w1 w3 := hH.trans (hb3.mono hH.size)
      have B3w := Lib.hid B3
      clear hb3
      refine hK_.out _ _ B3 (fun hH => ?_)
      clear hK_ K_ B3
      refine wpAnyH_take (i := 8) (v := .bool (decide (k < (n : Int)))) rfl (by kernel_rfl) (by kernel_rfl) (by kernel_rfl) (fun _ _ _ h => h) (Or.inl ⟨by rfl, fun w' hS => by go_simp⟩) hH ?_
      simp only [Act.put]
      refine wpAnyH_take (i := 9) (v := .bool (decide (k < (n : Int)))) rfl (by kernel_rfl) (by kernel_rfl) (by kernel_rfl) (fun _ _ _ h => h) (Or.inl ⟨by rfl, fun w' hS => by go_simp⟩) hH ?_
      simp only [Act.put]
      refine wpAnyH_done (by kernel_rfl) ?_ _
      refine NoPanic.normal ?_
      have FB := Lib.hid (B1.out.trans (B3w.out.mono B1.out.size))
      clear hH
      by_cases hlt : k < (n : Int)
      · have FN : Hid (¬ FitA s b K S M Z) := Lib.hid fun h => by have := (IFF.out.1 h).2; omega
        go_wp2
        go_ret
        exact ⟨⟨_, rfl, ⟨fun h => absurd h (by decide), fun h => absurd h FN.out⟩⟩, FB.out⟩
      · have FN : Hid (FitA s b K S M Z) := Lib.hid (IFF.out.2 ⟨FW.out, by omega⟩)
        go_wp2
        go_ret
        exact ⟨⟨_, rfl, ⟨fun _ => FN.out, fun _ => rfl⟩⟩, FB.out⟩
  · have d1 : (x == 0) = false := by simp [hx0]
    have FN : Hid (¬ FitA s b K S M Z) := Lib.hid fun h => hx0 (HX.out.2 ⟨h.1, h.2.1, h.2.2.1⟩)
    have X0 := Lib.hid hx0
    clear hx0 HX
    go_wp2
    go_quiet (fail)
    have FB : Hid (Below w.heap.size w (w1.drewN nq)) := Lib.hid (below_drewN B1.out nq)
    go_wp2
    go_ret
    exact ⟨⟨_, rfl, ⟨fun h => absurd h X0.out, fun h => absurd h FN.out⟩⟩, FB.out⟩
end Go.Proofs.YtilknndcaoljnaaGreat

namespace Go.Proofs.YtilknndcaoljnaaGreat
open Go.RowKit

/-- What is read of pages whose header is one: the text of those leaves that are sealed, and its state. -/
def ReadPS (base N : Nat) (L : Nat → Nat) (F : Nat → Nat → Nat) (b : Nat) (K S : Nat → Nat) (V : Nat → Value) (W : World) : Prop :=
  ∃ k nv n f, joinL ((List.range k).map (dpart fun i => F (i + 1))) = (n, f) ∧ Sound (N - 1) (fun i => L (i + 1)) (fun i => F (i + 1)) k ∧ n ≤ 660 ∧ (∀ j, j < n → f j < 256) ∧ Vols n f nv ∧ K = stK n f nv ∧ S = stS n f nv ∧
    ∀ i, i < 8 → OwnZ W base (V i) (stM n f nv i) (stZ b n f i)

theorem join_len (F : Nat → Nat → Nat) (k : Nat) : (joinL ((List.range k).map (dpart F))).1 ≤ 54 * k := by
  induction k with
  | zero => exact Nat.le_refl _
  | succ k ih =>
    rw [List.range_succ, List.map_append, List.map_cons, List.map_nil, joinL_snoc]
    show _ + dlen (F k) ≤ _
    have : dlen (F k) ≤ 54 := by unfold dlen; omega
    omega

theorem stM_most {n nv : Nat} {f : Nat → Nat} (hn : n ≤ 660) (i : Nat) : stM n f nv i ≤ 1000 := by
  unfold stM
  have h : vstep n f (vpos n f i) ≤ n - vpos n f i := by unfold vstep; exact Nat.min_le_right _ _
  split
  · unfold halves; split <;> omega
  · omega
theorem st_bytes {n nv : Nat} {f : Nat → Nat} (hv : Vols n f nv) (hf : ∀ j, j < n → f j < 256) (i : Nat) : stK n f nv i < 256 ∧ stS n f nv i < 256 := by
  unfold stK stS
  split
  · rename_i h
    have := hv.2.1 i h
    exact ⟨hf _ (by omega), hf _ (by omega)⟩
  · omega

theorem ReadPS.stays {base N b : Nat} {L : Nat → Nat} {F : Nat → Nat → Nat} {K S : Nat → Nat} {V : Nat → Value} {W W' : World} (h : ReadPS base N L F b K S V W) (hk : ∀ g o, base ≤ g → W.heap[g]? = some o → (∀ x, o ≠ .deferred x) → W'.heap[g]? = some o) : ReadPS base N L F b K S V W' := by
  obtain ⟨k, nv, n, f, e, h1, h2, h3, h4, h5, h6, h7⟩ := h
  refine ⟨k, nv, n, f, e, h1, h2, h3, h4, h5, h6, fun i hi => ownZ_cells (h7 i hi) fun g cs fr hg hc => ?_⟩
  rw [hk g _ ((h7 i hi).lt hg).1 hc (fun x e => nomatch e), hc]

theorem ReadPS.one {base N b : Nat} {L : Nat → Nat} {F : Nat → Nat → Nat} {K S : Nat → Nat} {V : Nat → Value} {W : World} (h : ReadPS base N L F b K S V W) : ∀ i, i < 8 → (V i).oneCell' = true := by
  obtain ⟨k, nv, n, f, e, h1, h2, h3, h4, h5, h6, h7⟩ := h
  exact fun i hi => (h7 i hi).one

theorem read_state (v : Value) (N : Nat) (L : Nat → Nat) (F : Nat → Nat → Nat) (w : World) (hv : ReadsP w v (N + 1) L F) (hh : Header (L 0) (F 0)) (hc : F 0 10 = N) {base : Nat} (hb : base ≤ w.heap.size + 2) (hb0 : w.heap.size < base) :
    Calls Tryz.prog 8 #[v] w fun e w' => ∃ K S V, e = .returned (.tuple #[.agg (scells K S V).toArray, .agg #[.int .i64 (F 0 8 : Int), .int .i64 (F 0 9 : Int)], .int .i64 (seqIn (F 0) : Int)]) ∧ ReadPS base (N + 1) L F (F 0 9) K S V w' ∧ Below w.heap.size w w' := by
  have p0 : ∀ i, i < N + 1 → L i = 64 → ∀ j, j < 64 → F i j < 256 := fun i hi hl j hj => by
    obtain ⟨A, c, e, _, _, _, q⟩ := hv
    obtain ⟨_, _, _, _, _, _, _, _, _, _, q5⟩ := q i hi
    exact q5.small j (by omega)
  have N11 : N ≤ 11 := by rw [← hc]; exact hh.2.2.2
  refine read_any v N L F w hv hh hc (ReadPS base (N + 1) L F (F 0 9)) (fun k hk W u hW hs hu => ?_) (fun K S V W W' h _ _ hk => h.stays fun g o hg ho hd => hk g o (by omega) ho hd)
  have hsm : ∀ j, j < (joinL ((List.range k).map (dpart fun i => F (i + 1)))).1 → (joinL ((List.range k).map (dpart fun i => F (i + 1)))).2 j < 256 := joinL_small _ fun x hx j hj => by
    obtain ⟨i, hi, rfl⟩ := List.mem_map.1 hx
    have hik : i < k := by simpa using hi
    have hlt : j < dlen (F (i + 1)) := hj
    exact p0 (i + 1) (by have := hk.1; omega) (hk.2.1 i hik).1 (6 + j) (by unfold dlen at hlt; omega)
  have hlen := join_len (fun i => F (i + 1)) k
  refine (stateOf_any u _ (F 0 9) _ W hu (p0 0 (by omega) hh.1.1 9 (by omega))).mono ?_
  rintro e w' ⟨nv, V, hvol, rfl, hz, hbw⟩
  exact ⟨_, _, V, rfl, ⟨k, nv, (joinL ((List.range k).map (dpart fun i => F (i + 1)))).1, (joinL ((List.range k).map (dpart fun i => F (i + 1)))).2, rfl, hk, by have := hk.1; omega, hsm, hvol, rfl, rfl, fun i hi => (hz i hi).base (by omega)⟩, fun i hi => (hz i hi).one, hbw⟩

theorem ReadPS.fit {base N b s : Nat} {L : Nat → Nat} {F : Nat → Nat → Nat} {K S : Nat → Nat} {V : Nat → Value} {W : World} (h : ReadPS base N L F b K S V W) : ∃ M Z,
    (∀ W', Below W.heap.size W W' → Calls Tryz.prog 23 #[.agg (scells K S V).toArray, .agg #[.int .i64 (s : Int), .int .i64 (b : Int)]] W' fun e w' => (∃ x, e = .returned (.int .i64 x) ∧ (x = 0 ↔ FitA s b K S M Z)) ∧ Below W'.heap.size W' w') ∧
    (FitA s b K S M Z → ∀ W', Below W.heap.size W W' → Calls Tryz.prog 24 #[.agg (scells K S V).toArray, .int .i64 (b : Int)] W' fun e w' => ∃ v, e = .returned v ∧ Reads w' v (tx b K S M Z 8).1 (tx b K S M Z 8).2 ∧ Below W'.heap.size W' w') ∧
    (∀ s' seq K' S' M' Z', Laid N L F s' b seq K' S' M' Z' → Alike K S M K' S' M' Z Z') ∧ (∀ i, i < 8 → OwnZ W base (V i) (M i) (Z i)) ∧ ∀ j, j < (tx b K S M Z 8).1 → (tx b K S M Z 8).2 j < 256 := by
  obtain ⟨k, nv, n, f, e, h1, h2, h3, h4, rfl, rfl, h7⟩ := h
  refine ⟨stM n f nv, stZ b n f, fun W' hW => ?_, fun hf W' hW => ?_, fun s' seq K' S' M' Z' hl => ?_, h7, tx_small (fun i hi => st_bytes h4 h3 i) (Nat.le_refl 8)⟩
  · exact fit_any s b _ _ _ V _ W' (fun i hi => (h7 i hi).reads.below hW) (fun i j => plOf_good _ _) fun i hi => stM_most h2 i
  · have ka := kept_alike (stK n f nv) (stS n f nv) (stM n f nv) (stZ b n f)
    have tc := tx_congr (b := b) (Nat.le_refl 8) ka
    have g := hf.1
    refine (text_any _ _ _ V (kept (stM n f nv) (stZ b n f)) b W' (by have := g.2.1; omega) (by have := g.2.2; omega) (fun i hi => ((h7 i hi).reads.below hW).congr (ka i hi).2.2.2) (kept_narrow hf) (fun i hi => stM_most h2 i) (fun i hi => st_bytes h4 h3 i)).mono ?_
    rintro e' w' ⟨v, rfl, hr, hb⟩
    exact ⟨v, rfl, (tc.1 ▸ hr).congr fun t ht => (tc.2 t ht).symm, hb⟩
  · obtain ⟨_, _, _, _, _, _, q2, q3, q4, _, j1, j2⟩ := hl.holds
    have hk : k = N - 1 := by
      by_cases c : k < N - 1
      · exact absurd (q4 (k + 1) (by omega)) (h1.2.2 c)
      · have := h1.1; omega
    subst hk
    rw [e] at j1 j2
    exact hl.state j1 (fun j hj => j2 j (by rw [← j1]; exact hj)) h4

def DecA (N : Nat) (L : Nat → Nat) (F : Nat → Nat → Nat) (w : World) (e : Ending) (w' : World) : Prop :=
  ((∃ s b seq K S M Z V, Laid N L F s b seq K S M Z ∧ e = .returned (.tuple #[.agg (scells K S V).toArray, .agg #[.int .i64 (s : Int), .int .i64 (b : Int)], .int .i64 (seq : Int), .int .i64 0]) ∧ ∀ i, i < 8 → OwnZ w' w.heap.size (V i) (M i) (Z i)) ∨
    ((∀ s b seq K S M Z, ¬ Laid N L F s b seq K S M Z) ∧ e = .returned (.tuple #[.agg (scells z0 z0 zV).toArray, .agg #[.int .i64 0, .int .i64 0], .int .i64 0, .int .i64 11]))) ∧ Below w.heap.size w w'

theorem decode_any (v : Value) (N : Nat) (L : Nat → Nat) (F : Nat → Nat → Nat) (w : World) (hv : ReadsP w v N L F) :
    Calls Tryz.prog 4 #[v] w (DecA N L F w) := by
  by_cases hbad : N = 0 ∨ ¬ Header (L 0) (F 0) ∨ F 0 10 + 1 ≠ N
  · refine (decode_bad v N L F 0 0 0 w hv (fun K S V _ => K = z0 ∧ S = z0 ∧ V = zV) (fun K S V W W' h _ => h) (fun K S V W h i _ => by rw [h.2.2]; rfl) (fun W hs hW => ?_) (fun K S V W h => ?_)).mono ?_
    · refine (read_bad v N L F W (hv.below hW) hbad).mono ?_
      rintro e w' ⟨rfl, hb⟩
      exact ⟨z0, z0, zV, rfl, ⟨rfl, rfl, rfl⟩, hb⟩
    · refine (encode_arg K S V 0 0 0 W (by omega)).mono ?_
      rintro e w' ⟨rfl, hb⟩
      exact ⟨.inl ⟨1, rfl, by omega⟩, hb⟩
    · rintro e w' ⟨rfl, hb⟩
      refine ⟨.inr ⟨fun s b seq K S M Z hl => ?_, rfl⟩, hb⟩
      obtain ⟨q1, q2, _, _, _, _, q3, _⟩ := hl.holds
      rcases hbad with h | h | h
      · omega
      · exact h q1
      · exact h q2
  · obtain ⟨M, rfl⟩ : ∃ M, N = M + 1 := ⟨N - 1, by omega⟩
    have hh : Header (L 0) (F 0) := Classical.byContradiction fun h => hbad (.inr (.inl h))
    have hc : F 0 10 = M := Classical.byContradiction fun h => hbad (.inr (.inr (by omega)))
    have p0 : ∀ j, j < 64 → F 0 j < 256 := fun j hj => by
      obtain ⟨A, c, e, _, _, _, q⟩ := hv
      obtain ⟨_, _, _, _, _, _, _, _, _, _, q5⟩ := q 0 (by omega)
      exact q5.small j (by have := hh.1.1; omega)
    have q1 := hh.2.2.1.1
    have q2 := hh.2.2.1.2
    have hread : ∀ W, W.heap.size = w.heap.size + 2 → Below w.heap.size w W → Calls Tryz.prog 8 #[v] W fun e w' => ∃ K S V, e = .returned (.tuple #[.agg (scells K S V).toArray, .agg #[.int .i64 (F 0 8 : Int), .int .i64 (F 0 9 : Int)], .int .i64 (seqIn (F 0) : Int)]) ∧ ReadPS (w.heap.size + 3) (M + 1) L F (F 0 9) K S V w' ∧ Below W.heap.size W w' :=
      fun W hs hW => read_state v M L F W (hv.below hW) hh hc (by omega) (by omega)
    have hps : ∀ K S V W W', ReadPS (w.heap.size + 3) (M + 1) L F (F 0 9) K S V W → StaysFrom (w.heap.size + 2) W W' → ReadPS (w.heap.size + 3) (M + 1) L F (F 0 9) K S V W' := fun K S V W W' h hs => h.stays fun g o hg ho hd => hs.2 g o (by omega) ho hd
    by_cases hl : ∃ s b seq K S M' Z, Laid (M + 1) L F s b seq K S M' Z
    · obtain ⟨s, b, seq, K0, S0, M0, Z0, hl⟩ := hl
      obtain ⟨_, _, rfl, rfl, rfl, _⟩ := hl.holds
      have t1 := tx_fits (c := F 0 9) hl.1 (Nat.le_refl 8)
      have hsm : ∀ i, i < (tx (F 0 9) K0 S0 M0 Z0 8).1 → (tx (F 0 9) K0 S0 M0 Z0 8).2 i < 256 := tx_small (fun i hi => by have := fit_small hl.1 hi; omega) (Nat.le_refl 8)
      refine (decode_good v (M + 1) L F (F 0 8) (F 0 9) (seqIn (F 0)) (tx (F 0 9) K0 S0 M0 Z0 8).1 (tx (F 0 9) K0 S0 M0 Z0 8).2 w (p0 8 (by omega)) (p0 9 (by omega)) q1 q2 (by omega) hsm hv _ hps (fun K S V W h => h.one) hread (fun K S V W h => ?_) (fun K S V W h => ?_) hl.2.2.2).mono ?_
      · obtain ⟨M', Z', hft, _, hal, _⟩ := h.fit (s := F 0 8)
        refine (hft W (Below.refl _ _)).mono ?_
        rintro e w' ⟨⟨x, rfl, hx⟩, hb⟩
        obtain rfl : x = 0 := hx.2 (fitA_congr hl.1 (hal _ _ _ _ _ _ hl).symm)
        exact ⟨rfl, hb⟩
      · obtain ⟨M', Z', _, htx, hal, _⟩ := h.fit (s := F 0 8)
        have al := hal _ _ _ _ _ _ hl
        have tc := tx_congr (b := F 0 9) (Nat.le_refl 8) al
        refine (htx (fitA_congr hl.1 al.symm) W (Below.refl _ _)).mono ?_
        rintro e w' ⟨u, rfl, hr, hb⟩
        exact ⟨u, rfl, (tc.1 ▸ hr).congr fun t ht => tc.2 t (by rw [tc.1]; exact ht), hb⟩
      · rintro e w' ⟨K, S, V, rfl, hp, hb⟩
        obtain ⟨M', Z', _, _, hal, hz, _⟩ := hp.fit (s := F 0 8)
        have al := hal _ _ _ _ _ _ hl
        exact ⟨.inl ⟨_, _, _, K, S, M', Z', V, hl.alike al.symm, rfl, fun i hi => (hz i hi).base (by omega)⟩, hb⟩
    · refine (decode_bad v (M + 1) L F (F 0 8) (F 0 9) (seqIn (F 0)) w hv _ hps (fun K S V W h => h.one) hread (fun K S V W h => ?_)).mono ?_
      · obtain ⟨M', Z', hft, htx, _, _, hsm⟩ := h.fit (s := F 0 8)
        by_cases hf : FitA (F 0 8) (F 0 9) K S M' Z'
        · have t1 := tx_fits (c := F 0 9) hf (Nat.le_refl 8)
          refine (encode_fits K S V (F 0 8) (F 0 9) (seqIn (F 0)) _ _ W (p0 8 (by omega)) (p0 9 (by omega)) q1 q2 (by omega) (fun W' hW => ?_) (htx hf)).mono ?_
          · refine (hft W' hW).mono ?_
            rintro e w' ⟨⟨x, rfl, hx⟩, hb⟩
            obtain rfl : x = 0 := hx.2 hf
            exact ⟨rfl, hb⟩
          · rintro e w' ⟨u, rfl, hp, hb⟩
            exact ⟨.inr ⟨u, _, _, _, rfl, hp.reads (fun i _ j _ => encF_lt hsm i j), fun hs => hl ⟨_, _, _, _, _, _, _, hf, q1, q2, hs⟩⟩, hb⟩
        · refine (encode_unfit K S V (F 0 8) (F 0 9) (seqIn (F 0)) W q1 q2 (fun W' hW => ?_)).mono ?_
          · refine (hft W' hW).mono ?_
            rintro e w' ⟨⟨x, rfl, hx⟩, hb⟩
            exact ⟨x, rfl, fun h0 => hf (hx.1 h0), hb⟩
          · rintro e w' ⟨x, rfl, hx, hb⟩
            exact ⟨.inl ⟨x, rfl, hx⟩, hb⟩
      · rintro e w' ⟨rfl, hb⟩
        exact ⟨.inr ⟨fun s b seq K S M' Z' h => hl ⟨s, b, seq, K, S, M', Z', h⟩, rfl⟩, hb⟩
end Go.Proofs.YtilknndcaoljnaaGreat

