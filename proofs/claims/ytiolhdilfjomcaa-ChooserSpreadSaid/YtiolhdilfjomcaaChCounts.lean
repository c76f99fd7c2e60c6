/- Live counts of a geometry: what areCounts, Gain and the document's May answer. -/
import Derived.Test.YtiolhdilfjomcaaChPlat
import Derived.Test.YtiolhdilfjomcaaChMath
import Derived.Test.YtiolhdilfjomcaaChInts
namespace Go.Proofs.Ytiolhdilfjomcaa
open Go.RowKit

/-- The first place that is not as it should be. -/
theorem first_not (P : Nat → Prop) (n : Nat) (h : ¬ ∀ i, i < n → P i) : ∃ m, m < n ∧ (∀ i, i < m → P i) ∧ ¬ P m := by
  induction n with
  | zero => exact absurd (fun i hi => absurd hi (by omega)) h
  | succ n ih =>
    by_cases hn : ∀ i, i < n → P i
    · refine ⟨n, by omega, hn, fun hp => h fun i hi => ?_⟩
      by_cases he : i = n
      · rw [he]; exact hp
      · exact hn i (by omega)
    · obtain ⟨m, h1, h2, h3⟩ := ih hn
      exact ⟨m, by omega, h2, h3⟩

/-- May these be the live counts of a geometry? -/
structure Live (s b : Int) (n : Nat) (L : Nat → Int) : Prop where
  geo : Geo s b
  len : (n : Int) = s
  num : ∀ i, i < n → 0 ≤ L i ∧ L i ≤ b

theorem live_not {s b : Int} {n : Nat} {L : Nat → Int} (h : ¬ Live s b n L) :
    ¬ Geo s b ∨ (Geo s b ∧ ¬ (n : Int) = s) ∨ (Geo s b ∧ (n : Int) = s ∧ ∃ j, j < n ∧ (∀ i, i < j → 0 ≤ L i ∧ L i ≤ b) ∧ ¬ (0 ≤ L j ∧ L j ≤ b)) := by
  by_cases hg : Geo s b
  · by_cases hl : (n : Int) = s
    · by_cases hn : ∀ i, i < n → 0 ≤ L i ∧ L i ≤ b
      · exact absurd ⟨hg, hl, hn⟩ h
      · exact .inr (.inr ⟨hg, hl, first_not _ n hn⟩)
    · exact .inr (.inl ⟨hg, hl⟩)
  · exact .inl hg

theorem counts_geo (s b : Int) (v : Value) (w : World) (g : ¬ Geo s b) :
    Calls Try.prog 20 #[.agg #[.int .i64 s, .int .i64 b], v] w (Fresh (.bool false) w) := by
  have G := Lib.hid g
  clear g
  go_enter Try.func20, Try.ntmps20
  go_wp2_with fail
  refine (check_bad s b _ G.out).mono ?_
  rintro e w1 ⟨rfl, hb⟩
  have HB := Lib.hid (geo_below hb)
  clear hb
  go_wp2
  go_ret
  exact ⟨rfl, HB.out⟩

theorem counts_len (s b : Int) (A : Option Addr) (n c : Nat) (w : World) (g : Geo s b) (hl : ¬ (n : Int) = s) :
    Calls Try.prog 20 #[.agg #[.int .i64 s, .int .i64 b], .slice A n c] w (Fresh (.bool false) w) := by
  have G := Lib.hid g
  clear g
  have hq : ((n : Int) != s) = true := by simp [hl]
  go_enter Try.func20, Try.ntmps20
  go_wp2_with fail
  refine (check_ok s b _ G.out).mono ?_
  rintro e w1 ⟨rfl, hb⟩
  have c0 := geo_s hb
  have HB := Lib.hid (geo_below hb)
  clear hb
  go_wp2
  go_ret
  exact ⟨rfl, HB.out⟩

theorem counts_loop (b : Int) (A : Option Addr) (n c j : Nat) (L : Nat → Int) (w : World) (g : Geo (n : Int) b) (H : Hid (IntsAt w A n L)) (hj : j ≤ n)
    (hlow : ∀ i, i < j → 0 ≤ L i ∧ L i ≤ b) (hbad : j < n → ¬ (0 ≤ L j ∧ L j ≤ b)) :
    Calls Try.prog 20 #[.agg #[.int .i64 (n : Int), .int .i64 b], .slice A n c] w (Fresh (.bool (decide (j = n))) w) := by
  have G := Lib.hid g
  have HL := Lib.hid hlow
  have HD := Lib.hid hbad
  have hn : n ≤ 24 := by have := g.1.2; omega
  clear g hlow hbad
  go_enter Try.func20, Try.ntmps20
  go_wp2_with fail
  refine (check_ok _ b _ G.out).mono ?_
  rintro e w1 ⟨rfl, hb⟩
  have c0 := geo_s hb
  have c1 := geo_b hb
  have HB := Lib.hid (geo_below hb)
  have H1 : Hid (IntsAt w1 A n L) := Lib.hid (H.out.below HB.out)
  clear hb H
  go_wp2
  clear c0
  go_loop [19] (fun x => ∃ i : Nat, i ≤ j ∧ x = .int .i64 (i : Int)) (fun x => n - (intOf x).toNat)
  case atStart => exact ⟨0, by omega, rfl⟩
  case round =>
    obtain ⟨i, hi, rfl⟩ := hrel
    by_cases hin : i < n
    · obtain ⟨ad, rfl⟩ := H1.out.addr (by omega)
      have hc := H1.out.at_ hin
      obtain ⟨z, ez⟩ : ∃ z, z = L i := ⟨_, rfl⟩
      rw [← ez] at hc
      by_cases hij : i < j
      · obtain ⟨z0, z1⟩ := HL.out i hij
        rw [← ez] at z0 z1
        clear ez
        go_wp2
        clear hc
        go_round
        case rel => exact ⟨i + 1, by omega, by go_num⟩
        case measure => simp [intOf]; omega
      · obtain rfl : i = j := by omega
        have hz := HD.out hin
        rw [← ez] at hz
        clear ez
        by_cases z0 : z < 0
        · clear hz
          go_wp2
          go_ret
          exact ⟨by rw [decide_eq_false (by omega)]; rfl, HB.out⟩
        · have z1 : b < z := by omega
          clear hz
          go_wp2
          go_ret
          exact ⟨by rw [decide_eq_false (by omega)]; rfl, HB.out⟩
    · obtain rfl : i = n := by omega
      obtain rfl : i = j := by omega
      go_wp2
      go_ret
      exact ⟨by first | rfl | (rw [decide_eq_true rfl]; rfl), HB.out⟩

theorem counts_ok {s b : Int} {A : Option Addr} {n : Nat} {L : Nat → Int} (c : Nat) (w : World) (h : Live s b n L) (H : IntsAt w A n L) :
    Calls Try.prog 20 #[.agg #[.int .i64 s, .int .i64 b], .slice A n c] w (Fresh (.bool true) w) := by
  obtain ⟨g, rfl, hn⟩ := h
  have := counts_loop b A n c n L w g (Lib.hid H) (Nat.le_refl _) hn (fun h => absurd h (by omega))
  rwa [decide_eq_true rfl] at this
theorem counts_bad {s b : Int} {A : Option Addr} {n : Nat} {L : Nat → Int} (c : Nat) (w : World) (h : ¬ Live s b n L) (H : IntsAt w A n L) :
    Calls Try.prog 20 #[.agg #[.int .i64 s, .int .i64 b], .slice A n c] w (Fresh (.bool false) w) := by
  rcases live_not h with hg | ⟨hg, hl⟩ | ⟨hg, rfl, j, h1, h2, h3⟩
  · exact counts_geo s b _ w hg
  · exact counts_len s b A n c w hg hl
  · have := counts_loop b A n c j L w hg (Lib.hid H) (by omega) h2 (fun _ => h3)
    rwa [decide_eq_false (by omega)] at this

/-! ### Gain -/
theorem boxed (w : World) (o : Obj) : Below w.heap.size w (w.alloc o) := (Below.refl _ _).alloc (Nat.le_refl _) o

theorem gain_ok {s b : Int} {A : Option Addr} {n : Nat} {L : Nat → Int} (c k : Nat) (w : World) (h : Live s b n L) (H : IntsAt w A n L) (hk : k < n) :
    Calls Try.prog 11 #[.agg #[.int .i64 s, .int .i64 b], .slice A n c, .int .i64 (k : Int)] w (Fresh (.tuple #[.int .i64 (b - L k), .int .i64 0]) w) := by
  obtain rfl := h.len
  have HH := Lib.hid h
  have H0 := Lib.hid H
  obtain ⟨z, ez⟩ : ∃ z, z = L k := ⟨_, rfl⟩
  obtain ⟨z0, z1⟩ := h.num k hk
  obtain ⟨g1, g2⟩ := h.geo.2
  rw [← ez] at z0 z1
  rw [← ez]
  have EZ := Lib.hid ez
  clear h H ez
  go_enter Try.func11, Try.ntmps11
  go_wp2_with fail
  refine (counts_ok c _ HH.out (H0.out.below (boxed _ _))).mono ?_
  rintro e w1 ⟨rfl, hb⟩
  have c0 := geo_s hb
  have c1 := geo_b hb
  have HB := Lib.hid (geo_below hb)
  obtain ⟨ad, rfl⟩ := H0.out.addr (by omega)
  have hc := (H0.out.below HB.out).at_ hk
  rw [← EZ.out] at hc
  clear hb
  go_wp2
  go_quiet (fail)
  go_wp2
  go_ret2
  exact ⟨rfl, below_drewN HB.out _⟩

theorem gain_bad {s b : Int} {A : Option Addr} {n : Nat} {L : Nat → Int} (c : Nat) (k : Value) (w : World) (h : ¬ Live s b n L) (H : IntsAt w A n L) :
    Calls Try.prog 11 #[.agg #[.int .i64 s, .int .i64 b], .slice A n c, k] w (Fresh (.tuple #[.int .i64 0, .int .i64 1]) w) := by
  have HH := Lib.hid h
  have H0 := Lib.hid H
  clear h H
  go_enter Try.func11, Try.ntmps11
  go_wp2_with fail
  refine (counts_bad c _ HH.out (H0.out.below (boxed _ _))).mono ?_
  rintro e w1 ⟨rfl, hb⟩
  have HB := Lib.hid (geo_below hb)
  clear hb
  go_wp2
  go_ret2
  exact ⟨rfl, HB.out⟩

theorem gain_out {s b : Int} {A : Option Addr} {n : Nat} {L : Nat → Int} (c : Nat) (k : Int) (w : World) (h : Live s b n L) (H : IntsAt w A n L) (hk : k < 0 ∨ (n : Int) ≤ k) :
    Calls Try.prog 11 #[.agg #[.int .i64 s, .int .i64 b], .slice A n c, .int .i64 k] w (Fresh (.tuple #[.int .i64 0, .int .i64 1]) w) := by
  obtain rfl := h.len
  have HH := Lib.hid h
  have H0 := Lib.hid H
  clear h H
  by_cases h0 : k < 0
  · clear hk
    go_enter Try.func11, Try.ntmps11
    go_wp2_with fail
    refine (counts_ok c _ HH.out (H0.out.below (boxed _ _))).mono ?_
    rintro e w1 ⟨rfl, hb⟩
    have HB := Lib.hid (geo_below hb)
    clear hb
    go_wp2
    go_ret2
    exact ⟨rfl, HB.out⟩
  · have h1 : (n : Int) ≤ k := by omega
    clear hk
    go_enter Try.func11, Try.ntmps11
    go_wp2_with fail
    refine (counts_ok c _ HH.out (H0.out.below (boxed _ _))).mono ?_
    rintro e w1 ⟨rfl, hb⟩
    have c0 := geo_s hb
    have HB := Lib.hid (geo_below hb)
    clear hb
    go_wp2
    go_ret2
    exact ⟨rfl, HB.out⟩

/-! ### the document's May -/
theorem refCounts_geo (s b : Int) (v : Value) (w : World) (g : ¬ Geo s b) :
    Calls Try.prog 12 #[.agg #[.int .i64 s, .int .i64 b], v] w (Fresh (.bool false) w) := by
  have G := Lib.hid g
  clear g
  go_enter Try.func12, Try.ntmps12
  go_wp2_with fail
  refine (refMay_no s b _ G.out).mono ?_
  rintro e w1 ⟨rfl, hb⟩
  have HB := Lib.hid (geo_below hb)
  clear hb
  go_wp2
  go_ret
  exact ⟨rfl, HB.out⟩

theorem refCounts_len (s b : Int) (A : Option Addr) (n c : Nat) (w : World) (g : Geo s b) (hl : ¬ (n : Int) = s) :
    Calls Try.prog 12 #[.agg #[.int .i64 s, .int .i64 b], .slice A n c] w (Fresh (.bool false) w) := by
  have G := Lib.hid g
  clear g
  have hq : ((n : Int) != s) = true := by simp [hl]
  go_enter Try.func12, Try.ntmps12
  go_wp2_with fail
  refine (refMay_ok s b _ G.out).mono ?_
  rintro e w1 ⟨rfl, hb⟩
  have c0 := geo_s hb
  have HB := Lib.hid (geo_below hb)
  clear hb
  go_wp2
  go_ret
  exact ⟨rfl, HB.out⟩

theorem refCounts_loop (b : Int) (A : Option Addr) (n c j : Nat) (L : Nat → Int) (w : World) (g : Geo (n : Int) b) (H : Hid (IntsAt w A n L)) (hj : j ≤ n)
    (hlow : ∀ i, i < j → 0 ≤ L i ∧ L i ≤ b) (hbad : j < n → ¬ (0 ≤ L j ∧ L j ≤ b)) :
    Calls Try.prog 12 #[.agg #[.int .i64 (n : Int), .int .i64 b], .slice A n c] w (Fresh (.bool (decide (j = n))) w) := by
  have G := Lib.hid g
  have HL := Lib.hid hlow
  have HD := Lib.hid hbad
  have hn : n ≤ 24 := by have := g.1.2; omega
  clear g hlow hbad
  go_enter Try.func12, Try.ntmps12
  go_wp2_with fail
  refine (refMay_ok _ b _ G.out).mono ?_
  rintro e w1 ⟨rfl, hb⟩
  have c0 := geo_s hb
  have c1 := geo_b hb
  have HB := Lib.hid (geo_below hb)
  have H1 : Hid (IntsAt w1 A n L) := Lib.hid (H.out.below HB.out)
  have C1 := Lib.hid c1
  clear hb H c1
  go_wp2
  clear c0
  go_loopw [5] (fun x wr => ∃ i m : Nat, i ≤ j ∧ x = .int .i64 (i : Int) ∧ w1.drewN m = wr) (fun x _ => n - (intOf x).toNat)
  case atStart => exact ⟨0, 0, by omega, rfl, rfl⟩
  case round =>
    obtain ⟨i, m, hi, rfl, hw⟩ := hrel
    by_cases hin : i < n
    · obtain ⟨ad, rfl⟩ := H1.out.addr (by omega)
      have hc : wr.cell? (ad.add i) = some (.int .i64 (L i)) := by rw [← hw]; exact H1.out.at_ hin
      have c1 : wr.cell? ⟨w.heap.size, 1, none⟩ = some (.int .i64 b) := by rw [← hw]; exact C1.out
      have HW := Lib.hid hw
      obtain ⟨z, ez⟩ : ∃ z, z = L i := ⟨_, rfl⟩
      rw [← ez] at hc
      clear hw
      by_cases hij : i < j
      · obtain ⟨z0, z1⟩ := HL.out i hij
        rw [← ez] at z0 z1
        have d0 : decide (z < 0) = false := decide_eq_false (by omega)
        have d1 : decide (b < z) = false := decide_eq_false (by omega)
        clear ez z0 z1
        go_wp2
        go_quiet (fail)
        go_wp2
        clear hc c1
        go_roundw
        case rel => exact ⟨i + 1, m + _, by omega, by go_num, by rw [← HW.out, World.drewN_drewN]⟩
        case measure => simp [intOf]; omega
      · obtain rfl : i = j := by omega
        have hz := HD.out hin
        rw [← ez] at hz
        clear ez
        by_cases z0 : z < 0
        · have d0 : decide (z < 0) = true := decide_eq_true z0
          clear hz z0
          go_wp2
          go_quiet (fail)
          go_wp2
          go_ret
          exact ⟨by rw [decide_eq_false (by omega)]; rfl, below_drewN (by rw [← HW.out]; exact below_drewN HB.out _) _⟩
        · have d0 : decide (z < 0) = false := decide_eq_false z0
          have d1 : decide (b < z) = true := decide_eq_true (by omega)
          clear hz z0
          go_wp2
          go_quiet (fail)
          go_wp2
          go_ret
          exact ⟨by rw [decide_eq_false (by omega)]; rfl, below_drewN (by rw [← HW.out]; exact below_drewN HB.out _) _⟩
    · obtain rfl : i = n := by omega
      obtain rfl : i = j := by omega
      have HW := Lib.hid hw
      clear hw
      go_wp2
      go_ret
      exact ⟨by first | rfl | (rw [decide_eq_true rfl]; rfl), by rw [← HW.out]; exact below_drewN HB.out _⟩

theorem refCounts_ok {s b : Int} {A : Option Addr} {n : Nat} {L : Nat → Int} (c : Nat) (w : World) (h : Live s b n L) (H : IntsAt w A n L) :
    Calls Try.prog 12 #[.agg #[.int .i64 s, .int .i64 b], .slice A n c] w (Fresh (.bool true) w) := by
  obtain ⟨g, rfl, hn⟩ := h
  have := refCounts_loop b A n c n L w g (Lib.hid H) (Nat.le_refl _) hn (fun h => absurd h (by omega))
  rwa [decide_eq_true rfl] at this
theorem refCounts_bad {s b : Int} {A : Option Addr} {n : Nat} {L : Nat → Int} (c : Nat) (w : World) (h : ¬ Live s b n L) (H : IntsAt w A n L) :
    Calls Try.prog 12 #[.agg #[.int .i64 s, .int .i64 b], .slice A n c] w (Fresh (.bool false) w) := by
  rcases live_not h with hg | ⟨hg, hl⟩ | ⟨hg, rfl, j, h1, h2, h3⟩
  · exact refCounts_geo s b _ w hg
  · exact refCounts_len s b A n c w hg hl
  · have := refCounts_loop b A n c j L w hg (Lib.hid H) (by omega) h2 (fun _ => h3)
    rwa [decide_eq_false (by omega)] at this
end Go.Proofs.Ytiolhdilfjomcaa
