/- What the document's candidate and Pick answer: a contract for each of its three answers. -/
import Derived.Test.YtiolhdilfjomcaaChPick
namespace Go.Proofs.Ytiolhdilfjomcaa
open Go.RowKit

theorem cell_drew {w w' : World} {k : Nat} {a : Addr} {v : Value} (h : w.cell? a = some v) (he : w.drewN k = w') : w'.cell? a = some v := by rw [← he]; exact h

theorem refCand_any (s b : Int) (A D : Option Addr) (n q c f i : Nat) (L K : Nat → Int) (w : World) (H : Hid (IntsAt w A n L)) (M : Hid (IntsAt w D q K)) (hi : i < n) (hn : n ≤ 24) (hq : q ≤ 9223372036854775807) :
    Calls Try.prog 17 #[.agg #[.int .i64 s, .int .i64 b], .slice A n c, .slice D q f, .int .i64 (i : Int)] w (Fresh (.bool (cand L K b q i)) w) := by
  obtain ⟨w1, hw1⟩ : ∃ w1, w1 = w.alloc (.cells #[.int .i64 s, .int .i64 b] 23) := ⟨_, rfl⟩
  have hb : Below w.heap.size w w1 := by rw [hw1]; exact boxed _ _
  have C1 : Hid (w1.cell? ⟨w.heap.size, 1, none⟩ = some (.int .i64 b)) := Lib.hid (by rw [hw1]; exact geo_b (Below.refl _ _))
  have HB := Lib.hid hb
  have H1 : Hid (IntsAt w1 A n L) := Lib.hid (H.out.below hb)
  have M1 : Hid (IntsAt w1 D q K) := Lib.hid (M.out.below hb)
  clear H M hb
  go_enter Try.func17, Try.ntmps17
  go_wp2
  rw [← hw1]
  clear hw1
  go_loop [9] (fun x => ∃ k : Nat, k ≤ q ∧ x = .int .i64 (k : Int) ∧ isIn K i k = false) (fun x => q - (intOf x).toNat)
  case atStart => exact ⟨0, by omega, rfl, rfl⟩
  case round =>
    obtain ⟨k, hk, rfl, hno⟩ := hrel
    have HN := Lib.hid hno
    clear hno
    by_cases hkq : k < q
    · obtain ⟨bd, rfl⟩ := M1.out.addr (by omega)
      have hd := M1.out.at_ hkq
      obtain ⟨y, ey⟩ : ∃ y, y = K k := ⟨_, rfl⟩
      rw [← ey] at hd
      by_cases he : y = (i : Int)
      · have hp : Hid (cand L K b q i = false) := Lib.hid (cand_in (isIn_hit hkq (by rw [← ey]; exact he)))
        clear ey
        subst he
        go_wp2
        go_ret
        exact ⟨by rw [hp.out]; rfl, HB.out⟩
      · have hz : (y == (i : Int)) = false := by simp; omega
        have HK : Hid (isIn K i (k + 1) = false) := Lib.hid (isIn_up HN.out (by rw [← ey]; exact he))
        clear ey he
        go_wp2
        clear hd hz
        go_round
        case rel => exact ⟨k + 1, by omega, by go_num, HK.out⟩
        case measure => simp [intOf]; omega
    · obtain rfl : k = q := by omega
      obtain ⟨ad, rfl⟩ := H1.out.addr (by omega)
      have hc := H1.out.at_ hi
      have c1 := C1.out
      obtain ⟨z, ez⟩ : ∃ z, z = L i := ⟨_, rfl⟩
      rw [← ez] at hc
      by_cases z0 : 0 < z
      · have d0 : decide (0 < z) = true := decide_eq_true z0
        by_cases z1 : z < b
        · have d1 : decide (z < b) = true := decide_eq_true z1
          have hp : Hid (cand L K b k i = true) := Lib.hid (cand_yes HN.out (by rw [← ez]; exact z0) (by rw [← ez]; exact z1))
          clear ez z0 z1
          go_wp2
          go_quiet (fail)
          go_wp2
          go_ret
          exact ⟨by rw [hp.out]; rfl, below_drewN HB.out _⟩
        · have d1 : decide (z < b) = false := decide_eq_false z1
          have hp : Hid (cand L K b k i = false) := Lib.hid (cand_full (by rw [← ez]; exact z1))
          clear ez z0 z1
          go_wp2
          go_quiet (fail)
          go_wp2
          go_ret
          exact ⟨by rw [hp.out]; rfl, below_drewN HB.out _⟩
      · have d0 : decide (0 < z) = false := decide_eq_false z0
        have hp : Hid (cand L K b k i = false) := Lib.hid (cand_low (by rw [← ez]; exact z0))
        clear ez z0
        go_wp2
        go_quiet (fail)
        go_wp2
        go_ret
        exact ⟨by rw [hp.out]; rfl, below_drewN HB.out _⟩

theorem refPick_live {s b : Int} {A : Option Addr} {n : Nat} {L : Nat → Int} (c : Nat) (v u : Value) (w : World) (h : ¬ Live s b n L) (H : IntsAt w A n L) :
    Calls Try.prog 9 #[.agg #[.int .i64 s, .int .i64 b], .slice A n c, v, u] w (Fresh (.tuple #[.int .i64 0, .int .i64 1]) w) := by
  have HH := Lib.hid h
  have H0 := Lib.hid H
  clear h H
  go_enter Try.func9, Try.ntmps9
  go_wp2_with fail
  refine (refCounts_bad c _ HH.out (H0.out.below (boxed _ _))).mono ?_
  rintro e w1 ⟨rfl, hb⟩
  have HB := Lib.hid (geo_below hb)
  clear hb
  go_wp2
  go_ret2
  exact ⟨rfl, HB.out⟩

theorem refPick_len {s b : Int} {A B : Option Addr} {n m : Nat} {L : Nat → Int} (c d : Nat) (u : Value) (w : World) (h : Live s b n L) (H : IntsAt w A n L) (hl : ¬ m = n) :
    Calls Try.prog 9 #[.agg #[.int .i64 s, .int .i64 b], .slice A n c, .slice B m d, u] w (Fresh (.tuple #[.int .i64 0, .int .i64 1]) w) := by
  obtain rfl := h.len
  have hq : ((m : Int) != (n : Int)) = true := by simp; omega
  have HH := Lib.hid h
  have H0 := Lib.hid H
  clear h H hl
  go_enter Try.func9, Try.ntmps9
  go_wp2_with fail
  refine (refCounts_ok c _ HH.out (H0.out.below (boxed _ _))).mono ?_
  rintro e w1 ⟨rfl, hb⟩
  have c0 := geo_s hb
  have HB := Lib.hid (geo_below hb)
  clear hb
  go_wp2
  go_ret2
  exact ⟨rfl, HB.out⟩

theorem refPick_age {s b : Int} {A B : Option Addr} {n j : Nat} {L G : Nat → Int} (c d : Nat) (u : Value) (w : World) (h : Live s b n L) (H : IntsAt w A n L) (J : IntsAt w B n G) (hj : j < n)
    (hlow : ∀ i, i < j → 0 ≤ G i ∧ G i ≤ 65535) (hbad : ¬ (0 ≤ G j ∧ G j ≤ 65535)) :
    Calls Try.prog 9 #[.agg #[.int .i64 s, .int .i64 b], .slice A n c, .slice B n d, u] w (Fresh (.tuple #[.int .i64 0, .int .i64 1]) w) := by
  obtain rfl := h.len
  have hn : n ≤ 24 := by have := h.geo.1.2; omega
  have HH := Lib.hid h
  have H0 := Lib.hid H
  have J0 := Lib.hid J
  have HL := Lib.hid hlow
  have HD := Lib.hid hbad
  clear h H J hlow hbad
  go_enter Try.func9, Try.ntmps9
  go_wp2_with fail
  refine (refCounts_ok c _ HH.out (H0.out.below (boxed _ _))).mono ?_
  rintro e w1 ⟨rfl, hb⟩
  have c0 := geo_s hb
  have HB := Lib.hid (geo_below hb)
  have J1 : Hid (IntsAt w1 B n G) := Lib.hid (J0.out.below HB.out)
  clear hb
  go_wp2
  clear c0
  go_loop [10] (fun x => ∃ i : Nat, i ≤ j ∧ x = .int .i64 (i : Int)) (fun x => n - (intOf x).toNat)
  case atStart => exact ⟨0, by omega, rfl⟩
  case round =>
    obtain ⟨i, hi, rfl⟩ := hrel
    have hin : i < n := by omega
    obtain ⟨bd, rfl⟩ := J1.out.addr (by omega)
    have hd := J1.out.at_ hin
    obtain ⟨z, ez⟩ : ∃ z, z = G i := ⟨_, rfl⟩
    rw [← ez] at hd
    by_cases hij : i < j
    · obtain ⟨z0, z1⟩ := HL.out i hij
      rw [← ez] at z0 z1
      clear ez
      go_wp2
      clear hd
      go_round
      case rel => exact ⟨i + 1, by omega, by go_num⟩
      case measure => simp [intOf]; omega
    · obtain rfl : i = j := by omega
      have hz := HD.out
      rw [← ez] at hz
      clear ez
      by_cases z0 : z < 0
      · clear hz
        go_wp2
        go_ret2
        exact ⟨rfl, HB.out⟩
      · have z1 : 65535 < z := by omega
        clear hz
        go_wp2
        go_ret2
        exact ⟨rfl, HB.out⟩

/-- How the document's loop stands, i segments behind it. -/
def Sofar (p : Nat → Bool) (X Y : Nat → Int) (i : Nat) (v : Value) : Prop :=
  (v = .int .i64 (-1) ∧ ∀ t, t < i → ¬ p t = true) ∨ ∃ r : Nat, v = .int .i64 (r : Int) ∧ IsPick p X Y i r

/-- What it answers. -/
def Picked (p : Nat → Bool) (X Y : Nat → Int) (n : Nat) (w : World) (e : Ending) (w' : World) : Prop :=
  ∃ v c : Int, e = .returned (.tuple #[.int .i64 v, .int .i64 c]) ∧ Below w.heap.size w w' ∧ ((c = 4 ∧ v = 0 ∧ ∀ t, t < n → ¬ p t = true) ∨ (c = 0 ∧ ∃ r : Nat, v = (r : Int) ∧ IsPick p X Y n r))

set_option maxRecDepth 20000 in
theorem refPick_any {b : Int} {A B D : Option Addr} {n q : Nat} {L G K : Nat → Int} (c d f : Nat) (w : World) (h : Live (n : Int) b n L) (g : Ages n n G) (H : IntsAt w A n L) (J : IntsAt w B n G) (M : IntsAt w D q K)
    (hq : q ≤ 9223372036854775807) :
    Calls Try.prog 9 #[.agg #[.int .i64 (n : Int), .int .i64 b], .slice A n c, .slice B n d, .slice D q f] w (Picked (cand L K b q) (overS L G b) (underS L b) n w) := by
  have hn : n ≤ 24 := by have := h.geo.1.2; omega
  obtain ⟨p, ep⟩ : ∃ p, p = cand L K b q := ⟨_, rfl⟩
  obtain ⟨X, eX⟩ : ∃ X, X = overS L G b := ⟨_, rfl⟩
  obtain ⟨Y, eY⟩ : ∃ Y, Y = underS L b := ⟨_, rfl⟩
  have hf : ∀ i, i < n → Fit (X i) (Y i) := fun i hi => by rw [eX, eY]; exact fit_of h hi (g.num i hi)
  have hsc : ∀ i, i < n → ∀ W, Calls Try.prog 18 #[.int .i64 (L i), .int .i64 b, .int .i64 (G i)] W fun e w' => e = .returned (.tuple #[.int .i64 (X i), .int .i64 (Y i), .int .i64 0]) ∧ w' = W := fun i hi W => by
    rw [eX, eY]
    exact same_turned (refScore_yes _ _ _ W (seg_of h hi (g.num i hi)))
  have hcand : ∀ i, i < n → ∀ W, IntsAt W A n L → IntsAt W D q K → Calls Try.prog 17 #[.agg #[.int .i64 (n : Int), .int .i64 b], .slice A n c, .slice D q f, .int .i64 (i : Int)] W (Fresh (.bool (p i)) W) := fun i hi W h1 h2 => by
    rw [ep]
    exact refCand_any (n : Int) b A D n q c f i L K W (Lib.hid h1) (Lib.hid h2) hi hn hq
  rw [← ep, ← eX, ← eY]
  have HC := Lib.hid hcand
  have HS := Lib.hid hsc
  have HF := Lib.hid hf
  have HH := Lib.hid h
  have HG := Lib.hid g
  have H0 := Lib.hid H
  have J0 := Lib.hid J
  have M0 := Lib.hid M
  clear h g H J M hf ep eX eY hsc hcand
  go_enter Try.func9, Try.ntmps9
  go_wp2_with fail
  refine (refCounts_ok c _ HH.out (H0.out.below (boxed _ _))).mono ?_
  rintro e w1 ⟨rfl, hb⟩
  have c0 := geo_s hb
  have C0 := Lib.hid c0
  have C1 := Lib.hid (geo_b hb)
  have HB := Lib.hid (geo_below hb)
  have H1 : Hid (IntsAt w1 A n L) := Lib.hid (H0.out.below HB.out)
  have J1 : Hid (IntsAt w1 B n G) := Lib.hid (J0.out.below HB.out)
  have M1 : Hid (IntsAt w1 D q K) := Lib.hid (M0.out.below HB.out)
  clear hb H0 J0 M0
  go_wp2
  clear c0
  go_loop [10] (fun x => ∃ i : Nat, i ≤ n ∧ x = .int .i64 (i : Int)) (fun x => n - (intOf x).toNat)
  case atStart => exact ⟨0, by omega, rfl⟩
  case round =>
    obtain ⟨i, hi, rfl⟩ := hrel
    by_cases hin : i < n
    · obtain ⟨bd, rfl⟩ := J1.out.addr (by omega)
      have hd := J1.out.at_ hin
      obtain ⟨z, ez⟩ : ∃ z, z = G i := ⟨_, rfl⟩
      rw [← ez] at hd
      obtain ⟨z0, z1⟩ := HG.out.num i hin
      rw [← ez] at z0 z1
      clear ez
      go_wp2
      clear hd
      go_round
      case rel => exact ⟨i + 1, by omega, by go_num⟩
      case measure => simp [intOf]; omega
    · obtain rfl : i = n := by omega
      clear hi hin
      have hnn : ¬ ((i : Int) < (i : Int)) := by omega
      go_wp2
      clear hnn
      go_loopw [11, 12] (fun v x wr => ∃ t : Nat, t ≤ i ∧ x = .int .i64 (t : Int) ∧ Sofar p X Y t v ∧ Below w1.heap.size w1 wr) (fun _ x _ => i - (intOf x).toNat)
      case atStart => exact ⟨0, by omega, rfl, .inl ⟨rfl, fun t ht => absurd ht (by omega)⟩, Below.refl _ _⟩
      case round =>
        obtain ⟨t, ht, rfl, hso, hb⟩ := hrel
        have BB := Lib.hid hb
        clear hb
        by_cases hti : t < i
        · have c0 := cell_later BB.out C0.out
          have c1 := cell_later BB.out C1.out
          go_wp2_with fail
          refine (HC.out t hti _ (H1.out.below BB.out) (M1.out.below BB.out)).mono ?_
          rintro e w2 ⟨rfl, hb2⟩
          have B2 : Hid (Below w1.heap.size w1 w2) := Lib.hid (BB.out.trans (hb2.mono BB.out.size))
          clear hb2 c0 c1
          by_cases hp : p t = true
          · have P := Lib.hid hp
            rw [hp]
            clear hp
            rcases hso with ⟨rfl, hno⟩ | ⟨r, rfl, hr⟩
            · have S : Hid (Sofar p X Y (t + 1) (.int .i64 (t : Int))) := Lib.hid (.inr ⟨t, rfl, pick_first hno P.out⟩)
              clear hno
              go_wp2
              go_roundw
              case rel => exact ⟨t + 1, by omega, by go_num, S.out, B2.out⟩
              case measure => simp [intOf]; omega
            · have hrt := hr.lt
              have hri : r < i := by omega
              obtain ⟨ad, rfl⟩ := H1.out.addr (by omega)
              obtain ⟨bd, rfl⟩ := J1.out.addr (by omega)
              have c1 := cell_later B2.out C1.out
              have l1 := cell_later B2.out (H1.out.at_ hti)
              have a1 := cell_later B2.out (J1.out.at_ hti)
              have l2 := cell_later B2.out (H1.out.at_ hri)
              have a2 := cell_later B2.out (J1.out.at_ hri)
              have s1 := HS.out t hti
              have s2 := HS.out r hri
              have s3 : ∀ W, Calls Try.prog 19 #[.int .i64 (X t), .int .i64 (Y t), .int .i64 (X r), .int .i64 (Y r)] W (Drawn (.tuple #[.int .i64 (rel (X t) (Y t) (X r) (Y r)), .int .i64 0]) W) := fun W =>
                refCompare_yes _ _ _ _ W (HF.out t hti) (HF.out r hri)
              have HR := Lib.hid hr
              obtain ⟨R, eR⟩ : ∃ R, R = rel (X t) (Y t) (X r) (Y r) := ⟨_, rfl⟩
              rw [← eR] at s3
              have ER := Lib.hid eR
              clear eR hr
              obtain ⟨x1, ex1⟩ : ∃ x1, x1 = X t := ⟨_, rfl⟩
              obtain ⟨y1, ey1⟩ : ∃ y1, y1 = Y t := ⟨_, rfl⟩
              obtain ⟨x2, ex2⟩ : ∃ x2, x2 = X r := ⟨_, rfl⟩
              obtain ⟨y2, ey2⟩ : ∃ y2, y2 = Y r := ⟨_, rfl⟩
              obtain ⟨z1, ez1⟩ : ∃ z1, z1 = L t := ⟨_, rfl⟩
              obtain ⟨z2, ez2⟩ : ∃ z2, z2 = L r := ⟨_, rfl⟩
              obtain ⟨q1, eq1⟩ : ∃ q1, q1 = G t := ⟨_, rfl⟩
              obtain ⟨q2, eq2⟩ : ∃ q2, q2 = G r := ⟨_, rfl⟩
              rw [← ex1, ← ey1, ← ez1, ← eq1] at s1
              rw [← ex2, ← ey2, ← ez2, ← eq2] at s2
              rw [← ex1, ← ey1, ← ex2, ← ey2] at s3
              rw [← ez1] at l1
              rw [← ez2] at l2
              rw [← eq1] at a1
              rw [← eq2] at a2
              have S1 := Lib.hid s1
              have S2 := Lib.hid s2
              have S3 := Lib.hid s3
              clear s1 s2 s3 ex1 ey1 ex2 ey2 ez1 ez2 eq1 eq2
              have hr0 : ¬ ((r : Int) < 0) := by omega
              go_wp2
              go_quiet ((go_at_call 18; exact Calls.quiet_of_same (S1.out _)))
              generalize hw3 : World.drewN w2 _ = w3
              replace c1 := cell_drew c1 hw3
              replace l2 := cell_drew l2 hw3
              replace a2 := cell_drew a2 hw3
              have B3 : Hid (Below w1.heap.size w1 w3) := Lib.hid (by rw [← hw3]; exact below_drewN B2.out _)
              clear hw3 l1 a1 B2
              go_wp2
              go_quiet ((go_at_call 18; exact Calls.quiet_of_same (S2.out _)))
              generalize hw4 : World.drewN w3 _ = w4
              have B4 : Hid (Below w1.heap.size w1 w4) := Lib.hid (by rw [← hw4]; exact below_drewN B3.out _)
              clear hw4 l2 a2 c1 B3
              go_wp2_with fail
              refine (S3.out _).mono ?_
              rintro e w5 ⟨k, rfl, hw5⟩
              have B5 : Hid (Below w1.heap.size w1 w5) := Lib.hid (by rw [← hw5]; exact below_drewN B4.out _)
              clear hw5 B4
              by_cases hR : 0 < R
              · have S : Hid (Sofar p X Y (t + 1) (.int .i64 (t : Int))) := Lib.hid (.inr ⟨t, rfl, HR.out.up (fun i hi => by have := (HF.out i (by omega)).2.2.1; omega) P.out (by rw [← ER.out]; exact hR)⟩)
                go_wp2
                go_roundw
                case rel => exact ⟨t + 1, by omega, by go_num, S.out, B5.out⟩
                case measure => simp [intOf]; omega
              · have S : Hid (Sofar p X Y (t + 1) (.int .i64 (r : Int))) := Lib.hid (.inr ⟨r, rfl, HR.out.stays (fun _ => by rw [← ER.out]; exact hR)⟩)
                go_wp2
                go_roundw
                case rel => exact ⟨t + 1, by omega, by go_num, S.out, B5.out⟩
                case measure => simp [intOf]; omega
          · have hso2 : ∀ v, Sofar p X Y t v → Sofar p X Y (t + 1) v := fun v hv => by
              rcases hv with ⟨rfl, hno⟩ | ⟨r, rfl, hr⟩
              · refine .inl ⟨rfl, fun k hk hpk => ?_⟩
                by_cases he : k = t
                · rw [he] at hpk; exact hp hpk
                · exact hno k (by omega) hpk
              · exact .inr ⟨r, rfl, hr.stays fun h => absurd h hp⟩
            have SO := Lib.hid (hso2 _ hso)
            rw [Bool.eq_false_iff.2 hp]
            clear hso2 hso hp
            go_wp2
            go_roundw
            case rel => exact ⟨t + 1, by omega, by go_num, SO.out, B2.out⟩
            case measure => simp [intOf]; omega
        · obtain rfl : t = i := by omega
          rcases hso with ⟨rfl, hno⟩ | ⟨r, rfl, hr⟩
          · have HN := Lib.hid hno
            clear hno
            go_wp2
            go_ret2
            exact ⟨0, 4, rfl, HB.out.trans (BB.out.mono HB.out.size), .inl ⟨rfl, rfl, HN.out⟩⟩
          · have HR := Lib.hid hr
            clear hr
            have hr0 : ¬ ((r : Int) < 0) := by omega
            go_wp2
            go_ret2
            exact ⟨r, 0, rfl, HB.out.trans (BB.out.mono HB.out.size), .inr ⟨rfl, r, rfl, HR.out⟩⟩

theorem refPick_none {s b : Int} {A B D : Option Addr} {n m q : Nat} {L G K : Nat → Int} (c d f : Nat) (w : World) (h : Live s b n L) (g : Ages n m G) (H : IntsAt w A n L) (J : IntsAt w B m G) (M : IntsAt w D q K)
    (hq : q ≤ 9223372036854775807) (hno : ∀ i, i < n → ¬ cand L K b q i = true) :
    Calls Try.prog 9 #[.agg #[.int .i64 s, .int .i64 b], .slice A n c, .slice B m d, .slice D q f] w (Fresh (.tuple #[.int .i64 0, .int .i64 4]) w) := by
  obtain rfl := h.len
  obtain rfl := g.len
  refine (refPick_any c d f w h g H J M hq).mono fun e w' ⟨v, k, he, hb, hc⟩ => ⟨?_, hb⟩
  rcases hc with ⟨rfl, rfl, _⟩ | ⟨_, r, _, hr⟩
  · exact he
  · exact absurd hr.can (hno r hr.lt)
theorem refPick_ok {s b : Int} {A B D : Option Addr} {n m q r : Nat} {L G K : Nat → Int} (c d f : Nat) (w : World) (h : Live s b n L) (g : Ages n m G) (H : IntsAt w A n L) (J : IntsAt w B m G) (M : IntsAt w D q K)
    (hq : q ≤ 9223372036854775807) (hp : IsPick (cand L K b q) (overS L G b) (underS L b) n r) :
    Calls Try.prog 9 #[.agg #[.int .i64 s, .int .i64 b], .slice A n c, .slice B m d, .slice D q f] w (Fresh (.tuple #[.int .i64 (r : Int), .int .i64 0]) w) := by
  obtain rfl := h.len
  obtain rfl := g.len
  refine (refPick_any c d f w h g H J M hq).mono fun e w' ⟨v, k, he, hb, hc⟩ => ⟨?_, hb⟩
  rcases hc with ⟨_, _, hno⟩ | ⟨rfl, t, rfl, ht⟩
  · exact absurd hp.can (hno r hp.lt)
  · rw [he, ht.same hp]
end Go.Proofs.Ytiolhdilfjomcaa
