/- What Pick answers: a contract for each of its three answers. -/
import Derived.Test.YtiolhdilfjomcaaChCands
import Derived.Test.YtiolhdilfjomcaaRatioBest
namespace Go.Proofs.Ytiolhdilfjomcaa
open Go.RowKit

theorem ages_not {n m : Nat} {G : Nat → Int} (h : ¬ Ages n m G) : ¬ m = n ∨ (m = n ∧ ∃ j, j < n ∧ (∀ i, i < j → 0 ≤ G i ∧ G i ≤ 65535) ∧ ¬ (0 ≤ G j ∧ G j ≤ 65535)) := by
  by_cases hl : m = n
  · subst hl
    by_cases hn : ∀ i, i < m → 0 ≤ G i ∧ G i ≤ 65535
    · exact absurd ⟨rfl, hn⟩ h
    · exact .inr ⟨rfl, first_not _ m hn⟩
  · exact .inl hl

theorem pick_live {s b : Int} {A : Option Addr} {n : Nat} {L : Nat → Int} (c : Nat) (v u : Value) (w : World) (h : ¬ Live s b n L) (H : IntsAt w A n L) :
    Calls Try.prog 8 #[.agg #[.int .i64 s, .int .i64 b], .slice A n c, v, u] w (Fresh (.tuple #[.int .i64 0, .int .i64 1]) w) := by
  have HH := Lib.hid h
  have H0 := Lib.hid H
  clear h H
  go_enter Try.func8, Try.ntmps8
  go_wp2_with fail
  refine (scores_live c v _ HH.out (H0.out.below (boxed _ _))).mono ?_
  rintro e w1 ⟨rfl, hb⟩
  have HB := Lib.hid (geo_below hb)
  clear hb
  go_wp2
  go_ret2
  exact ⟨rfl, HB.out⟩

theorem pick_len {s b : Int} {A B : Option Addr} {n m : Nat} {L : Nat → Int} (c d : Nat) (u : Value) (w : World) (h : Live s b n L) (H : IntsAt w A n L) (hl : ¬ m = n) :
    Calls Try.prog 8 #[.agg #[.int .i64 s, .int .i64 b], .slice A n c, .slice B m d, u] w (Fresh (.tuple #[.int .i64 0, .int .i64 1]) w) := by
  have HH := Lib.hid h
  have H0 := Lib.hid H
  have HL := Lib.hid hl
  clear h H hl
  go_enter Try.func8, Try.ntmps8
  go_wp2_with fail
  refine (scores_len c d _ HH.out (H0.out.below (boxed _ _)) HL.out).mono ?_
  rintro e w1 ⟨rfl, hb⟩
  have HB := Lib.hid (geo_below hb)
  clear hb
  go_wp2
  go_ret2
  exact ⟨rfl, HB.out⟩

theorem pick_age {s b : Int} {A B : Option Addr} {n j : Nat} {L G : Nat → Int} (c d : Nat) (u : Value) (w : World) (h : Live s b n L) (H : IntsAt w A n L) (J : IntsAt w B n G) (hj : j < n)
    (hlow : ∀ i, i < j → 0 ≤ G i ∧ G i ≤ 65535) (hbad : ¬ (0 ≤ G j ∧ G j ≤ 65535)) :
    Calls Try.prog 8 #[.agg #[.int .i64 s, .int .i64 b], .slice A n c, .slice B n d, u] w (Fresh (.tuple #[.int .i64 0, .int .i64 1]) w) := by
  obtain rfl := h.len
  have HH := Lib.hid h
  have H0 := Lib.hid H
  have J0 := Lib.hid J
  have HL := Lib.hid hlow
  have HD := Lib.hid hbad
  clear h H J hlow hbad
  go_enter Try.func8, Try.ntmps8
  go_wp2_with fail
  refine (scores_loop b A B n c d j L G _ HH.out (Lib.hid (H0.out.below (boxed _ _))) (Lib.hid (J0.out.below (boxed _ _))) (by omega) HL.out (fun _ => HD.out)).mono ?_
  rintro e w1 ⟨x, y, z, rfl, hb, hz⟩
  obtain rfl : z = 1 := by
    rcases hz with ⟨h1, _⟩ | ⟨_, h2⟩
    · omega
    · exact h2
  have HB := Lib.hid (geo_below hb)
  clear hb hz
  go_wp2
  go_ret2
  exact ⟨rfl, HB.out⟩

/-- What the walk has behind scores and candidates. -/
theorem cands_reads {w : World} {base n : Nat} {v : Value} {p : Nat → Bool} (h : OwnI w base v (many p n) (fun j => (nth p n j : Int))) (hn : n ≤ 24) : ReadsI w v (many p n) (fun j => (nth p n j : Int)) :=
  h.reads fun i hi => by
    have := (nth_is hi).1
    omega

theorem pick_none {s b : Int} {A B D : Option Addr} {n m q : Nat} {L G K : Nat → Int} (c d f : Nat) (w : World) (h : Live s b n L) (g : Ages n m G) (H : IntsAt w A n L) (J : IntsAt w B m G) (M : IntsAt w D q K)
    (hq : q ≤ 9223372036854775807) (hno : ∀ i, i < n → ¬ cand L K b q i = true) :
    Calls Try.prog 8 #[.agg #[.int .i64 s, .int .i64 b], .slice A n c, .slice B m d, .slice D q f] w (Fresh (.tuple #[.int .i64 0, .int .i64 4]) w) := by
  obtain rfl := h.len
  obtain rfl := g.len
  have hn : m ≤ 24 := by have := h.geo.1.2; omega
  have HH := Lib.hid h
  have HG := Lib.hid g
  have H0 := Lib.hid H
  have J0 := Lib.hid J
  have M0 := Lib.hid M
  have HN := Lib.hid hno
  clear h g H J M hno
  go_enter Try.func8, Try.ntmps8
  go_wp2_with fail
  refine (scores_loop b A B m c d m L G _ HH.out (Lib.hid (H0.out.below (boxed _ _))) (Lib.hid (J0.out.below (boxed _ _))) (Nat.le_refl _) HG.out.num (fun h => absurd h (by omega))).mono ?_
  rintro e w1 ⟨x, y, z, rfl, hb, hz⟩
  obtain rfl : z = 0 := by
    rcases hz with ⟨_, h1, _⟩ | ⟨h2, _⟩
    · exact h1
    · omega
  have c0 := geo_s hb
  have c1 := geo_b hb
  have HB := Lib.hid (geo_below hb)
  clear hb hz
  go_wp2_with fail
  refine (cands_any _ b A D m q c f L K _ (Lib.hid (H0.out.below HB.out)) (Lib.hid (M0.out.below HB.out)) hn hq).mono ?_
  rintro e w2 ⟨v, rfl, hb2, ho⟩
  rw [many_none HN.out] at ho
  obtain ⟨Ax, cx, rfl, _, _, _, _⟩ := ho.reads (fun i hi => absurd hi (by omega))
  have B2 := Lib.hid (HB.out.trans (hb2.mono HB.out.size))
  clear hb2 ho c0 c1
  go_wp2
  go_ret2
  exact ⟨rfl, B2.out⟩

theorem pick_ok {s b : Int} {A B D : Option Addr} {n m q r : Nat} {L G K : Nat → Int} (c d f : Nat) (w : World) (h : Live s b n L) (g : Ages n m G) (H : IntsAt w A n L) (J : IntsAt w B m G) (M : IntsAt w D q K)
    (hq : q ≤ 9223372036854775807) (hp : IsPick (cand L K b q) (overS L G b) (underS L b) n r) :
    Calls Try.prog 8 #[.agg #[.int .i64 s, .int .i64 b], .slice A n c, .slice B m d, .slice D q f] w (Fresh (.tuple #[.int .i64 (r : Int), .int .i64 0]) w) := by
  obtain rfl := h.len
  obtain rfl := g.len
  have hn : m ≤ 24 := by have := h.geo.1.2; omega
  obtain ⟨p, ep⟩ : ∃ p, p = cand L K b q := ⟨_, rfl⟩
  obtain ⟨X, eX⟩ : ∃ X, X = overS L G b := ⟨_, rfl⟩
  obtain ⟨Y, eY⟩ : ∃ Y, Y = underS L b := ⟨_, rfl⟩
  have hf : ∀ i, i < m → Fit (X i) (Y i) := fun i hi => by rw [eX, eY]; exact fit_of h hi (g.num i hi)
  rw [← ep, ← eX, ← eY] at hp
  obtain ⟨l, el⟩ : ∃ l, l = many p m := ⟨_, rfl⟩
  have hl : 0 < l := by
    have h1 := many_mono (p := p) (k := r + 1) (n := m) (by have := hp.lt; omega)
    rw [many_up hp.can] at h1
    omega
  have hl2 : l ≤ 24 := by have := many_le p m; omega
  have hpick := (best_pick hf (by omega : 0 < many p m)).same hp
  have hbl := best_lt (fun j => X (nth p m j)) (fun j => Y (nth p m j)) (Nat.le_refl (many p m)) (by omega)
  rw [← el] at hpick hbl
  obtain ⟨t, et⟩ : ∃ t, t = best (fun j => X (nth p m j)) (fun j => Y (nth p m j)) l := ⟨_, rfl⟩
  rw [← et] at hpick hbl
  have hnth : ∀ j, j < l → nth p m j < m := fun j hj => (nth_is (by rw [← el]; exact hj)).1
  have hbest : ∀ (x y : Nat) (W : World), IntsLie W x (fun j => X (nth p m j)) l → IntsLie W y (fun j => Y (nth p m j)) l →
      Calls Try.prog 15 #[.slice (some ⟨x, 0, none⟩) l l, .slice (some ⟨y, 0, none⟩) l l] W (Drawn (.tuple #[.int .i64 (t : Int), .int .i64 0]) W) := fun x y W hx hy => by
    have := best_any (fun j => X (nth p m j)) (fun j => Y (nth p m j)) ⟨x, 0, none⟩ ⟨y, 0, none⟩ l l l l W hl (by omega) (Nat.le_refl _) (fun j hj => by rw [add_nil]; exact hx.cell hj) (fun j hj => by rw [add_nil]; exact hy.cell hj)
      (fun j hj => hf _ (hnth j hj)) (fun h => absurd h (by omega))
    unfold bestAt bestErr at this
    rw [if_pos rfl, if_pos rfl, ← et] at this
    exact this
  have HF := Lib.hid hf
  have EP := Lib.hid ep
  have EX := Lib.hid eX
  have EY := Lib.hid eY
  have EL := Lib.hid el
  have HP := Lib.hid hpick
  have HT := Lib.hid hnth
  have HS := Lib.hid hbest
  have HH := Lib.hid h
  have HG := Lib.hid g
  have H0 := Lib.hid H
  have J0 := Lib.hid J
  have M0 := Lib.hid M
  clear h g H J M hf ep eX eY el hp hpick et hnth hbest
  go_enter Try.func8, Try.ntmps8
  go_wp2_with fail
  refine (scores_loop b A B m c d m L G _ HH.out (Lib.hid (H0.out.below (boxed _ _))) (Lib.hid (J0.out.below (boxed _ _))) (Nat.le_refl _) HG.out.num (fun h => absurd h (by omega))).mono ?_
  rintro e w1 ⟨x, y, z, rfl, hb, hz⟩
  rw [← EX.out, ← EY.out] at hz
  obtain ⟨rfl, hx, hy⟩ : z = 0 ∧ ReadsI w1 x m X ∧ ReadsI w1 y m Y := by
    rcases hz with ⟨_, h1, h2, h3⟩ | ⟨h2, _⟩
    · exact ⟨h1, h2.reads fun i hi => (in64 (HF.out i hi)).1, h3.reads fun i hi => (in64 (HF.out i hi)).2⟩
    · omega
  obtain ⟨Au, cu, rfl, _, _, _, ru⟩ := hx
  obtain ⟨Av, cv, rfl, _, _, _, rv⟩ := hy
  have c0 := geo_s hb
  have c1 := geo_b hb
  have HB := Lib.hid (geo_below hb)
  have RU := Lib.hid ru
  have RV := Lib.hid rv
  clear hb hz ru rv
  go_wp2_with fail
  refine (cands_any _ b A D m q c f L K _ (Lib.hid (H0.out.below HB.out)) (Lib.hid (M0.out.below HB.out)) hn hq).mono ?_
  rintro e w2 ⟨v, rfl, hb2, ho⟩
  have hr := cands_reads ho hn
  rw [← EP.out, ← EL.out] at hr
  obtain ⟨Ax, cx, rfl, px, _, _, rx⟩ := hr
  have B2 := Lib.hid hb2
  have RX := Lib.hid rx
  clear hb2 ho c0 c1 rx
  have hl0 : ((l : Int) == 0) = false := by simp; omega
  go_wp2_with fail
  refine (those_any Au Ax m l cu cx X (nth p m) _ (Lib.hid (RU.out.below B2.out)) RX hl2 hn HT.out).mono ?_
  rintro e w3 ⟨g3, rfl, hb3, l3⟩
  have B3 := Lib.hid hb3
  have L3 := Lib.hid l3
  have R3 : Hid (IntsAt w3 Ax l (fun j => (nth p m j : Int))) := Lib.hid (RX.out.below hb3)
  clear hb3 l3
  go_wp2_with fail
  refine (those_any Av Ax m l cv cx Y (nth p m) _ (Lib.hid ((RV.out.below B2.out).below (B3.out))) R3 hl2 hn HT.out).mono ?_
  rintro e w4 ⟨g4, rfl, hb4, l4⟩
  have B4 : Hid (Below w.heap.size w w4) := Lib.hid (((HB.out.trans (B2.out.mono HB.out.size)).trans (B3.out.mono (Nat.le_trans HB.out.size B2.out.size))).trans (hb4.mono (Nat.le_trans (Nat.le_trans HB.out.size B2.out.size) B3.out.size)))
  have L4 := Lib.hid l4
  have L34 : Hid (IntsLie w4 g3 (fun j => X (nth p m j)) l) := Lib.hid (L3.out.below hb4 L3.out.lt)
  have R4 : Hid (IntsAt w4 Ax l (fun j => (nth p m j : Int))) := Lib.hid (R3.out.below hb4)
  clear hb4 l4
  go_wp2_with fail
  refine (HS.out g3 g4 _ L34.out L4.out).mono ?_
  rintro e w5 ⟨k, rfl, hw⟩
  have R5 := R4.out.below (below_drewN (Below.refl _ _) k)
  rw [hw] at R5
  have B5 : Hid (Below w.heap.size w w5) := Lib.hid (by rw [← hw]; exact below_drewN B4.out k)
  obtain ⟨ad, rfl⟩ := R5.addr (by omega)
  have hc := R5.at_ hbl
  simp only [HP.out] at hc
  clear hw R5
  go_wp2
  go_ret2
  exact ⟨rfl, B5.out⟩
end Go.Proofs.Ytiolhdilfjomcaa
