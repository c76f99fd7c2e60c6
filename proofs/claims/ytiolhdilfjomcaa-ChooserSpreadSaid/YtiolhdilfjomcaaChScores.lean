/- The scores of all segments, the list of the candidates, and what of a list stands at these places. -/
import Derived.Test.YtiolhdilfjomcaaChCounts
import Derived.Test.YtiolhdilfjomcaaRatioRef
namespace Go.Proofs.Ytiolhdilfjomcaa
open Go.RowKit

/-- May these be the ages? -/
structure Ages (n m : Nat) (G : Nat → Int) : Prop where
  len : m = n
  num : ∀ i, i < m → 0 ≤ G i ∧ G i ≤ 65535

theorem seg_of {s b : Int} {n : Nat} {L G : Nat → Int} {i : Nat} (h : Live s b n L) (hi : i < n) (hg : 0 ≤ G i ∧ G i ≤ 65535) : Seg (L i) b (G i) := by
  have h1 := h.num i hi
  have h2 := h.geo.2
  exact ⟨h2.1, h2.2, h1.1, h1.2, hg.1, hg.2⟩
theorem fit_of {s b : Int} {n : Nat} {L G : Nat → Int} {i : Nat} (h : Live s b n L) (hi : i < n) (hg : 0 ≤ G i ∧ G i ≤ 65535) : Fit (overS L G b i) (underS L b i) := by
  have h0 := seg_bd (seg_of h hi hg)
  have h1 := h.num i hi
  have h2 := h.geo.2
  unfold underS
  exact ⟨h0.1, h0.2, by omega, by omega⟩
theorem in64 {a b : Int} (h : Fit a b) : (-9223372036854775808 ≤ a ∧ a ≤ 9223372036854775807) ∧ -9223372036854775808 ≤ b ∧ b ≤ 9223372036854775807 := by
  obtain ⟨h0, h1, h2, h3⟩ := h
  omega

theorem scores_live {s b : Int} {A : Option Addr} {n : Nat} {L : Nat → Int} (c : Nat) (v : Value) (w : World) (h : ¬ Live s b n L) (H : IntsAt w A n L) :
    Calls Try.prog 13 #[.agg #[.int .i64 s, .int .i64 b], .slice A n c, v] w (Fresh (.tuple #[.slice none 0 0, .slice none 0 0, .int .i64 1]) w) := by
  have HH := Lib.hid h
  have H0 := Lib.hid H
  clear h H
  go_enter Try.func13, Try.ntmps13
  go_wp2_with fail
  refine (counts_bad c _ HH.out (H0.out.below (boxed _ _))).mono ?_
  rintro e w1 ⟨rfl, hb⟩
  have HB := Lib.hid (geo_below hb)
  clear hb
  go_wp2
  go_ret3
  exact ⟨rfl, HB.out⟩

theorem scores_len {s b : Int} {A B : Option Addr} {n m : Nat} {L : Nat → Int} (c d : Nat) (w : World) (h : Live s b n L) (H : IntsAt w A n L) (hl : ¬ m = n) :
    Calls Try.prog 13 #[.agg #[.int .i64 s, .int .i64 b], .slice A n c, .slice B m d] w (Fresh (.tuple #[.slice none 0 0, .slice none 0 0, .int .i64 1]) w) := by
  obtain rfl := h.len
  have hq : ((m : Int) != (n : Int)) = true := by simp; omega
  have HH := Lib.hid h
  have H0 := Lib.hid H
  clear h H hl
  go_enter Try.func13, Try.ntmps13
  go_wp2_with fail
  refine (counts_ok c _ HH.out (H0.out.below (boxed _ _))).mono ?_
  rintro e w1 ⟨rfl, hb⟩
  have c0 := geo_s hb
  have HB := Lib.hid (geo_below hb)
  clear hb
  go_wp2
  go_ret3
  exact ⟨rfl, HB.out⟩

/-- What scores answers of ages of which the first j may be (and no further one, if j is not n). -/
def Scored (n j : Nat) (X Y : Nat → Int) (w : World) (e : Ending) (w' : World) : Prop :=
  ∃ (u v : Value) (x : Int), e = .returned (.tuple #[u, v, .int .i64 x]) ∧ Below w.heap.size w w' ∧ ((j = n ∧ x = 0 ∧ OwnI w' w.heap.size u n X ∧ OwnI w' w.heap.size v n Y) ∨ (j < n ∧ x = 1))

theorem scores_loop (b : Int) (A B : Option Addr) (n c d j : Nat) (L G : Nat → Int) (w : World) (h : Live (n : Int) b n L) (H : Hid (IntsAt w A n L)) (K : Hid (IntsAt w B n G)) (hj : j ≤ n)
    (hlow : ∀ i, i < j → 0 ≤ G i ∧ G i ≤ 65535) (hbad : j < n → ¬ (0 ≤ G j ∧ G j ≤ 65535)) :
    Calls Try.prog 13 #[.agg #[.int .i64 (n : Int), .int .i64 b], .slice A n c, .slice B n d] w (Scored n j (overS L G b) (underS L b) w) := by
  have hn : n ≤ 24 := by have := h.geo.1.2; omega
  have HH := Lib.hid h
  have HL := Lib.hid hlow
  have HD := Lib.hid hbad
  clear h hlow hbad
  go_enter Try.func13, Try.ntmps13
  go_wp2_with fail
  refine (counts_ok c _ HH.out (H.out.below (boxed _ _))).mono ?_
  rintro e w1 ⟨rfl, hb⟩
  have c0 := geo_s hb
  have C1 := Lib.hid (geo_b hb)
  have HB := Lib.hid (geo_below hb)
  have H1 : Hid (IntsAt w1 A n L) := Lib.hid (H.out.below HB.out)
  have K1 : Hid (IntsAt w1 B n G) := Lib.hid (K.out.below HB.out)
  clear hb H K
  go_wp2
  clear c0
  go_loopw [6, 7, 27] (fun u v x wr => ∃ i : Nat, i ≤ j ∧ x = .int .i64 (i : Int) ∧ Two wr w1.heap.size u v i (overS L G b) (underS L b) ∧ Below w1.heap.size w1 wr) (fun _ _ x _ => n - (intOf x).toNat)
  case atStart => exact ⟨0, by omega, rfl, two_none _ _ _ _, Below.refl _ _⟩
  case round =>
    obtain ⟨i, hi, rfl, ht, hb⟩ := hrel
    have HT := Lib.hid ht
    have BB := Lib.hid hb
    clear ht hb
    by_cases hin : i < n
    · obtain ⟨ad, rfl⟩ := H1.out.addr (by omega)
      obtain ⟨bd, rfl⟩ := K1.out.addr (by omega)
      have hc := cell_later BB.out (H1.out.at_ hin)
      have hd := cell_later BB.out (K1.out.at_ hin)
      have c1 := cell_later BB.out C1.out
      by_cases hij : i < j
      · have hs := seg_of (i := i) HH.out hin (HL.out i hij)
        have hx : Hid (overS L G b i = (b - L i) * (G i + 1)) := Lib.hid rfl
        have hy : Hid (underS L b i = b + L i) := Lib.hid rfl
        have hf := fit_of (i := i) HH.out hin (HL.out i hij)
        obtain ⟨x, ex⟩ : ∃ x, x = overS L G b i := ⟨_, rfl⟩
        obtain ⟨y, ey⟩ : ∃ y, y = underS L b i := ⟨_, rfl⟩
        have hcall : ∀ W, Calls Try.prog 22 #[.int .i64 (L i), .int .i64 b, .int .i64 (G i)] W fun e w' => e = .returned (.tuple #[.int .i64 x, .int .i64 y, .int .i64 0]) ∧ w' = W := fun W => by
          rw [ex, ey, hx.out, hy.out]
          exact same_turned (score_yes _ _ _ W hs)
        obtain ⟨z, ez⟩ : ∃ z, z = L i := ⟨_, rfl⟩
        obtain ⟨q, eq⟩ : ∃ q, q = G i := ⟨_, rfl⟩
        rw [← ez] at hc
        rw [← eq] at hd
        rw [← ez, ← eq] at hcall
        have HC := Lib.hid hcall
        have EX := Lib.hid ex
        have EY := Lib.hid ey
        clear hcall hs hx hy hf ez eq ex ey
        go_wp2
        go_quiet ((go_at_call 22; exact Calls.quiet_of_same (HC.out _)))
        generalize hw5 : World.drewN wr _ = w5
        have ht5 := HT.out.later hw5
        have hb5 : Below w1.heap.size w1 w5 := by rw [← hw5]; exact below_drewN BB.out _
        clear hw5 hc hd c1
        obtain ⟨u', w6, v', w7, r6, r7, ht7, hb7⟩ := run_two (x := x) (y := y) 24 24 ht5 EX.out EY.out (by omega) hb5.size (Nat.le_refl _) hb5
        have R6 := Lib.hid r6
        have R7 := Lib.hid r7
        have T7 := Lib.hid ht7
        have B7 := Lib.hid hb7
        clear r6 r7 ht7 hb7 ht5 hb5 HT BB
        go_wp2_with (first | (at_builtin; refine Lib.wpList_append_run _ rfl (.tmp 47) (.tmp 49) _ _ rfl _ _ rfl rfl _ _ R6.out ?_) | (at_builtin; refine Lib.wpList_append_run _ rfl (.tmp 51) (.tmp 53) _ _ rfl _ _ rfl rfl _ _ R7.out ?_))
        go_roundw
        case rel => exact ⟨i + 1, by omega, by go_num, T7.out, B7.out⟩
        case measure => simp [intOf]; omega
      · obtain rfl : i = j := by omega
        have hs : ¬ Seg (L i) b (G i) := fun k => HD.out hin ⟨k.2.2.2.2.1, k.2.2.2.2.2⟩
        have hcall : ∀ W, Calls Try.prog 22 #[.int .i64 (L i), .int .i64 b, .int .i64 (G i)] W fun e w' => e = .returned (.tuple #[.int .i64 0, .int .i64 0, .int .i64 1]) ∧ w' = W := fun W =>
          same_turned (score_no _ _ _ W hs)
        obtain ⟨z, ez⟩ : ∃ z, z = L i := ⟨_, rfl⟩
        obtain ⟨q, eq⟩ : ∃ q, q = G i := ⟨_, rfl⟩
        rw [← ez] at hc
        rw [← eq] at hd
        rw [← ez, ← eq] at hcall
        have HC := Lib.hid hcall
        clear hcall hs ez eq
        go_wp2
        go_quiet ((go_at_call 22; exact Calls.quiet_of_same (HC.out _)))
        go_wp2
        go_ret3
        exact ⟨_, _, 1, rfl, below_drewN (HB.out.trans (BB.out.mono HB.out.size)) _, .inr ⟨hin, rfl⟩⟩
    · obtain rfl : i = n := by omega
      obtain rfl : i = j := by omega
      go_wp2
      go_ret3
      exact ⟨_, _, 0, rfl, HB.out.trans (BB.out.mono HB.out.size), .inl ⟨rfl, rfl, OwnI.less HT.out.one HB.out.size, OwnI.less HT.out.two HB.out.size⟩⟩
end Go.Proofs.Ytiolhdilfjomcaa
