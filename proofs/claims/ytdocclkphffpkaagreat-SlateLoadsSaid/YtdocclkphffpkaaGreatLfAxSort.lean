/- axis.Sort of unlike places: they are all there, and no others. -/
import Derived.Test.YtdocclkphffpkaaGreatShSorted
import Derived.Test.YtdocclkphffpkaaGreatMerge5
namespace Go.Proofs.YtdocclkphffpkaaGreat
open Go.RowKit

def SpotOk' (p : Nat × Nat) : Prop := p.1 < 24 ∧ p.2 < 16
def spotN (p : Nat × Nat) : Nat := p.1 * 16 + p.2
theorem spotN_inj {p q : Nat × Nat} (hp : SpotOk' p) (hq : SpotOk' q) (h : spotN p = spotN q) : p = q := by
  unfold spotN at h
  have := hp.2
  have := hq.2
  exact Prod.ext (by omega) (by omega)
theorem store_complex (a : Addr) (x y : Nat) (m : Mode) (w : World) : (store a (.complex .f64 x y) m).run Tryz.prog w = stored Tryz.prog w a (.complex .f64 x y) m := run_store Tryz.prog w a _ m rfl

set_option maxRecDepth 20000 in
set_option maxHeartbeats 1000000 in
theorem axisSort_any (v : Value) (n : Nat) (P : Nat → Nat × Nat) (w : World) (h : ReadsZ w v n fun i => some (P i)) (hok : ∀ i, i < n → SpotOk' (P i)) (hinj : ∀ i j, i < n → j < n → P i = P j → i = j) (hn : n ≤ 4096) :
    Calls Tryz.prog 105 #[v] w fun e w' => ∃ (B : Nat) (P' : Nat → Nat × Nat), e = .returned (.tuple #[.slice (some ⟨B, 0, none⟩) n n, .int .i64 0]) ∧ RowIs w' B 55 (fun i => zval (some (P' i))) n ∧
      (∀ i, i < n → ∃ j, j < n ∧ P' i = P j) ∧ (∀ j, j < n → ∃ i, i < n ∧ P' i = P j) ∧ Below w.heap.size w w' := by
  obtain ⟨A, c, rfl, q1, q2, q3, q4⟩ := id h
  have H := Lib.hid h
  have HOK := Lib.hid hok
  have HINJ := Lib.hid hinj
  have m0 := make_ints n (by omega)
  have d0 : decide ((4096 : Int) < (n : Int)) = false := by simp; omega
  have B0 : Hid (Below w.heap.size w (w.alloc (.cells (intsOf (fun _ => 0) n).toArray 3))) := Lib.hid ((Below.refl _ _).alloc (Nat.le_refl _) _)
  have M0 := Lib.hid (made_ints w n)
  clear h hok hinj q4
  go_enter Tryz.func105, Tryz.ntmps105
  go_wp2
  clear m0
  go_loopw [20] (fun x wr => ∃ i : Nat, i ≤ n ∧ x = .int .i64 (i : Int) ∧ IntsLie wr w.heap.size (fun j => if j < i then (spotN (P j) : Int) else 0) n ∧ Below w.heap.size w wr) (fun x _ => n - (intOf x).toNat)
  case atStart => exact ⟨0, by omega, rfl, M0.out.congr fun i _ => by rw [if_neg (by omega)], B0.out⟩
  case round =>
    clear B0 M0
    obtain ⟨i, hi, rfl, hl, hb⟩ := hrel
    have HL := Lib.hid hl
    have HB := Lib.hid hb
    clear hl hb
    by_cases hlt : i < n
    · obtain ⟨ad, rfl⟩ := H.out.addr (by omega)
      have hc := (H.out.below HB.out).at_ hlt
      obtain ⟨a, ea⟩ : ∃ a, a = (P i).1 := ⟨_, rfl⟩
      obtain ⟨b, eb⟩ : ∃ b, b = (P i).2 := ⟨_, rfl⟩
      have ha : a < 24 := by rw [ea]; exact (HOK.out i hlt).1
      have hb : b < 16 := by rw [eb]; exact (HOK.out i hlt).2
      have hc2 : wr.cell? (ad.add i) = some (.complex .f64 (fl a) (fl b)) := by rw [ea, eb]; exact hc
      have EN : Hid (((a : Int) * 16 + (b : Int)) = (spotN (P i) : Int)) := Lib.hid (by unfold spotN; rw [← ea, ← eb]; omega)
      have c0 := HL.out.cell (i := i) hlt
      have c1 := HL.out.free i
      clear hc ea eb
      go_wp2_with fail
      refine (flat_any a b 16 _ ha (by omega) (by omega) (by omega)).mono ?_
      rintro e w' ⟨rfl, rfl⟩
      rw [EN.out]
      obtain ⟨z, ez⟩ : ∃ z, z = (spotN (P i) : Int) := ⟨_, rfl⟩
      rw [← ez]
      have EZ := Lib.hid ez
      clear ez EN
      go_wp2
      clear c0 c1 hc2
      go_roundw
      case rel => exact ⟨i + 1, by omega, by go_num, HL.out.set_ hlt (by rw [if_pos (by omega)]; exact EZ.out) (fun j hj => by
        by_cases h5 : j < i
        · rw [if_pos h5, if_pos (by omega)]
        · rw [if_neg h5, if_neg (by omega)]), HB.out.setCell (Nat.le_refl _) _⟩
      case measure => simp [intOf]; omega
    · obtain rfl : i = n := by omega
      have HG : Hid (IntsLie wr w.heap.size (fun j => (spotN (P j) : Int)) i) := Lib.hid (HL.out.congr fun j hj => by rw [if_pos hj])
      clear HL
      go_wp2_with fail
      refine (sort_ints (c := i) HG.out (by omega)).mono ?_
      rintro e w2 ⟨rfl, g', hg1, hg2, hg3, hg4, hg5⟩
      have HG1 := Lib.hid hg1
      have HB2 : Hid (Below w.heap.size w w2) := Lib.hid (HB.out.grown hg5 HB.out.size fun k hk => by obtain rfl := Option.some.inj hk; exact Nat.le_refl _)
      have hinj' : ∀ x y, x < i → y < i → g' x = g' y → x = y := hg4 fun x y hx hy e => HINJ.out x y hx hy (spotN_inj (HOK.out x hx) (HOK.out y hy) (Int.ofNat.inj e))
      have HD : Hid (∀ x, x < i → 0 < x → g' x ≠ g' (x - 1)) := Lib.hid fun x hx h0 e => by have := hinj' x (x - 1) hx (by omega) e; omega
      -- which place each number is
      have hch : ∀ x, ∃ j, x < i → j < i ∧ g' x = (spotN (P j) : Int) := fun x => by
        by_cases hx : x < i
        · obtain ⟨j, hj, e⟩ := hg2 x hx
          exact ⟨j, fun _ => ⟨hj, e⟩⟩
        · exact ⟨0, fun h => absurd h hx⟩
      obtain ⟨J, hJ⟩ : ∃ J : Nat → Nat, ∀ x, x < i → J x < i ∧ g' x = (spotN (P (J x)) : Int) := ⟨fun x => Classical.choose (hch x), fun x hx => Classical.choose_spec (hch x) hx⟩
      have HJ := Lib.hid hJ
      have HS : Hid (∀ j, j < i → ∃ x, x < i ∧ P (J x) = P j) := Lib.hid fun j hj => by
        obtain ⟨x, hx, e⟩ := hg3 j hj
        have h2 := (hJ x hx).2
        rw [e] at h2
        exact ⟨x, hx, (spotN_inj (HOK.out j hj) (HOK.out _ (hJ x hx).1) (Int.ofNat.inj h2)).symm⟩
      clear hg1 hg2 hg3 hg4 hg5 hinj' hch hJ HB
      go_wp2_with fail
      refine (comp_ints (c := i) HG1.out (by omega) (Nat.le_refl _) HD.out).mono ?_
      rintro e w3 ⟨rfl, hg3, hg4⟩
      have HG3 := Lib.hid hg3
      have HB3 : Hid (Below w.heap.size w w3) := Lib.hid (HB2.out.grown hg4 HB2.out.size fun k hk => by obtain rfl := Option.some.inj hk; exact Nat.le_refl _)
      have m1 := make_zs i i (Nat.le_refl _) (by omega)
      have R0 : Hid (RowIs (w3.alloc (.cells (plsOf (fun _ => some (0, 0)) i).toArray 55)) w3.heap.size 55 (fun _ => zval (some (0, 0))) i) := Lib.hid (heap_alloc_new w3 _)
      have HG4 : Hid (IntsLie (w3.alloc (.cells (plsOf (fun _ => some (0, 0)) i).toArray 55)) w.heap.size g' i) := Lib.hid ((heap_alloc_old w3 _ hg3.lt).trans hg3)
      have HB4 : Hid (Below w.heap.size w (w3.alloc (.cells (plsOf (fun _ => some (0, 0)) i).toArray 55))) := Lib.hid (HB3.out.alloc HB3.out.size _)
      have LT3 : Hid (w.heap.size < w3.heap.size) := Lib.hid hg3.lt
      clear hg3 hg4 HB2 HG1 HG
      go_wp2
      clear m1
      go_loopw [47] (fun x wq => ∃ t : Nat, t ≤ i ∧ x = .int .i64 (t : Int) ∧ IntsLie wq w.heap.size g' i ∧ RowIs wq w3.heap.size 55 (fun j => if j < t then zval (some (P (J j))) else zval (some (0, 0))) i ∧ Below w.heap.size w wq) (fun x _ => i - (intOf x).toNat)
      case atStart => exact ⟨0, by omega, rfl, HG4.out, R0.out.congr fun j _ => by rw [if_neg (by omega)], HB4.out⟩
      case round =>
        clear R0 HG4 HB4
        obtain ⟨t, ht, rfl, hl, hr, hb⟩ := hrel
        have HL := Lib.hid hl
        have HR := Lib.hid hr
        have HB := Lib.hid hb
        clear hl hr hb
        by_cases hlt2 : t < i
        · have hc := HL.out.cell (i := t) hlt2
          obtain ⟨hj1, hj2⟩ := HJ.out t hlt2
          have hokj := HOK.out _ hj1
          obtain ⟨a, ea⟩ : ∃ a, a = (P (J t)).1 := ⟨_, rfl⟩
          obtain ⟨b, eb⟩ : ∃ b, b = (P (J t)).2 := ⟨_, rfl⟩
          have ha : a < 24 := by rw [ea]; exact hokj.1
          have hb : b < 16 := by rw [eb]; exact hokj.2
          obtain ⟨z, ez⟩ : ∃ z : Int, z = g' t := ⟨_, rfl⟩
          have hz : z = (a : Int) * 16 + b := by rw [ez, hj2]; unfold spotN; rw [← ea, ← eb]; omega
          have hq : IntKind.i64.wrap (z.tdiv 16) = (a : Int) := by rw [Int.tdiv_eq_ediv_of_nonneg (by omega)]; rw [show z / 16 = (a : Int) by omega]; exact IntWalk.i64_in _ (by omega)
          have hr : z.tmod 16 = (b : Int) := by rw [Int.tmod_eq_emod_of_nonneg (by omega)]; omega
          rw [← ez] at hc
          have c0 := HR.out.cell (i := t) hlt2
          rw [if_neg (by omega)] at c0
          have c0 : wr.cell? ⟨w3.heap.size, t, none⟩ = some (.complex .f64 (fl 0) (fl 0)) := c0
          have c1 := HR.out.free t
          have hst := store_complex
          have EV : Hid (Value.complex .f64 (floatOfInt .f64 (a : Int)) (floatOfInt .f64 (b : Int)) = zval (some (P (J t)))) := Lib.hid (by rw [show P (J t) = (a, b) from Prod.ext ea.symm eb.symm]; rfl)
          clear hj1 hj2 hokj ea eb ez hz
          go_wp2_with fail
          with_reducible refine (compose_int _ _ _).mono ?_
          rintro e w' ⟨rfl, rfl⟩
          obtain ⟨X, eX⟩ : ∃ X, X = floatOfInt .f64 (a : Int) := ⟨_, rfl⟩
          obtain ⟨Y, eY⟩ : ∃ Y, Y = floatOfInt .f64 (b : Int) := ⟨_, rfl⟩
          rw [← eX, ← eY] at EV ⊢
          clear eX eY hq hr
          go_wp2
          clear c0 c1 hst hc
          go_roundw
          case rel => exact ⟨t + 1, by omega, by go_num, (HL.out.below ((Below.refl w3.heap.size w').setCell (p := ⟨w3.heap.size, t, none⟩) (Nat.le_refl _) _) LT3.out), HR.out.set_ (fun _ => by rw [if_pos (by omega)]; exact EV.out) (fun j _ hj => by
            by_cases h5 : j < t
            · rw [if_pos h5, if_pos (by omega)]
            · rw [if_neg h5, if_neg (by omega)]), HB.out.setCell (p := ⟨w3.heap.size, t, none⟩) (Nat.le_of_lt LT3.out) _⟩
          case measure => simp [intOf]; omega
        · obtain rfl : t = i := by omega
          go_wp2
          go_ret2
          exact ⟨w3.heap.size, fun j => P (J j), rfl, HR.out.congr fun j hj => by rw [if_pos hj], fun j hj => ⟨J j, (HJ.out j hj).1, rfl⟩, HS.out, HB.out⟩
end Go.Proofs.YtdocclkphffpkaaGreat
