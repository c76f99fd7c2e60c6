/- The document's own way of comparing two quotients, by what is left over again and again: it is the sign of the difference of the products. -/
import Derived.Test.YtiolhdilfjomcaaRatioWalks
import Derived.Test.YtiolhdilfjomcaaLawKit
namespace Go.Proofs.Ytiolhdilfjomcaa
open Go.RowKit

/-- How the loop stands: what is left, with the sign, is the answer. -/
def Euc (R : Int) (w : World) (a b c d s : Value) (wr : World) : Prop :=
  ∃ (x y u v t : Int) (n : Nat), a = .int .i64 x ∧ b = .int .i64 y ∧ c = .int .i64 u ∧ d = .int .i64 v ∧ s = .int .i64 t ∧ Fit x y ∧ Fit u v ∧
    -1 ≤ t ∧ t ≤ 1 ∧ t * rel x y u v = R ∧ w.drewN n = wr

theorem refCompare_yes (a b c d : Int) (w : World) (h : Fit a b) (k : Fit c d) :
    Calls Try.prog 19 #[.int .i64 a, .int .i64 b, .int .i64 c, .int .i64 d] w (Drawn (.tuple #[.int .i64 (rel a b c d), .int .i64 0]) w) := by
  obtain ⟨R, hR⟩ : ∃ R, R = rel a b c d := ⟨_, rfl⟩
  rw [← hR]
  have HR := Lib.hid hR
  clear hR
  have h' := h
  have k' := k
  obtain ⟨h0, h1, h2, h3⟩ := h'
  obtain ⟨k0, k1, k2, k3⟩ := k'
  go_enter Try.func19, Try.ntmps19
  go_wp2_with fail
  refine (may_yes a b _ h0 h1 h2 h3).mono ?_
  rintro e w' ⟨rfl, rfl⟩
  go_wp2_with fail
  refine (may_yes c d _ k0 k1 k2 k3).mono ?_
  rintro e w' ⟨rfl, rfl⟩
  go_wp2
  clear h0 h1 h2 h3 k0 k1 k2 k3
  go_loopw [0, 1, 2, 3, 10] (fun a b c d s wr => Euc R w a b c d s wr) (fun _ b _ _ _ _ => (intOf b).toNat)
  case atStart => exact ⟨a, b, c, d, 1, 0, rfl, rfl, rfl, rfl, rfl, h, k, by omega, by omega, by rw [HR.out]; omega, rfl⟩
  case round =>
    obtain ⟨x, y, u, v, t, n, rfl, rfl, rfl, rfl, rfl, ⟨x0, x1, y0, y1⟩, ⟨u0, u1, v0, v1⟩, t0, t1, he, hw⟩ := hrel
    have HW := Lib.hid hw
    clear hw
    clear h k HR
    have HE := Lib.hid he
    clear he
    obtain ⟨p, hp⟩ : ∃ p, p = x / y := ⟨_, rfl⟩
    obtain ⟨q, hq⟩ : ∃ q, q = u / v := ⟨_, rfl⟩
    have p0 : 0 ≤ p := by rw [hp]; exact Int.ediv_nonneg x0 (by omega)
    have q0 : 0 ≤ q := by rw [hq]; exact Int.ediv_nonneg u0 (by omega)
    have p1 : p ≤ x := by rw [hp]; exact Int.ediv_le_self _ x0
    have q1 : q ≤ u := by rw [hq]; exact Int.ediv_le_self _ u0
    have r := rest_bd (a := x) (b := y) (by omega) x0
    have s := rest_bd (a := u) (b := v) (by omega) u0
    rw [← hp] at r
    rw [← hq] at s
    obtain ⟨r0, r1, r2⟩ := r
    obtain ⟨s0, s1, s2⟩ := s
    have hy : ¬ y = 0 := by omega
    have hv : ¬ v = 0 := by omega
    have wp : IntKind.i64.wrap (x.tdiv y) = p := by rw [Int.tdiv_eq_ediv_of_nonneg x0, ← hp]; exact IntWalk.i64_in _ (by omega)
    have wq : IntKind.i64.wrap (u.tdiv v) = q := by rw [Int.tdiv_eq_ediv_of_nonneg u0, ← hq]; exact IntWalk.i64_in _ (by omega)
    have HP := Lib.hid hp
    have HQ := Lib.hid hq
    clear hp hq
    by_cases hlt : p < q
    · have HF := Lib.hid (rel_lt (a := x) (b := y) (c := u) (d := v) (by omega) (by omega) (by rw [← HP.out, ← HQ.out]; exact hlt))
      go_wp2
      go_quiet (fail)
      go_wp2
      go_ret2
      refine drawn_end HW.out ?_
      rw [← HE.out, HF.out]
      simp
    · by_cases hgt : q < p
      · have HF := Lib.hid (rel_gt (a := x) (b := y) (c := u) (d := v) (by omega) (by omega) (by rw [← HP.out, ← HQ.out]; exact hgt))
        go_wp2
        go_quiet (fail)
        go_wp2
        go_ret2
        refine drawn_end HW.out ?_
        rw [← HE.out, HF.out]
        simp
      · obtain rfl : q = p := by omega
        have hf := rel_rest (a := x) (b := y) (c := u) (d := v) (by rw [← HP.out, ← HQ.out])
        have hg := rel_round (a := x) (b := y) (c := u) (d := v) (by rw [← HP.out, ← HQ.out])
        rw [← HP.out, ← HQ.out] at hf hg
        have HF := Lib.hid hf
        have HG := Lib.hid hg
        clear hf hg
        clear hlt hgt
        have m0 : 0 ≤ q * y := Int.mul_nonneg q0 (by omega)
        have m1 : 0 ≤ q * v := Int.mul_nonneg q0 (by omega)
        by_cases hx : x - q * y = 0
        · have X := Lib.hid hx
          have hx' : (x - q * y == 0) = true := by simp [hx]
          clear hx
          by_cases hu : u - q * v = 0
          · have U := Lib.hid hu
            have hu' : (u - q * v == 0) = true := by simp [hu]
            clear hu
            go_wp2
            go_quiet (fail)
            go_wp2
            go_ret2
            refine drawn_end HW.out ?_
            rw [← HE.out, ← HF.out, rel_end_eq X.out U.out]
            simp
          · have hu' : (u - q * v == 0) = false := by simp [hu]
            go_wp2
            go_quiet (fail)
            go_wp2
            go_ret2
            refine drawn_end HW.out ?_
            rw [← HE.out, ← HF.out, rel_end_lt X.out (by omega) (by omega)]
            simp
        · have hx' : (x - q * y == 0) = false := by simp [hx]
          by_cases hu : u - q * v = 0
          · have U := Lib.hid hu
            have hu' : (u - q * v == 0) = true := by simp [hu]
            clear hu
            go_wp2
            go_quiet (fail)
            go_wp2
            go_ret2
            refine drawn_end HW.out ?_
            rw [← HE.out, ← HF.out, rel_end_gt (by omega) U.out (by omega)]
            simp
          · have hu' : (u - q * v == 0) = false := by simp [hu]
            go_wp2
            go_quiet (fail)
            go_wp2
            go_roundw
            case rel => exact ⟨y, x - q * y, v, u - q * v, -t, n + _, rfl, rfl, rfl, rfl, rfl, ⟨by omega, by omega, by omega, by omega⟩, ⟨by omega, by omega, by omega, by omega⟩, by omega, by omega, by rw [HG.out, Int.neg_mul_neg]; exact HE.out, by rw [← HW.out, World.drewN_drewN]⟩
            case measure => simp [intOf]; omega

theorem refCompare_no (a b c d : Int) (w : World) (h : ¬ (Fit a b ∧ Fit c d)) :
    Calls Try.prog 19 #[.int .i64 a, .int .i64 b, .int .i64 c, .int .i64 d] w fun e w' => e = .returned (.tuple #[.int .i64 0, .int .i64 1]) ∧ w = w' := by
  by_cases h1 : Fit a b
  · have h2 : ¬ Fit c d := fun k => h ⟨h1, k⟩
    obtain ⟨h3, h4, h5, h6⟩ := h1
    clear h
    go_enter Try.func19, Try.ntmps19
    go_wp2_with fail
    refine (may_yes a b _ h3 h4 h5 h6).mono ?_
    rintro e w' ⟨rfl, rfl⟩
    go_wp2_with fail
    refine (may_no c d _ h2).mono ?_
    rintro e w' ⟨rfl, rfl⟩
    go_wp2
    go_ret2
    exact ⟨rfl, rfl⟩
  · clear h
    go_enter Try.func19, Try.ntmps19
    go_wp2_with fail
    refine (may_no a b _ h1).mono ?_
    rintro e w' ⟨rfl, rfl⟩
    go_wp2
    go_ret2
    exact ⟨rfl, rfl⟩

/-- May a segment's numbers be? -/
def Seg (live blocks age : Int) : Prop := 2 ≤ blocks ∧ blocks ≤ 16 ∧ 0 ≤ live ∧ live ≤ blocks ∧ 0 ≤ age ∧ age ≤ 65535
instance (l b a : Int) : Decidable (Seg l b a) := by unfold Seg; infer_instance

theorem seg_bd {live blocks age : Int} (h : Seg live blocks age) : 0 ≤ (blocks - live) * (age + 1) ∧ (blocks - live) * (age + 1) ≤ 1048576 := by
  obtain ⟨h0, h1, h2, h3, h4, h5⟩ := h
  refine ⟨Int.mul_nonneg (by omega) (by omega), ?_⟩
  have := Int.mul_le_mul (a := blocks - live) (c := 16) (b := age + 1) (d := 65536) (by omega) (by omega) (by omega) (by omega)
  omega

theorem score_yes (live blocks age : Int) (w : World) (h : Seg live blocks age) :
    Calls Try.prog 22 #[.int .i64 live, .int .i64 blocks, .int .i64 age] w fun e w' => e = .returned (.tuple #[.int .i64 ((blocks - live) * (age + 1)), .int .i64 (blocks + live), .int .i64 0]) ∧ w = w' := by
  obtain ⟨m0, m1⟩ := seg_bd h
  obtain ⟨h0, h1, h2, h3, h4, h5⟩ := h
  go_enter Try.func22, Try.ntmps22
  go_wp2
  go_ret3
  exact ⟨rfl, rfl⟩

theorem refScore_yes (live blocks age : Int) (w : World) (h : Seg live blocks age) :
    Calls Try.prog 18 #[.int .i64 live, .int .i64 blocks, .int .i64 age] w fun e w' => e = .returned (.tuple #[.int .i64 ((blocks - live) * (age + 1)), .int .i64 (blocks + live), .int .i64 0]) ∧ w = w' := by
  obtain ⟨m0, m1⟩ := seg_bd h
  obtain ⟨h0, h1, h2, h3, h4, h5⟩ := h
  go_enter Try.func18, Try.ntmps18
  go_wp2
  go_ret3
  exact ⟨rfl, rfl⟩

/-- The first of a segment's numbers that may not be. -/
theorem seg_no {live blocks age : Int} (h : ¬ Seg live blocks age) :
    blocks < 2 ∨ (2 ≤ blocks ∧ 16 < blocks) ∨ (2 ≤ blocks ∧ blocks ≤ 16 ∧ live < 0) ∨ (2 ≤ blocks ∧ blocks ≤ 16 ∧ 0 ≤ live ∧ blocks < live) ∨
    (2 ≤ blocks ∧ blocks ≤ 16 ∧ 0 ≤ live ∧ live ≤ blocks ∧ age < 0) ∨ (2 ≤ blocks ∧ blocks ≤ 16 ∧ 0 ≤ live ∧ live ≤ blocks ∧ 0 ≤ age ∧ 65535 < age) := by
  unfold Seg at h; omega

theorem score_no (live blocks age : Int) (w : World) (h : ¬ Seg live blocks age) :
    Calls Try.prog 22 #[.int .i64 live, .int .i64 blocks, .int .i64 age] w fun e w' => e = .returned (.tuple #[.int .i64 0, .int .i64 0, .int .i64 1]) ∧ w = w' := by
  rcases seg_no h with h0 | ⟨h0, h1⟩ | ⟨h0, h1, h2⟩ | ⟨h0, h1, h2, h3⟩ | ⟨h0, h1, h2, h3, h4⟩ | ⟨h0, h1, h2, h3, h4, h5⟩ <;> clear h
  all_goals
    go_enter Try.func22, Try.ntmps22
    go_wp2
    go_ret3
    exact ⟨rfl, rfl⟩

theorem refScore_no (live blocks age : Int) (w : World) (h : ¬ Seg live blocks age) :
    Calls Try.prog 18 #[.int .i64 live, .int .i64 blocks, .int .i64 age] w fun e w' => e = .returned (.tuple #[.int .i64 0, .int .i64 0, .int .i64 1]) ∧ w = w' := by
  rcases seg_no h with h0 | ⟨h0, h1⟩ | ⟨h0, h1, h2⟩ | ⟨h0, h1, h2, h3⟩ | ⟨h0, h1, h2, h3, h4⟩ | ⟨h0, h1, h2, h3, h4, h5⟩ <;> clear h
  all_goals
    go_enter Try.func18, Try.ntmps18
    go_wp2
    go_ret3
    exact ⟨rfl, rfl⟩

end Go.Proofs.Ytiolhdilfjomcaa
