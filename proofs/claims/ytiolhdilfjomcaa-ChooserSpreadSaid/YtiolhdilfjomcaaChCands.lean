/- The list of the candidates, and what of a list stands at these places. -/
import Derived.Test.YtiolhdilfjomcaaChScores
namespace Go.Proofs.Ytiolhdilfjomcaa
open Go.RowKit

theorem cands_any (s b : Int) (A B : Option Addr) (n m c d : Nat) (L K : Nat → Int) (w : World) (H : Hid (IntsAt w A n L)) (J : Hid (IntsAt w B m K)) (hn : n ≤ 24) (hm : m ≤ 9223372036854775807) :
    Calls Try.prog 14 #[.agg #[.int .i64 s, .int .i64 b], .slice A n c, .slice B m d] w
      fun e w' => ∃ v, e = .returned v ∧ Below w.heap.size w w' ∧ OwnI w' w.heap.size v (many (cand L K b m) n) (fun j => (nth (cand L K b m) n j : Int)) := by
  obtain ⟨w1, hw1⟩ : ∃ w1, w1 = w.alloc (.cells #[.int .i64 s, .int .i64 b] 23) := ⟨_, rfl⟩
  have hb : Below w.heap.size w w1 := by rw [hw1]; exact boxed _ _
  have c1 : w1.cell? ⟨w.heap.size, 1, none⟩ = some (.int .i64 b) := by rw [hw1]; exact geo_b (Below.refl _ _)
  have C1 := Lib.hid c1
  have HB := Lib.hid hb
  have H1 : Hid (IntsAt w1 A n L) := Lib.hid (H.out.below hb)
  have J1 : Hid (IntsAt w1 B m K) := Lib.hid (J.out.below hb)
  clear H J hb c1
  go_enter Try.func14, Try.ntmps14
  go_wp2
  go_step3
  go_wp2
  go_step3
  go_wp2
  rw [← hw1]
  clear hw1
  go_loopw [7, 14] (fun v x wr => ∃ i : Nat, i ≤ n ∧ x = .int .i64 (i : Int) ∧ OwnI wr w1.heap.size v (many (cand L K b m) i) (fun j => (nth (cand L K b m) n j : Int)) ∧ Below w1.heap.size w1 wr) (fun _ x _ => n - (intOf x).toNat)
  case atStart => exact ⟨0, by omega, rfl, owni_none _ _ _, Below.refl _ _⟩
  case round =>
    obtain ⟨i, hi, rfl, ho, hb⟩ := hrel
    have HO := Lib.hid ho
    have BB := Lib.hid hb
    clear ho hb
    by_cases hin : i < n
    · obtain ⟨ad, rfl⟩ := H1.out.addr (by omega)
      have hc := cell_later BB.out (H1.out.at_ hin)
      obtain ⟨z, ez⟩ : ∃ z, z = L i := ⟨_, rfl⟩
      rw [← ez] at hc
      have EZ := Lib.hid ez
      clear ez
      go_wp2
      clear hc
      go_loop [21] (fun x => ∃ k : Nat, k ≤ m ∧ x = .int .i64 (k : Int) ∧ isIn K i k = false) (fun x => m - (intOf x).toNat)
      case atStart => exact ⟨0, by omega, rfl, rfl⟩
      case round =>
        obtain ⟨k, hk, rfl, hno⟩ := hrel
        have HN := Lib.hid hno
        clear hno
        by_cases hkm : k < m
        · obtain ⟨bd, rfl⟩ := J1.out.addr (by omega)
          have hd := cell_later BB.out (J1.out.at_ hkm)
          obtain ⟨y, ey⟩ : ∃ y, y = K k := ⟨_, rfl⟩
          rw [← ey] at hd
          by_cases he : y = (i : Int)
          · have hp : Hid (¬ cand L K b m i = true) := Lib.hid (by rw [cand_in (isIn_hit hkm (by rw [← ey]; exact he))]; simp)
            clear ey
            subst he
            go_wp2
            clear hd
            go_roundw
            case rel => exact ⟨i + 1, by omega, by go_num, by rw [many_stays hp.out]; exact HO.out, BB.out⟩
            case measure => simp [intOf]; omega
          · have hq : ((i : Int) == y) = false := by simp; omega
            have HK : Hid (isIn K i (k + 1) = false) := Lib.hid (isIn_up HN.out (by rw [← ey]; exact he))
            clear ey he
            go_wp2
            clear hd hq
            go_round
            case rel => exact ⟨k + 1, by omega, by go_num, HK.out⟩
            case measure => simp [intOf]; omega
        · obtain rfl : k = m := by omega
          have c1 := cell_later BB.out C1.out
          by_cases z0 : 0 < z
          · by_cases z1 : z < b
            · have hp : cand L K b k i = true := cand_yes HN.out (by rw [← EZ.out]; exact z0) (by rw [← EZ.out]; exact z1)
              have hl := many_le (cand L K b k) i
              obtain ⟨v2, w2, r2, o2, g2, _⟩ := run_int_at (z := (i : Int)) 24 HO.out (by rw [nth_at hin hp]) (by omega) BB.out.size
              have hb2 : Below w1.heap.size w1 w2 := (HO.out.alloc (.cells #[.int .i64 (i : Int)] 3)).below (BB.out.alloc BB.out.size _) (Nat.le_refl _) (by have := BB.out.size; simp; omega) g2
              have P := Lib.hid hp
              have R2 := Lib.hid r2
              have O2 := Lib.hid o2
              have B2 := Lib.hid hb2
              clear r2 o2 hb2 g2 hp hl
              go_wp2_with (at_builtin; refine Lib.wpList_append_run _ rfl (.tmp 37) (.tmp 39) _ _ rfl _ _ rfl rfl _ _ R2.out ?_)
              clear c1
              go_roundw
              case rel => exact ⟨i + 1, by omega, by go_num, by rw [many_up P.out]; exact O2.out, B2.out⟩
              case measure => simp [intOf]; omega
            · have hp : Hid (¬ cand L K b k i = true) := Lib.hid (by rw [cand_full (by rw [← EZ.out]; exact z1)]; simp)
              have d1 : decide (z < b) = false := decide_eq_false z1
              go_wp2
              clear c1 d1
              go_roundw
              case rel => exact ⟨i + 1, by omega, by go_num, by rw [many_stays hp.out]; exact HO.out, BB.out⟩
              case measure => simp [intOf]; omega
          · have hp : Hid (¬ cand L K b k i = true) := Lib.hid (by rw [cand_low (by rw [← EZ.out]; exact z0)]; simp)
            have d0 : decide (0 < z) = false := decide_eq_false z0
            go_wp2
            clear c1 d0
            go_roundw
            case rel => exact ⟨i + 1, by omega, by go_num, by rw [many_stays hp.out]; exact HO.out, BB.out⟩
            case measure => simp [intOf]; omega
    · obtain rfl : i = n := by omega
      go_wp2
      rw [Exit.noGoto_ret]
      go_ret
      exact ⟨_, rfl, HB.out.trans (BB.out.mono HB.out.size), HO.out.less HB.out.size⟩

/-- What those answers: the numbers at these places. -/
theorem those_any (A B : Option Addr) (n l c d : Nat) (X : Nat → Int) (C : Nat → Nat) (w : World) (H : Hid (IntsAt w A n X)) (J : Hid (IntsAt w B l (fun j => (C j : Int)))) (hl : l ≤ 24) (hn : n ≤ 24) (hC : ∀ j, j < l → C j < n) :
    Calls Try.prog 16 #[.slice A n c, .slice B l d] w
      fun e w' => ∃ g, e = .returned (.slice (some ⟨g, 0, none⟩) l l) ∧ Below w.heap.size w w' ∧ IntsLie w' g (fun j => X (C j)) l := by
  have HC := Lib.hid hC
  have hm := make_ints l (by omega)
  clear hC
  go_enter Try.func16, Try.ntmps16
  go_wp2
  clear hm
  have hl0 : IntsLie (w.alloc (.cells (intsOf (fun _ => 0) l).toArray 3)) w.heap.size (fun j => if j < 0 then X (C j) else 0) l := made_ints w l
  obtain ⟨w1, hw1⟩ : ∃ w1, w1 = w.alloc (.cells (intsOf (fun _ => 0) l).toArray 3) := ⟨_, rfl⟩
  have hb : Below w.heap.size w w1 := by rw [hw1]; exact boxed _ _
  rw [← hw1] at hl0
  rw [← hw1]
  have HL0 := Lib.hid hl0
  have HB0 := Lib.hid hb
  clear hw1 hl0 hb
  go_loopw [13] (fun x wr => ∃ i : Nat, i ≤ l ∧ x = .int .i64 (i : Int) ∧ IntsLie wr w.heap.size (fun j => if j < i then X (C j) else 0) l ∧ Below w.heap.size w wr) (fun x _ => l - (intOf x).toNat)
  case atStart => exact ⟨0, by omega, rfl, HL0.out, HB0.out⟩
  case round =>
    clear HL0 HB0
    obtain ⟨i, hi, rfl, ho, hb⟩ := hrel
    have HO := Lib.hid ho
    have BB := Lib.hid hb
    clear ho hb
    by_cases hil : i < l
    · obtain ⟨bd, rfl⟩ := J.out.addr (by omega)
      have hk := HC.out i hil
      obtain ⟨ad, rfl⟩ := H.out.addr (by omega)
      have hc := cell_later BB.out (J.out.at_ hil)
      have hd := cell_later BB.out (H.out.at_ hk)
      obtain ⟨q, eq⟩ : ∃ q, q = C i := ⟨_, rfl⟩
      obtain ⟨x, ex⟩ : ∃ x, x = X q := ⟨_, rfl⟩
      rw [← eq] at hc hd hk
      rw [← ex] at hd
      have EX : Hid (x = X (C i)) := Lib.hid (by rw [ex, eq])
      clear ex eq
      have hf := HO.out.free i
      have hz := HO.out.cell hil
      have hs : IntsLie (wr.setCell ⟨w.heap.size, i, none⟩ (.int .i64 x)) w.heap.size (fun j => if j < i + 1 then X (C j) else 0) l :=
        HO.out.set_ hil (by rw [if_pos (by omega), EX.out]) (fun j hj => by
          by_cases h1 : j < i
          · rw [if_pos h1, if_pos (by omega)]
          · rw [if_neg h1, if_neg (by omega)])
      have hb2 : Below w.heap.size w (wr.setCell ⟨w.heap.size, i, none⟩ (.int .i64 x)) := BB.out.setCell (Nat.le_refl _) _
      have S2 := Lib.hid hs
      have B2 := Lib.hid hb2
      clear hs hb2
      go_wp2
      go_roundw
      case rel => exact ⟨i + 1, by omega, by go_num, S2.out, B2.out⟩
      case measure => simp [intOf]; omega
    · obtain rfl : i = l := by omega
      go_wp2
      go_ret
      exact ⟨_, rfl, BB.out, HO.out.congr fun j hj => by rw [if_pos hj]⟩
end Go.Proofs.Ytiolhdilfjomcaa
