
/- What the document's own functions of layer 4 answer. -/
import Derived.Test.YtmgeifolgdgapaaMerge3
namespace Go.Proofs.Ytmgeifolgdgapaa
open Go.RowKit

theorem limit_any (k : Nat) (K : Int) (hK : K = (k : Int)) (w : World) (h4 : k ≤ 4) :
    Calls Try.prog 39 #[.int .i64 K] w fun e w' => e = .returned (.int .i64 ((256 ^ k : Nat) : Int)) ∧ w = w' := by
  subst hK
  go_enter Try.func39, Try.ntmps39
  go_wp2
  go_loop [3, 4] (fun x y => ∃ i : Nat, i ≤ k ∧ x = .int .i64 ((256 ^ i : Nat) : Int) ∧ y = .int .i64 (i : Int)) (fun _ y => k - (intOf y).toNat)
  case atStart => exact ⟨0, by omega, rfl, rfl⟩
  case round =>
    obtain ⟨i, hi, rfl, rfl⟩ := hrel
    obtain ⟨p, hp⟩ : ∃ p, p = 256 ^ i := ⟨_, rfl⟩
    have hpl : p ≤ 4294967296 := by rw [hp]; exact pow_le_four (by omega)
    rw [← hp]
    have HP := Lib.hid hp
    clear hp
    by_cases hk : i < k
    · go_wp2
      go_round
      case rel => exact ⟨i + 1, by omega, by rw [Nat.pow_succ, ← HP.out]; go_num, by go_num⟩
      case measure => simp [intOf]; omega
    · obtain rfl : i = k := by omega
      go_wp2
      go_ret
      exact ⟨by simp [HP.out], rfl⟩

theorem refPut_arg (v : Value) (s n : Int) (w : World) (h : ¬ (1 ≤ s ∧ s ≤ 4)) :
    Calls Try.prog 25 #[v, .int .i64 s, .int .i64 n] w fun e w' => e = .returned (.tuple #[.slice none 0 0, .int .i64 1]) ∧ w = w' := by
  by_cases h1 : s < 1
  · go_enter Try.func25, Try.ntmps25
    go_wp2
    go_ret2
    exact ⟨rfl, rfl⟩
  · have h2 : 4 < s := by omega
    go_enter Try.func25, Try.ntmps25
    go_wp2
    go_ret2
    exact ⟨rfl, rfl⟩

theorem refPut_range (v : Value) (k : Nat) (n : Int) (w : World) (h1 : 1 ≤ k) (h4 : k ≤ 4) (h : ¬ (0 ≤ n ∧ n < ((256 ^ k : Nat) : Int))) :
    Calls Try.prog 25 #[v, .int .i64 (k : Int), .int .i64 n] w fun e w' => e = .returned (.tuple #[.slice none 0 0, .int .i64 5]) ∧ w = w' := by
  have d1 : decide ((k : Int) < 1) = false := by simp; omega
  have d4 : decide ((4 : Int) < (k : Int)) = false := by simp; omega
  by_cases h0 : n < 0
  · clear h
    go_enter Try.func25, Try.ntmps25
    go_wp2
    go_ret2
    exact ⟨rfl, rfl⟩
  · have d0 : decide (n < 0) = false := by simp; omega
    have d5 : ((256 ^ k : Nat) : Int) ≤ n := by omega
    have HL := Lib.hid d5
    clear h d5
    go_enter Try.func25, Try.ntmps25
    go_wp2_with fail
    with_reducible refine (limit_any k _ rfl _ h4).mono ?_
    rintro e w' ⟨rfl, rfl⟩
    obtain ⟨p, hp⟩ : ∃ p : Int, p = ((256 ^ k : Nat) : Int) := ⟨_, rfl⟩
    rw [← hp]
    have hl := HL.out
    rw [← hp] at hl
    clear hp
    go_wp2
    go_ret2
    exact ⟨rfl, rfl⟩

/-- How the document's loop stands: t digits are behind the bytes. -/
def PutLoop (f : Nat → Nat) (m n k t : Nat) (w : World) (v : Value) (wr : World) : Prop :=
  Own wr w.heap.size v (m + t) (behind f m (dig n k)) ∧ Below w.heap.size w wr

theorem byte_quo {n k t p x y : Nat} (hp : p = 256 ^ (k - 1 - t)) (hx : x = n / p) (hy : y = dig n k t) : (x : Int) % 256 = (y : Int) := by
  rw [hy, hx, hp]
  unfold dig
  simp

set_option maxRecDepth 100000 in
theorem refPut_own (v : Value) (m : Nat) (f : Nat → Nat) (k n : Nat) (w : World) (h1 : 1 ≤ k) (h4 : k ≤ 4) (hn : n < 256 ^ k) (hv : Reads w v m f) (hm : m + k ≤ 140737488355328) :
    Calls Try.prog 25 #[v, .int .i64 (k : Int), .int .i64 (n : Int)] w fun e w' => ∃ u, e = .returned (.tuple #[u, .int .i64 0]) ∧ Own w' w.heap.size u (m + k) (behind f m (dig n k)) ∧ Below w.heap.size w w' := by
  obtain ⟨A, c, rfl, p1, p2, p3, p4⟩ := hv
  have d1 : decide ((k : Int) < 1) = false := by simp; omega
  have d4 : decide ((4 : Int) < (k : Int)) = false := by simp; omega
  have d0 : decide ((n : Int) < 0) = false := by simp
  have hnl : n < 4294967296 := by
    have := pow_le_four h4
    omega
  have hb0 : Below w.heap.size w (w.alloc (.cells #[] 5)) := (Below.refl _ _).alloc (Nat.le_refl _) _
  obtain ⟨v1, w1, r1, o1, _, g1⟩ := run_bytes (c := c) 28 (own_new w f) (p4.below hb0) p3 (by omega) hb0.size
  have hb1 : Below w.heap.size w w1 := (own_new w f).grown_below hb0 (Nat.le_refl _) hb0.size g1
  rw [Nat.zero_add] at o1
  have O1 : Hid (Own w1 w.heap.size v1 m (behind f m (dig n k))) := Lib.hid (o1.congr fun i hi => by rw [behind_high (Nat.zero_le _), behind_low hi]; rfl)
  have R1 := Lib.hid r1
  have B1 := Lib.hid hb1
  have HN := Lib.hid hn
  clear r1 o1 hb1 hb0 g1 p4 hn
  go_enter Try.func25, Try.ntmps25
  go_wp2_with fail
  with_reducible refine (limit_any k _ rfl _ h4).mono ?_
  rintro e w' ⟨rfl, rfl⟩
  obtain ⟨p, hp⟩ : ∃ p : Nat, p = 256 ^ k := ⟨_, rfl⟩
  rw [← hp]
  have hl := HN.out
  rw [← hp] at hl
  clear hp
  go_wp2_with (at_builtin; refine Lib.wpList_append_run _ rfl (.tmp 24) (.tmp 25) _ _ rfl _ _ rfl rfl _ _ R1.out ?_)
  go_loopw [8, 9] (fun v x wr => ∃ t : Nat, t ≤ k ∧ x = .int .i64 ((k : Int) - 1 - (t : Int)) ∧ PutLoop f m n k t w v wr) (fun _ x _ => (1 + intOf x).toNat)
  case atStart => exact ⟨0, by omega, by go_num, O1.out, B1.out⟩
  case round =>
    clear O1 B1 R1 hl
    obtain ⟨t, ht, rfl, ho, hb⟩ := hrel
    have HO := Lib.hid ho
    have HB := Lib.hid hb
    clear ho hb
    by_cases hk : t < k
    · have hd : decide ((t : Int) ≤ (k : Int) - 1) = true := by simp; omega
      go_wp2_with fail
      with_reducible refine (limit_any (k - 1 - t) _ (by omega) _ (by omega)).mono ?_
      rintro e w' ⟨rfl, rfl⟩
      obtain ⟨p, hp⟩ : ∃ p : Nat, p = 256 ^ (k - 1 - t) := ⟨_, rfl⟩
      rw [← hp]
      have hp0 : ¬ (p : Int) = 0 := by
        have := Nat.pow_pos (n := k - 1 - t) (show 0 < 256 by omega)
        omega
      have hpl : p ≤ 4294967296 := by rw [hp]; exact pow_le_four (by omega)
      obtain ⟨y, ey⟩ : ∃ y, y = dig n k t := ⟨_, rfl⟩
      obtain ⟨x, ex⟩ : ∃ x, x = n / p := ⟨_, rfl⟩
      have hq : (n : Int) / (p : Int) = (x : Int) := by rw [ex]; simp
      have hxl : x ≤ 4294967295 := by
        rw [ex]
        exact Nat.le_trans (Nat.div_le_self _ _) (by omega)
      have hs := byte_quo hp ex ey
      clear ex
      have hy : y < 256 := by rw [ey]; exact dig_lt _ _ _
      have EY := Lib.hid ey
      clear ey hp
      have hbx : Below w.heap.size w (wr.alloc (.cells #[.int .u8 (y : Int)] 5)) := HB.out.alloc HB.out.size _
      obtain ⟨v2, w2, r2, o2, _, g2⟩ := run_bytes (c := 1) 28 (HO.out.alloc (.cells #[.int .u8 (y : Int)] 5)) (one_new wr hy) (by intro e; cases e) (by omega) hbx.size
      have hb2 : Below w.heap.size w w2 := (HO.out.alloc (.cells #[.int .u8 (y : Int)] 5)).grown_below hbx (Nat.le_refl _) hbx.size g2
      have o3 : Own w2 w.heap.size v2 (m + (t + 1)) (behind f m (dig n k)) := Own.congr (n := m + t + 1) o2 fun i hi => by
        by_cases h5 : i < m + t
        · rw [behind_low h5]
        · obtain rfl : i = m + t := by omega
          rw [behind_high (Nat.le_refl _), behind_high (by omega), EY.out]
          congr 1
          omega
      have R2 := Lib.hid r2
      have O3 := Lib.hid o3
      have B2 := Lib.hid hb2
      clear r2 o2 o3 hb2 g2 hbx
      go_wp2_with (at_builtin; refine Lib.wpList_append_run _ rfl (.tmp 33) (.tmp 40) _ _ rfl _ _ rfl rfl _ _ R2.out ?_)
      clear hs
      go_roundw
      case rel => exact ⟨t + 1, by omega, by go_num, O3.out, B2.out⟩
      case measure => simp [intOf]; omega
    · obtain rfl : t = k := by omega
      go_wp2
      go_ret2
      exact ⟨_, rfl, HO.out, HB.out⟩
theorem refPut_ok (v : Value) (m : Nat) (f : Nat → Nat) (k n : Nat) (w : World) (h1 : 1 ≤ k) (h4 : k ≤ 4) (hn : n < 256 ^ k) (hv : Reads w v m f) (hm : m + k ≤ 140737488355328) :
    Calls Try.prog 25 #[v, .int .i64 (k : Int), .int .i64 (n : Int)] w (Bears (m + k) (behind f m (dig n k)) w) := by
  obtain ⟨A, c, rfl, _, _, _, p4⟩ := id hv
  refine Calls.mono (refPut_own _ m f k n w h1 h4 hn hv hm) fun e w' hx => ?_
  obtain ⟨u, he, ho, hb⟩ := hx
  exact ⟨u, he, ho.reads (behind_lt p4.small (fun _ _ => dig_lt _ _ _)), hb⟩

end Go.Proofs.Ytmgeifolgdgapaa
