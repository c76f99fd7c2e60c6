/- The document's put: a number behind bytes, in a row of its own. -/
import Derived.Test.YtdocclkphffpkaaGreatLfHead
import Derived.Lib.AppendStr
namespace Go.Proofs.YtdocclkphffpkaaGreat
open Go.RowKit

theorem limit_any (k : Nat) (K : Int) (hK : K = (k : Int)) (w : World) (h4 : k ≤ 4) :
    Calls Tryz.prog 87 #[.int .i64 K] w fun e w' => e = .returned (.int .i64 ((256 ^ k : Nat) : Int)) ∧ w = w' := by
  subst hK
  go_enter Tryz.func87, Tryz.ntmps87
  go_wp2
  go_loop [3, 4] (fun x y => ∃ i : Nat, i ≤ k ∧ x = .int .i64 ((256 ^ i : Nat) : Int) ∧ y = .int .i64 (i : Int)) (fun _ y => k - (intOf y).toNat)
  case atStart => exact ⟨0, by omega, rfl, rfl⟩
  case round =>
    obtain ⟨i, hi, rfl, rfl⟩ := hrel
    obtain ⟨p, hp⟩ : ∃ p, p = 256 ^ i := ⟨_, rfl⟩
    have hpl : p ≤ 4294967296 := by rw [hp]; exact pow_le_four (by omega)
    rw [← hp]
    have HP := Lib.hid hp
    clear hp
    by_cases hk : i < k
    · go_wp2
      go_round
      case rel => exact ⟨i + 1, by omega, by rw [Nat.pow_succ, ← HP.out]; go_num, by go_num⟩
      case measure => simp [intOf]; omega
    · obtain rfl : i = k := by omega
      go_wp2
      go_ret
      exact ⟨by simp [HP.out], rfl⟩

def PutLoop (f : Nat → Nat) (m n k t : Nat) (w : World) (v : Value) (wr : World) : Prop :=
  Own wr w.heap.size v (m + t) (behind f m (dig n k)) ∧ Below w.heap.size w wr

theorem byte_quo {n k t p x y : Nat} (hp : p = 256 ^ (k - 1 - t)) (hx : x = n / p) (hy : y = dig n k t) : (x : Int) % 256 = (y : Int) := by
  rw [hy, hx, hp]
  unfold dig
  simp

set_option maxRecDepth 20000 in
theorem refPut_own (v : Value) (m : Nat) (f : Nat → Nat) (k n : Nat) (w : World) (h1 : 1 ≤ k) (h4 : k ≤ 4) (hn : n < 256 ^ k) (hv : Reads w v m f) (hm : m + k ≤ 140737488355328) :
    Calls Tryz.prog 63 #[v, .int .i64 (k : Int), .int .i64 (n : Int)] w (Owns (m + k) (behind f m (dig n k)) w) := by
  obtain ⟨A, c, rfl, p1, p2, p3, p4⟩ := hv
  have d1 : decide ((k : Int) < 1) = false := by simp; omega
  have d4 : decide ((4 : Int) < (k : Int)) = false := by simp; omega
  have d0 : decide ((n : Int) < 0) = false := by simp
  have hnl : n < 4294967296 := by
    have := pow_le_four h4
    omega
  have F := Lib.hid p4.small
  have hb0 : Below w.heap.size w (w.alloc (.cells #[] 5)) := (Below.refl _ _).alloc (Nat.le_refl _) _
  obtain ⟨v1, w1, r1, o1, _, g1⟩ := run_bytes (c := c) 44 (own_new w f) (p4.below hb0) p3 (by omega) hb0.size
  have hb1 : Below w.heap.size w w1 := (own_new w f).grown_below hb0 (Nat.le_refl _) hb0.size g1
  rw [Nat.zero_add] at o1
  have O1 : Hid (Own w1 w.heap.size v1 m (behind f m (dig n k))) := Lib.hid (o1.congr fun i hi => by rw [behind_high (Nat.zero_le _), behind_low hi]; rfl)
  have R1 := Lib.hid r1
  have B1 := Lib.hid hb1
  have HN := Lib.hid hn
  clear r1 o1 hb1 hb0 g1 p4 hn
  go_enter Tryz.func63, Tryz.ntmps63
  go_wp2_with fail
  with_reducible refine (limit_any k _ rfl _ h4).mono ?_
  rintro e w' ⟨rfl, rfl⟩
  obtain ⟨p, hp⟩ : ∃ p : Nat, p = 256 ^ k := ⟨_, rfl⟩
  rw [← hp]
  have hl := HN.out
  rw [← hp] at hl
  clear hp
  go_wp2_with (at_builtin; refine Lib.wpList_append_run _ rfl (.tmp 24) (.tmp 25) _ _ rfl _ _ rfl rfl _ _ R1.out ?_)
  go_loopw [8, 9] (fun v x wr => ∃ t : Nat, t ≤ k ∧ x = .int .i64 ((k : Int) - 1 - (t : Int)) ∧ PutLoop f m n k t w v wr) (fun _ x _ => (1 + intOf x).toNat)
  case atStart => exact ⟨0, by omega, by go_num, O1.out, B1.out⟩
  case round =>
    clear O1 B1 R1 hl
    obtain ⟨t, ht, rfl, ho, hb⟩ := hrel
    have HO := Lib.hid ho
    have HB := Lib.hid hb
    clear ho hb
    by_cases hk : t < k
    · have hd : decide ((t : Int) ≤ (k : Int) - 1) = true := by simp; omega
      go_wp2_with fail
      with_reducible refine (limit_any (k - 1 - t) _ (by omega) _ (by omega)).mono ?_
      rintro e w' ⟨rfl, rfl⟩
      obtain ⟨p, hp⟩ : ∃ p : Nat, p = 256 ^ (k - 1 - t) := ⟨_, rfl⟩
      rw [← hp]
      have hp0 : ¬ (p : Int) = 0 := by
        have := Nat.pow_pos (n := k - 1 - t) (show 0 < 256 by omega)
        omega
      have hpl : p ≤ 4294967296 := by rw [hp]; exact pow_le_four (by omega)
      obtain ⟨y, ey⟩ : ∃ y, y = dig n k t := ⟨_, rfl⟩
      obtain ⟨x, ex⟩ : ∃ x, x = n / p := ⟨_, rfl⟩
      have hq : (n : Int) / (p : Int) = (x : Int) := by rw [ex]; simp
      have hxl : x ≤ 4294967295 := by
        rw [ex]
        exact Nat.le_trans (Nat.div_le_self _ _) (by omega)
      have hs := byte_quo hp ex ey
      clear ex
      have hy : y < 256 := by rw [ey]; exact dig_lt _ _ _
      have EY := Lib.hid ey
      clear ey hp
      have hbx : Below w.heap.size w (wr.alloc (.cells #[.int .u8 (y : Int)] 5)) := HB.out.alloc HB.out.size _
      obtain ⟨v2, w2, r2, o2, _, g2⟩ := run_bytes (c := 1) 44 (HO.out.alloc (.cells #[.int .u8 (y : Int)] 5)) (one_new wr hy) (by intro e; cases e) (by omega) hbx.size
      have hb2 : Below w.heap.size w w2 := (HO.out.alloc (.cells #[.int .u8 (y : Int)] 5)).grown_below hbx (Nat.le_refl _) hbx.size g2
      have o3 : Own w2 w.heap.size v2 (m + (t + 1)) (behind f m (dig n k)) := Own.congr (n := m + t + 1) o2 fun i hi => by
        by_cases h5 : i < m + t
        · rw [behind_low h5]
        · obtain rfl : i = m + t := by omega
          rw [behind_high (Nat.le_refl _), behind_high (by omega), EY.out]
          congr 1
          omega
      have R2 := Lib.hid r2
      have O3 := Lib.hid o3
      have B2 := Lib.hid hb2
      clear r2 o2 o3 hb2 g2 hbx
      go_wp2_with (at_builtin; refine Lib.wpList_append_run _ rfl (.tmp 33) (.tmp 40) _ _ rfl _ _ rfl rfl _ _ R2.out ?_)
      clear hs
      go_roundw
      case rel => exact ⟨t + 1, by omega, by go_num, O3.out, B2.out⟩
      case measure => simp [intOf]; omega
    · obtain rfl : t = k := by omega
      go_wp2
      go_ret2
      exact ⟨_, rfl, HO.out, HB.out⟩


theorem put_any (v : Value) (m : Nat) (f : Nat → Nat) (k n : Nat) (w : World) (h1 : 1 ≤ k) (h4 : k ≤ 4) (hn : n < 256 ^ k) (hv : Reads w v m f) (hm : m + k ≤ 140737488355328) :
    Calls Tryz.prog 40 #[v, .int .i64 (k : Int), .int .i64 (n : Int)] w fun e w' => ∃ g c, e = .returned (.slice (some ⟨g, 0, none⟩) (m + k) c) ∧ m + k ≤ c ∧ c ≤ 9223372036854775807 ∧ Own w' w.heap.size (.slice (some ⟨g, 0, none⟩) (m + k) c) (m + k) (behind f m (dig n k)) ∧ Below w.heap.size w w' := by
  have HV := Lib.hid hv
  have HN := Lib.hid hn
  clear hv hn
  go_enter Tryz.func40, Tryz.ntmps40
  go_wp2_with fail
  with_reducible refine (refPut_own v m f k n w h1 h4 HN.out HV.out hm).mono ?_
  rintro e w1 ⟨u, rfl, ho, hb⟩
  obtain ⟨g, c, rfl, hlt, hc1, hc2⟩ : ∃ g c, u = .slice (some ⟨g, 0, none⟩) (m + k) c ∧ g < w1.heap.size ∧ m + k ≤ c ∧ c ≤ 9223372036854775807 := ho.form (fun e => by
    subst e
    rcases ho.2 with ⟨_, e2⟩ | ⟨_, _, _, e2, _⟩
    · have := ho.1
      simp at this
      omega
    · cases e2)
  have HO := Lib.hid ho
  have HB := Lib.hid hb
  clear ho hb
  go_wp2
  go_ret
  exact ⟨g, c, rfl, hc1, hc2, HO.out, HB.out⟩

/-- 'SLAT' behind nothing. -/
theorem run_slat (w : World) : ∃ v' w', (Builtin.append_ #[44, 9] 44 #[.slice (some ⟨w.heap.size, 0, none⟩) 0 0, .string { data := #[83, 76, 65, 84] }]).run Tryz.prog (w.alloc (.cells #[] 5)) = .ok v' w' ∧
    Own w' w.heap.size v' 4 magic ∧ Below w.heap.size w w' := by
  obtain ⟨i0, hi, hz0, hz1, hz2⟩ := info_parts byte_info
  have hown := own_new w magic
  have hb0 : Below w.heap.size w (w.alloc (.cells #[] 5)) := (Below.refl _ _).alloc (Nat.le_refl _) _
  obtain ⟨v', w', r, o, g, -⟩ := Lib.run_append_own_string (P := Tryz.prog) (w := w.alloc (.cells #[] 5)) w.heap.size 44 9 44 5 i0 Tryz.underlying44 Tryz.underlying9 hi hz0 hz1 hz2 _ 0 _ hown { data := #[83, 76, 65, 84] } (by show 0 + 4 ≤ maxLen; unfold maxLen; omega) (by show 0 + 4 ≤ _; omega) hb0.size
  refine ⟨v', w', r, ?_, hown.grown_below hb0 (Nat.le_refl _) hb0.size g⟩
  exact o
end Go.Proofs.YtdocclkphffpkaaGreat
