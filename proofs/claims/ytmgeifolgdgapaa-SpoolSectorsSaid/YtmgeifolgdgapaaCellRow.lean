
/- What join and Row answer. -/
import Derived.Test.YtmgeifolgdgapaaCellWalks
import Derived.Test.YtmgeifolgdgapaaInts
namespace Go.Proofs.Ytmgeifolgdgapaa
open Go.RowKit

theorem byte_shr {z k j y : Nat} (hy : y = dig z k j) : (z : Int) / 2 ^ (8 * (k - 1 - j)) % 256 = (y : Int) := by
  rw [hy]
  unfold dig
  rw [show (256 : Nat) = 2 ^ 8 from rfl, ← Nat.pow_mul]
  simp

/-- How join's loops stand: t bytes are laid. -/
def JoinLoop (G : Nat → Nat) (k t : Nat) (w : World) (v : Value) (wr : World) : Prop :=
  Own wr w.heap.size v t (rowB G k) ∧ Below w.heap.size w wr

theorem join_any (k : Nat) (A : Option Addr) (n c : Nat) (G : Nat → Nat) (w : World) (h1 : 1 ≤ k) (h4 : k ≤ 4) (hn : n ≤ 9223372036854775807) (hr : n * k ≤ 140737488355328) (hG : ∀ i, i < n → G i < 256 ^ k) (h : IntsAt w A n (fun i => (G i : Int))) :
    Calls Try.prog 57 #[.int .i64 (k : Int), .slice A n c] w fun e w' => ∃ v, e = .returned v ∧ Reads w' v (n * k) (rowB G k) ∧ Below w.heap.size w w' := by
  have H := Lib.hid h
  have HG := Lib.hid hG
  have HR := Lib.hid hr
  clear h hG hr
  go_enter Try.func57, Try.ntmps57
  go_wp2
  go_loopw [4, 10] (fun v x wr => ∃ i : Nat, i ≤ n ∧ x = .int .i64 (i : Int) ∧ JoinLoop G k (i * k) w v wr) (fun _ x _ => n - (intOf x).toNat)
  case atStart => exact ⟨0, by omega, rfl, by rw [Nat.zero_mul]; exact own_none _ _ _, Below.refl _ _⟩
  case round =>
    obtain ⟨i, hi, rfl, ho, hb⟩ := hrel
    have HO := Lib.hid ho
    have HB := Lib.hid hb
    clear ho hb
    by_cases hk : i < n
    · obtain ⟨ad, rfl⟩ := H.out.addr (by omega)
      have hc := cell_later HB.out (H.out.at_ hk)
      obtain ⟨z, ez⟩ : ∃ z, z = G i := ⟨_, rfl⟩
      have hz : z < 4294967296 := by
        have h2 := pow_le_four h4
        have h3 := HG.out i hk
        omega
      simp only [← ez] at hc
      have EZ := Lib.hid ez
      clear ez
      have HT : Hid (i * k + k ≤ 140737488355328) := Lib.hid (by
        have h5 : (i + 1) * k ≤ n * k := Nat.mul_le_mul_right k hk
        have h6 := HR.out
        rw [Nat.add_mul, Nat.one_mul] at h5
        omega)
      go_wp2
      clear hc
      go_loopw [4, 15] (fun v x wr => ∃ j : Nat, j ≤ k ∧ x = .int .i64 (j : Int) ∧ JoinLoop G k (i * k + j) w v wr) (fun _ x _ => k - (intOf x).toNat)
      case atStart => exact ⟨0, by omega, rfl, HO.out, HB.out⟩
      case round =>
        clear HO HB
        obtain ⟨j, hj, rfl, ho, hb⟩ := hrel
        have HO := Lib.hid ho
        have HB := Lib.hid hb
        clear ho hb
        by_cases hjk : j < k
        · obtain ⟨y, ey⟩ : ∃ y, y = dig z k j := ⟨_, rfl⟩
          have hs := byte_shr ey
          have hy : y < 256 := by rw [ey]; exact dig_lt _ _ _
          have EY : Hid (y = rowB G k (i * k + j)) := Lib.hid (by rw [ey, EZ.out, rowB_at hjk])
          clear ey
          have hbx : Below w.heap.size w (wr.alloc (.cells #[.int .u8 (y : Int)] 5)) := HB.out.alloc HB.out.size _
          obtain ⟨v2, w2, r2, o2, _, g2⟩ := run_bytes (c := 1) 28 (HO.out.alloc (.cells #[.int .u8 (y : Int)] 5)) (one_new wr hy) (by intro e; cases e) (by have := HT.out; omega) hbx.size
          have hb2 : Below w.heap.size w w2 := (HO.out.alloc (.cells #[.int .u8 (y : Int)] 5)).grown_below hbx (Nat.le_refl _) hbx.size g2
          have o3 : Own w2 w.heap.size v2 (i * k + (j + 1)) (rowB G k) := Own.congr (n := i * k + j + 1) o2 fun t ht => by
            by_cases h5 : t < i * k + j
            · rw [behind_low h5]
            · obtain rfl : t = i * k + j := by omega
              rw [behind_high (Nat.le_refl _), EY.out]
          have R2 := Lib.hid r2
          have O3 := Lib.hid o3
          have B2 := Lib.hid hb2
          clear r2 o2 o3 hb2 g2 hbx
          go_wp2_with (at_builtin; refine Lib.wpList_append_run _ rfl (.tmp 18) (.tmp 27) _ _ rfl _ _ rfl rfl _ _ R2.out ?_)
          clear hs
          go_roundw
          case rel => exact ⟨j + 1, by omega, by go_num, O3.out, B2.out⟩
          case measure => simp [intOf]; omega
        · obtain rfl : j = k := by omega
          go_wp2
          go_roundw
          case rel => exact ⟨i + 1, by omega, by go_num, by rw [Nat.add_mul, Nat.one_mul]; exact HO.out, HB.out⟩
          case measure => simp [intOf]; omega
    · obtain rfl : i = n := by omega
      go_wp2
      go_ret
      exact ⟨_, rfl, HO.out.reads (fun t _ => rowB_lt _ _ _), HB.out⟩

/-- The answer: a slice that reads as n bytes f, and no error. -/
def Bears (n : Nat) (f : Nat → Nat) (w : World) (e : Ending) (w' : World) : Prop :=
  ∃ v, e = .returned (.tuple #[v, .int .i64 0]) ∧ Reads w' v n f ∧ Below w.heap.size w w'

/-- How Row's loop stands. -/
theorem row_ok (k : Nat) (A : Option Addr) (n c : Nat) (G : Nat → Nat) (w : World) (h1 : 1 ≤ k) (h4 : k ≤ 4) (hn : n ≤ 9223372036854775807) (hr : n * k ≤ 140737488355328) (hG : ∀ i, i < n → G i < 256 ^ k) (h : IntsAt w A n (fun i => (G i : Int))) :
    Calls Try.prog 46 #[.int .i64 (k : Int), .slice A n c] w (Bears (n * k) (rowB G k) w) := by
  have H := Lib.hid h
  have HG := Lib.hid hG
  have HR := Lib.hid hr
  clear h hG hr
  go_enter Try.func46, Try.ntmps46
  go_wp2_with fail
  with_reducible refine (isSize_yes k _ h1 h4).mono ?_
  rintro e w' ⟨rfl, rfl⟩
  go_wp2
  go_loop [13] (fun x => ∃ i : Nat, i ≤ n ∧ x = .int .i64 (i : Int)) (fun x => n - (intOf x).toNat)
  case atStart => exact ⟨0, by omega, rfl⟩
  case round =>
    obtain ⟨i, hi, rfl⟩ := hrel
    by_cases hk : i < n
    · obtain ⟨ad, rfl⟩ := H.out.addr (by omega)
      have hc := H.out.at_ hk
      obtain ⟨z, ez⟩ : ∃ z, z = G i := ⟨_, rfl⟩
      have hz : decide ((0 : Int) ≤ (z : Int) ∧ (z : Int) < ((256 ^ k : Nat) : Int)) = true := by
        have h3 := HG.out i hk
        rw [decide_eq_true_eq]
        rw [ez]
        omega
      simp only [← ez] at hc
      have EZ := Lib.hid ez
      have HZ := Lib.hid hz
      clear ez hz
      go_wp2_with fail
      with_reducible refine (fits_any (z : Int) k _ h1 h4).mono ?_
      rintro e w' ⟨rfl, rfl⟩
      rw [HZ.out]
      go_wp2
      clear hc
      go_round
      case rel => exact ⟨i + 1, by omega, by go_num⟩
      case measure => simp [intOf]; omega
    · obtain rfl : i = n := by omega
      go_wp2_with fail
      with_reducible refine (join_any k A i c G _ h1 h4 hn HR.out HG.out H.out).mono ?_
      rintro e w' ⟨v, rfl, hv, hb⟩
      have HV := Lib.hid hv
      have HB := Lib.hid hb
      clear hv hb
      go_wp2
      go_ret2
      exact ⟨v, rfl, HV.out, HB.out⟩

theorem row_range (k : Nat) (A : Option Addr) (n c : Nat) (g : Nat → Int) (w : World) (h1 : 1 ≤ k) (h4 : k ≤ 4) (hn : n ≤ 9223372036854775807) (h : IntsAt w A n g)
    (m : Nat) (hm : m < n) (hlow : ∀ i, i < m → 0 ≤ g i ∧ g i < ((256 ^ k : Nat) : Int)) (hbad : ¬ (0 ≤ g m ∧ g m < ((256 ^ k : Nat) : Int))) :
    Calls Try.prog 46 #[.int .i64 (k : Int), .slice A n c] w fun e w' => e = .returned (.tuple #[.slice none 0 0, .int .i64 5]) ∧ w = w' := by
  have H := Lib.hid h
  have HL := Lib.hid hlow
  have HD := Lib.hid hbad
  clear h hlow hbad
  go_enter Try.func46, Try.ntmps46
  go_wp2_with fail
  with_reducible refine (isSize_yes k _ h1 h4).mono ?_
  rintro e w' ⟨rfl, rfl⟩
  go_wp2
  go_loop [13] (fun x => ∃ i : Nat, i ≤ m ∧ x = .int .i64 (i : Int)) (fun x => n - (intOf x).toNat)
  case atStart => exact ⟨0, by omega, rfl⟩
  case round =>
    obtain ⟨i, hi, rfl⟩ := hrel
    have hk : i < n := by omega
    obtain ⟨ad, rfl⟩ := H.out.addr (by omega)
    have hc := H.out.at_ hk
    obtain ⟨z, ez⟩ : ∃ z, z = g i := ⟨_, rfl⟩
    rw [← ez] at hc
    by_cases him : i < m
    · have HZ : Hid (decide ((0 : Int) ≤ z ∧ z < ((256 ^ k : Nat) : Int)) = true) := Lib.hid (by rw [decide_eq_true_eq, ez]; exact HL.out i him)
      clear ez
      go_wp2_with fail
      with_reducible refine (fits_any z k _ h1 h4).mono ?_
      rintro e w' ⟨rfl, rfl⟩
      rw [HZ.out]
      go_wp2
      clear hc
      go_round
      case rel => exact ⟨i + 1, by omega, by go_num⟩
      case measure => simp [intOf]; omega
    · obtain rfl : i = m := by omega
      have HZ : Hid (decide ((0 : Int) ≤ z ∧ z < ((256 ^ k : Nat) : Int)) = false) := Lib.hid (by rw [decide_eq_false_iff_not, ez]; exact HD.out)
      clear ez
      go_wp2_with fail
      with_reducible refine (fits_any z k _ h1 h4).mono ?_
      rintro e w' ⟨rfl, rfl⟩
      rw [HZ.out]
      go_wp2
      go_ret2
      exact ⟨rfl, rfl⟩

theorem row_arg (s : Int) (v : Value) (w : World) (h : ¬ (1 ≤ s ∧ s ≤ 4)) :
    Calls Try.prog 46 #[.int .i64 s, v] w fun e w' => e = .returned (.tuple #[.slice none 0 0, .int .i64 1]) ∧ w = w' := by
  go_enter Try.func46, Try.ntmps46
  go_wp2_with fail
  with_reducible refine (isSize_no s _ h).mono ?_
  rintro e w' ⟨rfl, rfl⟩
  go_wp2
  go_ret2
  exact ⟨rfl, rfl⟩

end Go.Proofs.Ytmgeifolgdgapaa
