/- What the document's Row and Unrow answer, and its comparison of two lists. -/
import Derived.Test.YtohakilhbgbgfaaCellRef
namespace Go.Proofs.Ytohakilhbgbgfaa
open Go.RowKit

theorem refRow_arg (v : Value) (s : Int) (w : World) (h : ¬ (1 ≤ s ∧ s ≤ 4)) :
    Calls Try.prog 16 #[.int .i64 s, v] w fun e w' => e = .returned (.tuple #[.slice none 0 0, .int .i64 1]) ∧ w = w' := by
  by_cases h1 : s < 1
  · go_enter Try.func16, Try.ntmps16
    go_wp2
    go_ret2
    exact ⟨rfl, rfl⟩
  · have h2 : 4 < s := by omega
    go_enter Try.func16, Try.ntmps16
    go_wp2
    go_ret2
    exact ⟨rfl, rfl⟩

/-- How the document's Row stands: i numbers are laid. -/
def RefRowLoop (G : Nat → Nat) (k i : Nat) (w : World) (v : Value) (wr : World) : Prop :=
  Own wr w.heap.size v (i * k) (rowB G k) ∧ Below w.heap.size w wr

theorem put_bears {k n : Nat} {w : World} {e : Ending} {w' : World} (h : Bears (0 + k) (behind (fun _ => 0) 0 (dig n k)) w e w') : Bears k (dig n k) w e w' := by
  rw [Nat.zero_add] at h
  obtain ⟨v, he, hr, hb⟩ := h
  exact ⟨v, he, hr.congr fun i _ => behind_high (Nat.zero_le _), hb⟩

theorem refRow_ok (k : Nat) (A : Option Addr) (n c : Nat) (G : Nat → Nat) (w : World) (h1 : 1 ≤ k) (h4 : k ≤ 4) (hn : n ≤ 9223372036854775807) (hr : n * k ≤ 140737488355328) (hG : ∀ i, i < n → G i < 256 ^ k) (h : IntsAt w A n (fun i => (G i : Int))) :
    Calls Try.prog 16 #[.int .i64 (k : Int), .slice A n c] w (Bears (n * k) (rowB G k) w) := by
  have d1 : decide ((k : Int) < 1) = false := by simp; omega
  have d4 : decide ((4 : Int) < (k : Int)) = false := by simp; omega
  have H := Lib.hid h
  have HG := Lib.hid hG
  have HR := Lib.hid hr
  clear h hG hr
  go_enter Try.func16, Try.ntmps16
  go_wp2
  go_loopw [6, 7] (fun v x wr => ∃ i : Nat, i ≤ n ∧ x = .int .i64 (i : Int) ∧ RefRowLoop G k i w v wr) (fun _ x _ => n - (intOf x).toNat)
  case atStart => exact ⟨0, by omega, rfl, by rw [Nat.zero_mul]; exact own_new w _, (Below.refl _ _).alloc (Nat.le_refl _) _⟩
  case round =>
    obtain ⟨i, hi, rfl, ho, hb⟩ := hrel
    have HO := Lib.hid ho
    have HB := Lib.hid hb
    clear ho hb
    by_cases hk : i < n
    · obtain ⟨ad, rfl⟩ := H.out.addr (by omega)
      have hc := cell_later HB.out (H.out.at_ hk)
      obtain ⟨z, ez⟩ : ∃ z, z = G i := ⟨_, rfl⟩
      simp only [← ez] at hc
      have HZ : Hid (z < 256 ^ k) := Lib.hid (by rw [ez]; exact HG.out i hk)
      have HT : Hid (i * k + k ≤ 140737488355328) := Lib.hid (by
        have h5 : (i + 1) * k ≤ n * k := Nat.mul_le_mul_right k hk
        have h6 := HR.out
        rw [Nat.add_mul, Nat.one_mul] at h5
        omega)
      have EZ := Lib.hid ez
      clear ez
      go_wp2_with fail
      with_reducible refine (refPut_ok (.slice none 0 0) 0 (fun _ => 0) k z wr h1 h4 HZ.out (reads_none _ _) (by omega)).mono ?_
      rintro e w1 h7
      obtain ⟨v1, rfl, hr1, hb1⟩ := put_bears h7
      obtain ⟨A1, c1, rfl, p1, p2, p3, p4⟩ := hr1
      have hb2 : Below w.heap.size w w1 := HB.out.trans (hb1.mono HB.out.size)
      have ho1 : Own w1 w.heap.size _ (i * k) (rowB G k) := owns_later HO.out hb1
      clear h7 hc
      obtain ⟨v2, w2, r2, o2, _, g2⟩ := run_bytes (c := c1) 22 ho1 p4 p3 HT.out hb2.size
      have hb3 : Below w.heap.size w w2 := ho1.grown_below hb2 (Nat.le_refl _) hb2.size g2
      have o3 : Own w2 w.heap.size v2 ((i + 1) * k) (rowB G k) := by
        rw [Nat.add_mul, Nat.one_mul]
        refine o2.congr fun t ht => ?_
        by_cases h5 : t < i * k
        · rw [behind_low h5]
        · obtain ⟨j, rfl⟩ : ∃ j, t = i * k + j := ⟨t - i * k, by omega⟩
          rw [behind_high (by omega), rowB_at (by omega), EZ.out]
          congr 1
          omega
      have R2 := Lib.hid r2
      have O3 := Lib.hid o3
      have B3 := Lib.hid hb3
      clear r2 o2 o3 hb3 hb2 ho1 g2 hb1 p1 p2 p3 p4
      go_wp2_with (at_builtin; refine Lib.wpList_append_run _ rfl (.tmp 35) (.tmp 36) _ _ rfl _ _ rfl rfl _ _ R2.out ?_)
      go_roundw
      case rel => exact ⟨i + 1, by omega, by go_num, O3.out, B3.out⟩
      case measure => simp [intOf]; omega
    · obtain rfl : i = n := by omega
      go_wp2
      go_ret2
      exact ⟨_, rfl, HO.out.reads (fun _ _ => rowB_lt _ _ _), HB.out⟩

theorem refRow_range (k : Nat) (A : Option Addr) (n c : Nat) (g : Nat → Int) (w : World) (h1 : 1 ≤ k) (h4 : k ≤ 4) (hn : n ≤ 9223372036854775807) (hr : n * k ≤ 140737488355328) (h : IntsAt w A n g)
    (m : Nat) (hm : m < n) (hlow : ∀ i, i < m → 0 ≤ g i ∧ g i < ((256 ^ k : Nat) : Int)) (hbad : ¬ (0 ≤ g m ∧ g m < ((256 ^ k : Nat) : Int))) :
    Calls Try.prog 16 #[.int .i64 (k : Int), .slice A n c] w fun e w' => e = .returned (.tuple #[.slice none 0 0, .int .i64 5]) ∧ Below w.heap.size w w' := by
  have d1 : decide ((k : Int) < 1) = false := by simp; omega
  have d4 : decide ((4 : Int) < (k : Int)) = false := by simp; omega
  have H := Lib.hid h
  have HL := Lib.hid hlow
  have HD := Lib.hid hbad
  have HR := Lib.hid hr
  obtain ⟨G, eG⟩ : ∃ G : Nat → Nat, G = fun i => (g i).toNat := ⟨_, rfl⟩
  have HG := Lib.hid eG
  clear h hlow hbad hr eG
  go_enter Try.func16, Try.ntmps16
  go_wp2
  go_loopw [6, 7, 8, 9, 23] (fun v x _ _ _ wr => ∃ i : Nat, i ≤ m ∧ x = .int .i64 (i : Int) ∧ RefRowLoop G k i w v wr) (fun _ x _ _ _ _ => n - (intOf x).toNat)
  case atStart => exact ⟨0, by omega, rfl, by rw [Nat.zero_mul]; exact own_new w _, (Below.refl _ _).alloc (Nat.le_refl _) _⟩
  case round =>
    obtain ⟨i, hi, rfl, ho, hb⟩ := hrel
    have HO := Lib.hid ho
    have HB := Lib.hid hb
    clear ho hb
    have hk : i < n := by omega
    obtain ⟨ad, rfl⟩ := H.out.addr (by omega)
    have hc := cell_later HB.out (H.out.at_ hk)
    by_cases him : i < m
    · obtain ⟨z, ez⟩ : ∃ z, z = G i := ⟨_, rfl⟩
      have hgz : g i = (z : Int) := by
        have := HL.out i him
        rw [ez, HG.out]
        show g i = ((g i).toNat : Int)
        omega
      rw [hgz] at hc
      have HZ : Hid (z < 256 ^ k) := Lib.hid (by have := (HL.out i him).2; rw [hgz] at this; omega)
      have HT : Hid (i * k + k ≤ 140737488355328) := Lib.hid (by
        have h5 : (i + 1) * k ≤ n * k := Nat.mul_le_mul_right k hk
        have h6 := HR.out
        rw [Nat.add_mul, Nat.one_mul] at h5
        omega)
      have EZ := Lib.hid ez
      clear ez hgz
      go_wp2_with fail
      with_reducible refine (refPut_ok (.slice none 0 0) 0 (fun _ => 0) k z wr h1 h4 HZ.out (reads_none _ _) (by omega)).mono ?_
      rintro e w1 h7
      obtain ⟨v1, rfl, hr1, hb1⟩ := put_bears h7
      obtain ⟨A1, c1, rfl, p1, p2, p3, p4⟩ := hr1
      have hb2 : Below w.heap.size w w1 := HB.out.trans (hb1.mono HB.out.size)
      have ho1 : Own w1 w.heap.size _ (i * k) (rowB G k) := owns_later HO.out hb1
      clear h7 hc
      obtain ⟨v2, w2, r2, o2, _, g2⟩ := run_bytes (c := c1) 22 ho1 p4 p3 HT.out hb2.size
      have hb3 : Below w.heap.size w w2 := ho1.grown_below hb2 (Nat.le_refl _) hb2.size g2
      have o3 : Own w2 w.heap.size v2 ((i + 1) * k) (rowB G k) := by
        rw [Nat.add_mul, Nat.one_mul]
        refine o2.congr fun t ht => ?_
        by_cases h5 : t < i * k
        · rw [behind_low h5]
        · obtain ⟨j, rfl⟩ : ∃ j, t = i * k + j := ⟨t - i * k, by omega⟩
          rw [behind_high (by omega), rowB_at (by omega), EZ.out]
          congr 1
          omega
      have R2 := Lib.hid r2
      have O3 := Lib.hid o3
      have B3 := Lib.hid hb3
      clear r2 o2 o3 hb3 hb2 ho1 g2 hb1 p1 p2 p3 p4
      go_wp2_with (at_builtin; refine Lib.wpList_append_run _ rfl (.tmp 35) (.tmp 36) _ _ rfl _ _ rfl rfl _ _ R2.out ?_)
      go_roundw
      case rel => exact ⟨i + 1, by omega, by go_num, O3.out, B3.out⟩
      case measure => simp [intOf]; omega
    · obtain rfl : i = m := by omega
      go_wp2_with fail
      with_reducible refine (refPut_range (.slice none 0 0) k (g i) wr h1 h4 HD.out).mono ?_
      rintro e w' ⟨rfl, rfl⟩
      go_wp2
      go_ret2
      exact ⟨rfl, HB.out⟩

theorem refUnrow_arg (v : Value) (s : Int) (w : World) (h : ¬ (1 ≤ s ∧ s ≤ 4)) :
    Calls Try.prog 18 #[v, .int .i64 s] w fun e w' => e = .returned (.tuple #[.slice none 0 0, .int .i64 1]) ∧ w = w' := by
  by_cases h1 : s < 1
  · go_enter Try.func18, Try.ntmps18
    go_wp2
    go_ret2
    exact ⟨rfl, rfl⟩
  · have h2 : 4 < s := by omega
    go_enter Try.func18, Try.ntmps18
    go_wp2
    go_ret2
    exact ⟨rfl, rfl⟩

theorem refUnrow_len (A : Option Addr) (n c k : Nat) (w : World) (hn : n ≤ 9223372036854775807) (h1 : 1 ≤ k) (h4 : k ≤ 4) (h : n % k ≠ 0) :
    Calls Try.prog 18 #[.slice A n c, .int .i64 (k : Int)] w fun e w' => e = .returned (.tuple #[.slice none 0 0, .int .i64 6]) ∧ w = w' := by
  have d1 : decide ((k : Int) < 1) = false := by simp; omega
  have d4 : decide ((4 : Int) < (k : Int)) = false := by simp; omega
  have hr : ((n : Int) % (k : Int) != 0) = true := by
    have : (n : Int) % (k : Int) ≠ 0 := by omega
    simp [this]
  go_enter Try.func18, Try.ntmps18
  go_wp2
  go_ret2
  exact ⟨rfl, rfl⟩

def RefUnrowLoop (f : Nat → Nat) (k q : Nat) (w : World) (v x : Value) (wr : World) : Prop :=
  ∃ i p : Nat, i ≤ q ∧ p = i * k ∧ x = .int .i64 (p : Int) ∧ OwnI wr w.heap.size v i (fun j => (rowN f k j : Int)) ∧ Below w.heap.size w wr

theorem refUnrow_ok (A : Option Addr) (n q c k : Nat) (f : Nat → Nat) (w : World) (hn : n = q * k) (hc : n ≤ c) (hm : c ≤ 9223372036854775807) (hx : n + 4 ≤ 9223372036854775807) (hq : 8 * q ≤ 140737488355328) (h1 : 1 ≤ k) (h4 : k ≤ 4) (h : BytesAt w A n f) :
    Calls Try.prog 18 #[.slice A n c, .int .i64 (k : Int)] w (BearsI q (fun i => (rowN f k i : Int)) w) := by
  have d1 : decide ((k : Int) < 1) = false := by simp; omega
  have d4 : decide ((4 : Int) < (k : Int)) = false := by simp; omega
  have e1 : (n : Int) % (k : Int) = 0 := by rw [hn, Int.natCast_mul]; exact Int.mul_emod_left _ _
  have H := Lib.hid h
  have HN := Lib.hid hn
  clear h hn
  go_enter Try.func18, Try.ntmps18
  go_wp2
  clear e1
  go_loopw [6, 7] (fun v x wr => RefUnrowLoop f k q w v x wr) (fun _ x _ => n - (intOf x).toNat)
  case atStart => exact ⟨0, 0, by omega, by omega, rfl, owni_new w _, (Below.refl _ _).alloc (Nat.le_refl _) _⟩
  case round =>
    obtain ⟨i, p, hi, hp, rfl, ho, hb⟩ := hrel
    have HO := Lib.hid ho
    have HB := Lib.hid hb
    clear ho hb
    by_cases hk : i < q
    · have hpn : p + k ≤ n := by
        have h5 : (i + 1) * k ≤ q * k := Nat.mul_le_mul_right k hk
        rw [HN.out, hp]
        rw [Nat.add_mul, Nat.one_mul] at h5
        exact h5
      have HP := Lib.hid hp
      clear hp
      go_wp2_with fail
      with_reducible refine (refGet_ok A n c f p k wr hc hm h1 h4 hpn (H.out.below HB.out)).mono ?_
      rintro e w' ⟨rfl, rfl⟩
      obtain ⟨y, ey⟩ : ∃ y, y = val (fun j => f (p + j)) k := ⟨_, rfl⟩
      rw [← ey]
      have EY : Hid ((y : Int) = (rowN f k i : Int)) := Lib.hid (by unfold rowN; rw [ey, HP.out])
      clear ey
      obtain ⟨v2, w2, r2, o2, _, g2⟩ := run_int (z := (y : Int)) 30 HO.out EY.out (by omega) HB.out.size
      have hb2 : Below w.heap.size w w2 := (HO.out.alloc (.cells #[.int .i64 (y : Int)] 3)).below (HB.out.alloc HB.out.size _) (Nat.le_refl _) (by have := HB.out.size; simp; omega) g2
      have R2 := Lib.hid r2
      have O2 := Lib.hid o2
      have B2 := Lib.hid hb2
      clear r2 o2 hb2 g2
      go_wp2_with (at_builtin; refine Lib.wpList_append_run _ rfl (.tmp 36) (.tmp 38) _ _ rfl _ _ rfl rfl _ _ R2.out ?_)
      go_roundw
      case rel => exact ⟨i + 1, p + k, by omega, by rw [Nat.add_mul, Nat.one_mul, HP.out], by go_num, O2.out, B2.out⟩
      case measure => simp [intOf]; omega
    · obtain rfl : i = q := by omega
      obtain rfl : n = p := by rw [HN.out, hp]
      go_wp2
      go_ret2
      exact ⟨_, rfl, HO.out.reads (fun j hj => by
        have h5 := rowN_small (i := j) h4 H.out.small (by
          have h6 : (j + 1) * k ≤ i * k := Nat.mul_le_mul_right k hj
          rw [HN.out]
          rw [Nat.add_mul, Nat.one_mul] at h6
          exact h6)
        omega), HB.out⟩

theorem ints_same (A B : Option Addr) (n c d : Nat) (g : Nat → Int) (w : World) (hn : n ≤ 9223372036854775807) (ha : IntsAt w A n g) (hb : IntsAt w B n g) :
    Calls Try.prog 19 #[.slice A n c, .slice B n d] w (Drawn (.bool true) w) := by
  have HA := Lib.hid ha
  have HB := Lib.hid hb
  clear ha hb
  go_enter Try.func19, Try.ntmps19
  go_wp2
  go_loopw [5] (fun x wr => ∃ i m : Nat, i ≤ n ∧ x = .int .i64 (i : Int) ∧ w.drewN m = wr) (fun x _ => n - (intOf x).toNat)
  case atStart => exact ⟨0, 0, by omega, rfl, rfl⟩
  case round =>
    obtain ⟨i, m, hi, rfl, hw⟩ := hrel
    by_cases hk : i < n
    · obtain ⟨a, rfl⟩ := HA.out.addr (by omega)
      obtain ⟨b, rfl⟩ := HB.out.addr (by omega)
      have qa : wr.cell? (a.add i) = some (.int .i64 (g i)) := by rw [← hw]; exact HA.out.at_ hk
      have qb : wr.cell? (b.add i) = some (.int .i64 (g i)) := by rw [← hw]; exact HB.out.at_ hk
      obtain ⟨z, ez⟩ : ∃ z, z = g i := ⟨_, rfl⟩
      rw [← ez] at qa qb
      have HW := Lib.hid hw
      have i1 : (i : Int) < (n : Int) := by omega
      clear ez hw
      go_wp2
      go_region
      all_goals
        clear qa qb
        go_wp2
        go_roundw
        case rel => exact ⟨i + 1, m + 1, by omega, by go_num, by rw [← HW.out]; rfl⟩
        case measure => simp [intOf]; omega
    · obtain rfl : i = n := by omega
      go_wp2
      go_ret
      exact ⟨m, rfl, hw⟩

end Go.Proofs.Ytohakilhbgbgfaa
