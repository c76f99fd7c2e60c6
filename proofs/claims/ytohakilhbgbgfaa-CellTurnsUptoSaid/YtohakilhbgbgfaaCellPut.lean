/- What Put, Get and Unrow answer. -/
import Derived.Test.YtohakilhbgbgfaaCellRow
import Derived.Test.YtohakilhbgbgfaaConcat
namespace Go.Proofs.Ytohakilhbgbgfaa
open Go.RowKit

theorem put_arg (v : Value) (s n : Int) (w : World) (h : ¬ (1 ≤ s ∧ s ≤ 4)) :
    Calls Try.prog 10 #[v, .int .i64 s, .int .i64 n] w fun e w' => e = .returned (.tuple #[.slice none 0 0, .int .i64 1]) ∧ Below w.heap.size w w' := by
  go_enter Try.func10, Try.ntmps10
  go_wp2_with fail
  with_reducible refine (row_arg s _ _ h).mono ?_
  rintro e w' ⟨rfl, rfl⟩
  go_wp2
  go_ret2
  exact ⟨rfl, (Below.refl _ _).alloc (Nat.le_refl _) _⟩

theorem put_range (v : Value) (k : Nat) (n : Int) (w : World) (h1 : 1 ≤ k) (h4 : k ≤ 4) (hz : -9223372036854775808 ≤ n ∧ n ≤ 9223372036854775807) (h : ¬ (0 ≤ n ∧ n < ((256 ^ k : Nat) : Int))) :
    Calls Try.prog 10 #[v, .int .i64 (k : Int), .int .i64 n] w fun e w' => e = .returned (.tuple #[.slice none 0 0, .int .i64 5]) ∧ Below w.heap.size w w' := by
  have H := Lib.hid h
  clear h
  go_enter Try.func10, Try.ntmps10
  go_wp2_with fail
  with_reducible refine (row_range k (some ⟨w.heap.size, 0, none⟩) 1 1 (fun _ => n) _ h1 h4 (by omega) (int_new w n hz) 0 (by omega) (fun i hi => absurd hi (by omega)) H.out).mono ?_
  rintro e w' ⟨rfl, rfl⟩
  go_wp2
  go_ret2
  exact ⟨rfl, (Below.refl _ _).alloc (Nat.le_refl _) _⟩

theorem put_ok (v : Value) (m : Nat) (f : Nat → Nat) (k n : Nat) (w : World) (h1 : 1 ≤ k) (h4 : k ≤ 4) (hn : n < 256 ^ k) (hv : Reads w v m f) (hm : m + k ≤ 140737488355328) :
    Calls Try.prog 10 #[v, .int .i64 (k : Int), .int .i64 (n : Int)] w (Bears (m + k) (behind f m (dig n k)) w) := by
  have hz : -9223372036854775808 ≤ (n : Int) ∧ (n : Int) ≤ 9223372036854775807 := by
    have := pow_le_four h4
    omega
  have HV := Lib.hid hv
  obtain ⟨A, c, rfl, _⟩ := hv
  have HN := Lib.hid hn
  clear hn
  go_enter Try.func10, Try.ntmps10
  go_wp2_with fail
  with_reducible refine (row_ok k (some ⟨w.heap.size, 0, none⟩) 1 1 (fun _ => n) _ h1 h4 (by omega) (by omega) (fun _ _ => HN.out) (int_new w n hz)).mono ?_
  rintro e w1 ⟨v1, rfl, hr, hb⟩
  obtain ⟨A1, c1, rfl, _⟩ := id hr
  rw [Nat.one_mul] at hr
  rw [Nat.one_mul]
  have B1 : Hid (Below w.heap.size w w1) := Lib.hid (((Below.refl _ w).alloc (Nat.le_refl _) _).trans (hb.mono (by simp)))
  have R1 : Hid (Reads w1 (.slice A1 k c1) k (dig n k)) := Lib.hid (hr.congr fun i hi => by
    have := rowB_at (g := fun _ => n) (k := k) (i := 0) hi
    rwa [Nat.zero_mul, Nat.zero_add] at this)
  clear hr hb hz
  have BX : Hid (Below w1.heap.size w1 (w1.alloc (.cells #[.slice A m c, .slice A1 k c1] 22))) := Lib.hid ((Below.refl _ _).alloc (Nat.le_refl _) _)
  go_wp2_with fail
  with_reducible refine (concat_any w1.heap.size (.slice A m c) (.slice A1 k c1) m k f (dig n k) _ (by rw [World.cell?_alloc_mark]; simp) (by rw [World.cell?_alloc_mark]; simp) ((HV.out.below B1.out).below BX.out) (R1.out.below BX.out) (by omega) hm).mono ?_
  rintro e w2 ⟨v2, rfl, hr, hb⟩
  have R2 := Lib.hid hr
  have B2 : Hid (Below w.heap.size w w2) := Lib.hid (B1.out.trans ((BX.out.mono B1.out.size).trans (hb.mono (by have := B1.out.size; simp; omega))))
  clear hr hb
  go_wp2
  go_ret2
  exact ⟨v2, rfl, R2.out, B2.out⟩

theorem BytesAt.from_ {w : World} {ad : Addr} {n t k : Nat} {f : Nat → Nat} (h : BytesAt w (some ad) n f) (ht : t + k ≤ n) : BytesAt w (some (ad.add t)) k (fun j => f (t + j)) :=
  ⟨fun i hi => h.small _ (by omega), fun i hi => ⟨_, rfl, by rw [Addr.add_add]; exact h.at_ (by omega)⟩⟩

theorem get_arg (v : Value) (t s : Int) (w : World) (h : ¬ (1 ≤ s ∧ s ≤ 4)) :
    Calls Try.prog 13 #[v, .int .i64 t, .int .i64 s] w fun e w' => e = .returned (.tuple #[.int .i64 0, .int .i64 1]) ∧ w = w' := by
  go_enter Try.func13, Try.ntmps13
  go_wp2_with fail
  with_reducible refine (isSize_no s _ h).mono ?_
  rintro e w' ⟨rfl, rfl⟩
  go_wp2
  go_ret2
  exact ⟨rfl, rfl⟩

theorem get_short (A : Option Addr) (n c : Nat) (t : Int) (k : Nat) (w : World) (hn : n ≤ 9223372036854775807) (h1 : 1 ≤ k) (h4 : k ≤ 4) (h : ¬ (0 ≤ t ∧ t + k ≤ n)) :
    Calls Try.prog 13 #[.slice A n c, .int .i64 t, .int .i64 (k : Int)] w fun e w' => e = .returned (.tuple #[.int .i64 0, .int .i64 3]) ∧ w = w' := by
  by_cases h0 : t < 0
  · go_enter Try.func13, Try.ntmps13
    go_wp2_with fail
    with_reducible refine (isSize_yes k _ h1 h4).mono ?_
    rintro e w' ⟨rfl, rfl⟩
    go_wp2
    go_ret2
    exact ⟨rfl, rfl⟩
  · have d0 : decide (t < 0) = false := by simp; omega
    have d1 : (n : Int) - (k : Int) < t := by omega
    clear h
    go_enter Try.func13, Try.ntmps13
    go_wp2_with fail
    with_reducible refine (isSize_yes k _ h1 h4).mono ?_
    rintro e w' ⟨rfl, rfl⟩
    go_wp2
    go_ret2
    exact ⟨rfl, rfl⟩

theorem get_ok (A : Option Addr) (n c : Nat) (f : Nat → Nat) (t k : Nat) (w : World) (hc : n ≤ c) (hm : c ≤ 9223372036854775807) (h1 : 1 ≤ k) (h4 : k ≤ 4) (ht : t + k ≤ n) (h : BytesAt w A n f) :
    Calls Try.prog 13 #[.slice A n c, .int .i64 (t : Int), .int .i64 (k : Int)] w fun e w' => e = .returned (.tuple #[.int .i64 (val (fun j => f (t + j)) k : Int), .int .i64 0]) ∧ w = w' := by
  obtain ⟨ad, rfl⟩ := h.addr (by omega)
  have H := Lib.hid h
  have d0 : decide ((t : Int) < 0) = false := by simp
  have d1 : ¬ (n : Int) - (k : Int) < t := by omega
  have d2 : ¬ c = t := by omega
  clear h
  go_enter Try.func13, Try.ntmps13
  go_wp2_with fail
  with_reducible refine (isSize_yes k _ h1 h4).mono ?_
  rintro e w' ⟨rfl, rfl⟩
  go_wp2_with fail
  with_reducible refine (number_any (some (ad.add t)) k (c - t) (fun j => f (t + j)) _ h4 (H.out.from_ ht)).mono ?_
  rintro e w' ⟨rfl, rfl⟩
  go_wp2
  go_ret2
  exact ⟨rfl, rfl⟩

theorem unrow_arg (v : Value) (s : Int) (w : World) (h : ¬ (1 ≤ s ∧ s ≤ 4)) :
    Calls Try.prog 17 #[v, .int .i64 s] w fun e w' => e = .returned (.tuple #[.slice none 0 0, .int .i64 1]) ∧ w = w' := by
  go_enter Try.func17, Try.ntmps17
  go_wp2_with fail
  with_reducible refine (isSize_no s _ h).mono ?_
  rintro e w' ⟨rfl, rfl⟩
  go_wp2
  go_ret2
  exact ⟨rfl, rfl⟩

theorem unrow_len (A : Option Addr) (n c k : Nat) (w : World) (hn : n ≤ 9223372036854775807) (h1 : 1 ≤ k) (h4 : k ≤ 4) (h : n % k ≠ 0) :
    Calls Try.prog 17 #[.slice A n c, .int .i64 (k : Int)] w fun e w' => e = .returned (.tuple #[.slice none 0 0, .int .i64 6]) ∧ w = w' := by
  have hr : ((n : Int) % (k : Int) != 0) = true := by
    have : (n : Int) % (k : Int) ≠ 0 := by omega
    simp [this]
  go_enter Try.func17, Try.ntmps17
  go_wp2_with fail
  with_reducible refine (isSize_yes k _ h1 h4).mono ?_
  rintro e w' ⟨rfl, rfl⟩
  go_wp2
  go_ret2
  exact ⟨rfl, rfl⟩

/-- The answer: a slice that reads as n numbers g, and no error. -/
def BearsI (n : Nat) (g : Nat → Int) (w : World) (e : Ending) (w' : World) : Prop :=
  ∃ v, e = .returned (.tuple #[v, .int .i64 0]) ∧ ReadsI w' v n g ∧ Below w.heap.size w w'

/-- Unrow's numbers as far as the first i. -/
def upTo (f : Nat → Nat) (k i : Nat) (j : Nat) : Int := if j < i then (rowN f k j : Int) else 0
def UnrowLoop (f : Nat → Nat) (k q : Nat) (w : World) (x : Value) (wr : World) : Prop :=
  ∃ i : Nat, i ≤ q ∧ x = .int .i64 (i : Int) ∧ IntsLie wr w.heap.size (upTo f k i) q ∧ Below w.heap.size w wr
theorem rowN_small {f : Nat → Nat} {k n i : Nat} (h4 : k ≤ 4) (hf : ∀ i, i < n → f i < 256) (hi : i * k + k ≤ n) : rowN f k i < 4294967296 := by
  have h1 := rowN_lt (f := f) (k := k) (i := i) fun j hj => hf _ (by omega)
  have h2 := pow_le_four h4
  omega

theorem unrow_ok (A : Option Addr) (n q c k : Nat) (f : Nat → Nat) (w : World) (hn : n = q * k) (hc : n ≤ c) (hm : c ≤ 9223372036854775807) (hq : 8 * q ≤ 281474976710656) (h1 : 1 ≤ k) (h4 : k ≤ 4) (h : BytesAt w A n f) :
    Calls Try.prog 17 #[.slice A n c, .int .i64 (k : Int)] w (BearsI q (fun i => (rowN f k i : Int)) w) := by
  have H := Lib.hid h
  have hmk := make_ints q hq
  have e1 : (n : Int) % (k : Int) = 0 := by rw [hn, Int.natCast_mul]; exact Int.mul_emod_left _ _
  have e2 : (n : Int) / (k : Int) = (q : Int) := by rw [hn, Int.natCast_mul]; exact Int.mul_ediv_cancel _ (by omega)
  have hk0 : ¬ (k : Int) = 0 := by omega
  have HN := Lib.hid hn
  clear h hn
  go_enter Try.func17, Try.ntmps17
  go_wp2_with fail
  with_reducible refine (isSize_yes k _ h1 h4).mono ?_
  rintro e w' ⟨rfl, rfl⟩
  go_wp2
  clear hmk e1 e2
  go_loopw [23] (fun x wr => UnrowLoop f k q w x wr) (fun x _ => q - (intOf x).toNat)
  case atStart => exact ⟨0, by omega, rfl, (made_ints _ q).congr (fun i _ => by unfold upTo; rw [if_neg (by omega)]), (Below.refl _ _).alloc (Nat.le_refl _) _⟩
  case round =>
    obtain ⟨i, hi, rfl, hl, hb⟩ := hrel
    have HL := Lib.hid hl
    have HB := Lib.hid hb
    clear hl hb
    by_cases hk : i < q
    · obtain ⟨p, hp⟩ : ∃ p, p = i * k := ⟨_, rfl⟩
      have hpn : p + k ≤ n := by
        have h5 : (i + 1) * k ≤ q * k := Nat.mul_le_mul_right k hk
        rw [HN.out, hp]
        rw [Nat.add_mul, Nat.one_mul] at h5
        exact h5
      have p1 : (i : Int) * (k : Int) = (p : Int) := by rw [hp, Int.natCast_mul]
      have p2 : ((i : Int) + 1) * (k : Int) = ((p + k : Nat) : Int) := by rw [Int.add_mul, p1]; omega
      obtain ⟨ad, rfl⟩ := H.out.addr (by omega)
      have HS := Lib.hid ((H.out.below HB.out).from_ hpn)
      have d2 : ¬ c = p := by omega
      have c0 := HL.out.cell (i := i) hk
      have c1 := HL.out.free i
      have HP := Lib.hid hp
      clear hp
      go_wp2_with fail
      with_reducible refine (number_any (some (ad.add p)) k (c - p) (fun j => f (p + j)) _ h4 HS.out).mono ?_
      rintro e w' ⟨rfl, rfl⟩
      obtain ⟨y, ey⟩ : ∃ y, y = val (fun j => f (p + j)) k := ⟨_, rfl⟩
      rw [← ey]
      have EY : Hid ((y : Int) = upTo f k (i + 1) i) := Lib.hid (by unfold upTo rowN; rw [if_pos (by omega), ey, HP.out])
      clear ey
      go_wp2
      clear p1 p2 c0 c1
      go_roundw
      case rel => exact ⟨i + 1, by omega, by go_num, HL.out.set_ hk EY.out (fun j hj => by
        unfold upTo
        by_cases h5 : j < i
        · rw [if_pos h5, if_pos (by omega)]
        · rw [if_neg h5, if_neg (by omega)]), HB.out.setCell (Nat.le_refl _) _⟩
      case measure => simp [intOf]; omega
    · obtain rfl : i = q := by omega
      go_wp2
      go_ret2
      exact ⟨_, rfl, ⟨_, _, rfl, Nat.le_refl _, by omega, (by intro e; cases e), (HL.out.congr (g := fun i => (rowN f k i : Int)) (fun j hj => by unfold upTo; rw [if_pos hj])).ints (fun j hj => by
        have h5 := rowN_small (i := j) h4 H.out.small (by
          have h6 : (j + 1) * k ≤ i * k := Nat.mul_le_mul_right k hj
          rw [HN.out]
          rw [Nat.add_mul, Nat.one_mul] at h6
          exact h6)
        omega)⟩, HB.out⟩

end Go.Proofs.Ytohakilhbgbgfaa
