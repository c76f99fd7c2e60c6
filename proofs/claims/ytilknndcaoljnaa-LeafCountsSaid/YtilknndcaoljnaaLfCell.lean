/- Numbers read of bytes (package cell: Get, Unrow): a contract each. -/
import Derived.Test.YtilknndcaoljnaaCellRow
namespace Go.Proofs.Ytilknndcaoljnaa
open Go.RowKit

theorem BytesAt.from_ {w : World} {ad : Addr} {n t k : Nat} {f : Nat → Nat} (h : BytesAt w (some ad) n f) (ht : t + k ≤ n) : BytesAt w (some (ad.add t)) k (fun j => f (t + j)) :=
  ⟨fun i hi => h.small _ (by omega), fun i hi => ⟨_, rfl, by rw [Addr.add_add]; exact h.at_ (by omega)⟩⟩

theorem get_arg (v : Value) (t s : Int) (w : World) (h : ¬ (1 ≤ s ∧ s ≤ 4)) :
    Calls Try.prog 9 #[v, .int .i64 t, .int .i64 s] w fun e w' => e = .returned (.tuple #[.int .i64 0, .int .i64 1]) ∧ w = w' := by
  go_enter Try.func9, Try.ntmps9
  go_wp2_with fail
  with_reducible refine (isSize_no s _ h).mono ?_
  rintro e w' ⟨rfl, rfl⟩
  go_wp2
  go_ret2
  exact ⟨rfl, rfl⟩

theorem get_short (A : Option Addr) (n c : Nat) (t : Int) (k : Nat) (w : World) (hn : n ≤ 9223372036854775807) (h1 : 1 ≤ k) (h4 : k ≤ 4) (h : ¬ (0 ≤ t ∧ t + k ≤ n)) :
    Calls Try.prog 9 #[.slice A n c, .int .i64 t, .int .i64 (k : Int)] w fun e w' => e = .returned (.tuple #[.int .i64 0, .int .i64 3]) ∧ w = w' := by
  by_cases h0 : t < 0
  · go_enter Try.func9, Try.ntmps9
    go_wp2_with fail
    with_reducible refine (isSize_yes k _ h1 h4).mono ?_
    rintro e w' ⟨rfl, rfl⟩
    go_wp2
    go_ret2
    exact ⟨rfl, rfl⟩
  · have d0 : decide (t < 0) = false := by simp; omega
    have d1 : (n : Int) - (k : Int) < t := by omega
    clear h
    go_enter Try.func9, Try.ntmps9
    go_wp2_with fail
    with_reducible refine (isSize_yes k _ h1 h4).mono ?_
    rintro e w' ⟨rfl, rfl⟩
    go_wp2
    go_ret2
    exact ⟨rfl, rfl⟩

theorem get_ok (A : Option Addr) (n c : Nat) (f : Nat → Nat) (t k : Nat) (w : World) (hc : n ≤ c) (hm : c ≤ 9223372036854775807) (h1 : 1 ≤ k) (h4 : k ≤ 4) (ht : t + k ≤ n) (h : BytesAt w A n f) :
    Calls Try.prog 9 #[.slice A n c, .int .i64 (t : Int), .int .i64 (k : Int)] w fun e w' => e = .returned (.tuple #[.int .i64 (val (fun j => f (t + j)) k : Int), .int .i64 0]) ∧ w = w' := by
  obtain ⟨ad, rfl⟩ := h.addr (by omega)
  have H := Lib.hid h
  have d0 : decide ((t : Int) < 0) = false := by simp
  have d1 : ¬ (n : Int) - (k : Int) < t := by omega
  have d2 : ¬ c = t := by omega
  clear h
  go_enter Try.func9, Try.ntmps9
  go_wp2_with fail
  with_reducible refine (isSize_yes k _ h1 h4).mono ?_
  rintro e w' ⟨rfl, rfl⟩
  go_wp2_with fail
  with_reducible refine (number_any (some (ad.add t)) k (c - t) (fun j => f (t + j)) _ h4 (H.out.from_ ht)).mono ?_
  rintro e w' ⟨rfl, rfl⟩
  go_wp2
  go_ret2
  exact ⟨rfl, rfl⟩

theorem unrow_arg (v : Value) (s : Int) (w : World) (h : ¬ (1 ≤ s ∧ s ≤ 4)) :
    Calls Try.prog 58 #[v, .int .i64 s] w fun e w' => e = .returned (.tuple #[.slice none 0 0, .int .i64 1]) ∧ w = w' := by
  go_enter Try.func58, Try.ntmps58
  go_wp2_with fail
  with_reducible refine (isSize_no s _ h).mono ?_
  rintro e w' ⟨rfl, rfl⟩
  go_wp2
  go_ret2
  exact ⟨rfl, rfl⟩

theorem unrow_len (A : Option Addr) (n c k : Nat) (w : World) (hn : n ≤ 9223372036854775807) (h1 : 1 ≤ k) (h4 : k ≤ 4) (h : n % k ≠ 0) :
    Calls Try.prog 58 #[.slice A n c, .int .i64 (k : Int)] w fun e w' => e = .returned (.tuple #[.slice none 0 0, .int .i64 6]) ∧ w = w' := by
  have hr : ((n : Int) % (k : Int) != 0) = true := by
    have : (n : Int) % (k : Int) ≠ 0 := by omega
    simp [this]
  go_enter Try.func58, Try.ntmps58
  go_wp2_with fail
  with_reducible refine (isSize_yes k _ h1 h4).mono ?_
  rintro e w' ⟨rfl, rfl⟩
  go_wp2
  go_ret2
  exact ⟨rfl, rfl⟩

/-- The answer: a slice that reads as n numbers g, and no error. -/
def BearsI (n : Nat) (g : Nat → Int) (w : World) (e : Ending) (w' : World) : Prop :=
  ∃ v, e = .returned (.tuple #[v, .int .i64 0]) ∧ ReadsI w' v n g ∧ Below w.heap.size w w'

/-- Unrow's numbers as far as the first i. -/
def upTo (f : Nat → Nat) (k i : Nat) (j : Nat) : Int := if j < i then (rowN f k j : Int) else 0
def UnrowLoop (f : Nat → Nat) (k q : Nat) (w : World) (x : Value) (wr : World) : Prop :=
  ∃ i : Nat, i ≤ q ∧ x = .int .i64 (i : Int) ∧ IntsLie wr w.heap.size (upTo f k i) q ∧ Below w.heap.size w wr
theorem rowN_small {f : Nat → Nat} {k n i : Nat} (h4 : k ≤ 4) (hf : ∀ i, i < n → f i < 256) (hi : i * k + k ≤ n) : rowN f k i < 4294967296 := by
  have h1 := rowN_lt (f := f) (k := k) (i := i) fun j hj => hf _ (by omega)
  have h2 := pow_le_four h4
  omega

theorem unrow_ok (A : Option Addr) (n q c k : Nat) (f : Nat → Nat) (w : World) (hn : n = q * k) (hc : n ≤ c) (hm : c ≤ 9223372036854775807) (hq : 8 * q ≤ 281474976710656) (h1 : 1 ≤ k) (h4 : k ≤ 4) (h : BytesAt w A n f) :
    Calls Try.prog 58 #[.slice A n c, .int .i64 (k : Int)] w (BearsI q (fun i => (rowN f k i : Int)) w) := by
  have H := Lib.hid h
  have hmk := make_ints q hq
  have e1 : (n : Int) % (k : Int) = 0 := by rw [hn, Int.natCast_mul]; exact Int.mul_emod_left _ _
  have e2 : (n : Int) / (k : Int) = (q : Int) := by rw [hn, Int.natCast_mul]; exact Int.mul_ediv_cancel _ (by omega)
  have hk0 : ¬ (k : Int) = 0 := by omega
  have HN := Lib.hid hn
  clear h hn
  go_enter Try.func58, Try.ntmps58
  go_wp2_with fail
  with_reducible refine (isSize_yes k _ h1 h4).mono ?_
  rintro e w' ⟨rfl, rfl⟩
  go_wp2
  clear hmk e1 e2
  go_loopw [23] (fun x wr => UnrowLoop f k q w x wr) (fun x _ => q - (intOf x).toNat)
  case atStart => exact ⟨0, by omega, rfl, (made_ints _ q).congr (fun i _ => by unfold upTo; rw [if_neg (by omega)]), (Below.refl _ _).alloc (Nat.le_refl _) _⟩
  case round =>
    obtain ⟨i, hi, rfl, hl, hb⟩ := hrel
    have HL := Lib.hid hl
    have HB := Lib.hid hb
    clear hl hb
    by_cases hk : i < q
    · obtain ⟨p, hp⟩ : ∃ p, p = i * k := ⟨_, rfl⟩
      have hpn : p + k ≤ n := by
        have h5 : (i + 1) * k ≤ q * k := Nat.mul_le_mul_right k hk
        rw [HN.out, hp]
        rw [Nat.add_mul, Nat.one_mul] at h5
        exact h5
      have p1 : (i : Int) * (k : Int) = (p : Int) := by rw [hp, Int.natCast_mul]
      have p2 : ((i : Int) + 1) * (k : Int) = ((p + k : Nat) : Int) := by rw [Int.add_mul, p1]; omega
      obtain ⟨ad, rfl⟩ := H.out.addr (by omega)
      have HS := Lib.hid ((H.out.below HB.out).from_ hpn)
      have d2 : ¬ c = p := by omega
      have c0 := HL.out.cell (i := i) hk
      have c1 := HL.out.free i
      have HP := Lib.hid hp
      clear hp
      go_wp2_with fail
      with_reducible refine (number_any (some (ad.add p)) k (c - p) (fun j => f (p + j)) _ h4 HS.out).mono ?_
      rintro e w' ⟨rfl, rfl⟩
      obtain ⟨y, ey⟩ : ∃ y, y = val (fun j => f (p + j)) k := ⟨_, rfl⟩
      rw [← ey]
      have EY : Hid ((y : Int) = upTo f k (i + 1) i) := Lib.hid (by unfold upTo rowN; rw [if_pos (by omega), ey, HP.out])
      clear ey
      go_wp2
      clear p1 p2 c0 c1
      go_roundw
      case rel => exact ⟨i + 1, by omega, by go_num, HL.out.set_ hk EY.out (fun j hj => by
        unfold upTo
        by_cases h5 : j < i
        · rw [if_pos h5, if_pos (by omega)]
        · rw [if_neg h5, if_neg (by omega)]), HB.out.setCell (Nat.le_refl _) _⟩
      case measure => simp [intOf]; omega
    · obtain rfl : i = q := by omega
      go_wp2
      go_ret2
      exact ⟨_, rfl, ⟨_, _, rfl, Nat.le_refl _, by omega, (by intro e; cases e), (HL.out.congr (g := fun i => (rowN f k i : Int)) (fun j hj => by unfold upTo; rw [if_pos hj])).ints (fun j hj => by
        have h5 := rowN_small (i := j) h4 H.out.small (by
          have h6 : (j + 1) * k ≤ i * k := Nat.mul_le_mul_right k hj
          rw [HN.out]
          rw [Nat.add_mul, Nat.one_mul] at h6
          exact h6)
        omega)⟩, HB.out⟩

end Go.Proofs.Ytilknndcaoljnaa
