/- The first facts, which the statements of package cell ask; and what two programs answer of any arguments, told alike. -/
import Derived.Test.YtohakilhbgbgfaaCellRefRow
namespace Go.Proofs.Ytohakilhbgbgfaa
open Go.RowKit

theorem awake_text : str (behind (fun _ => 0) 0 (dig 258 3)) (0 + 3) = ⟨#[0, 1, 2]⟩ := by decide +kernel
theorem awake_number : val (fun j => behind (fun _ => 0) 0 (dig 258 3) (1 + j)) 2 = 258 := by decide +kernel

theorem awake_any (w : World) : Calls Try.prog 12 #[] w (Fresh (.bool true) w) := by
  go_enter Try.func12, Try.ntmps12
  go_wp2_with fail
  refine (put_ok (.slice none 0 0) 0 (fun _ => 0) 3 258 w (by omega) (by omega) (by omega) (reads_none _ _) (by omega)).mono ?_
  rintro e w1 ⟨v, rfl, hr, hb⟩
  obtain ⟨A, c, rfl, p1, p2, p3, p4⟩ := hr
  have HB := Lib.hid hb
  have H4 := Lib.hid p4
  have k1 : (convert 22 9 (.slice A 3 c)).run Try.prog w1 = .ok (.string ⟨#[0, 1, 2]⟩) w1 := by
    rw [← awake_text]
    exact conv_str c p4
  clear hb p4
  go_wp2_with fail
  refine (get_ok A 3 c _ 1 2 w1 p1 p2 (by omega) (by omega) (by omega) H4.out).mono ?_
  rintro e w' ⟨rfl, rfl⟩
  rw [awake_number]
  go_wp2
  go_ret
  exact ⟨rfl, HB.out⟩

/-- The answer: a slice that reads as n bytes f, and an error's number. -/
def Told (x : Int) (n : Nat) (f : Nat → Nat) (w : World) (e : Ending) (w' : World) : Prop :=
  ∃ v, e = .returned (.tuple #[v, .int .i64 x]) ∧ Reads w' v n f ∧ Below w.heap.size w w'
theorem told_bears {n : Nat} {f : Nat → Nat} {w : World} {e : Ending} {w' : World} (h : Bears n f w e w') : Told 0 n f w e w' := h
theorem told_same {x : Int} {w : World} {e : Ending} {w' : World} (h : e = .returned (.tuple #[.slice none 0 0, .int .i64 x]) ∧ w = w') : Told x 0 (fun _ => 0) w e w' := by
  obtain ⟨he, rfl⟩ := h
  exact ⟨_, he, reads_none _ _, Below.refl _ _⟩
theorem told_below {x : Int} {w : World} {e : Ending} {w' : World} (h : e = .returned (.tuple #[.slice none 0 0, .int .i64 x]) ∧ Below w.heap.size w w') : Told x 0 (fun _ => 0) w e w' :=
  ⟨_, h.1, reads_none _ _, h.2⟩
/-- The same of a slice of numbers. -/
def ToldI (x : Int) (n : Nat) (g : Nat → Int) (w : World) (e : Ending) (w' : World) : Prop :=
  ∃ v, e = .returned (.tuple #[v, .int .i64 x]) ∧ ReadsI w' v n g ∧ Below w.heap.size w w'
theorem toldI_same {x : Int} {w : World} {e : Ending} {w' : World} (h : e = .returned (.tuple #[.slice none 0 0, .int .i64 x]) ∧ w = w') : ToldI x 0 (fun _ => 0) w e w' := by
  obtain ⟨he, rfl⟩ := h
  exact ⟨_, he, readsI_none _ _, Below.refl _ _⟩

/-- A size is one of four, or none. -/
theorem size_cases (s : Int) : (∃ k : Nat, s = (k : Int) ∧ 1 ≤ k ∧ k ≤ 4) ∨ ¬ (1 ≤ s ∧ s ≤ 4) := by
  by_cases h : 1 ≤ s ∧ s ≤ 4
  · exact .inl ⟨s.toNat, by omega, by omega, by omega⟩
  · exact .inr h

theorem puts (v : Value) (m : Nat) (f : Nat → Nat) (s n : Int) (w : World) (hz : -9223372036854775808 ≤ n ∧ n ≤ 9223372036854775807) (hv : Reads w v m f) (hm : m ≤ 140737488351232) :
    ∃ x q h, (∀ W, Below w.heap.size w W → Calls Try.prog 10 #[v, .int .i64 s, .int .i64 n] W (Told x q h W)) ∧
      (∀ W, Below w.heap.size w W → Calls Try.prog 11 #[v, .int .i64 s, .int .i64 n] W (Told x q h W)) := by
  rcases size_cases s with ⟨k, rfl, h1, h4⟩ | hs
  · by_cases hn : 0 ≤ n ∧ n < ((256 ^ k : Nat) : Int)
    · obtain ⟨N, rfl⟩ := Int.eq_ofNat_of_zero_le hn.1
      have hN : N < 256 ^ k := by omega
      exact ⟨0, _, _, fun W hW => (put_ok v m f k N W h1 h4 hN (hv.below hW) (by omega)).mono fun _ _ he => told_bears he, fun W hW => (refPut_ok v m f k N W h1 h4 hN (hv.below hW) (by omega)).mono fun _ _ he => told_bears he⟩
    · exact ⟨5, _, _, fun W _ => (put_range v k n W h1 h4 hz hn).mono fun _ _ he => told_below he, fun W _ => (refPut_range v k n W h1 h4 hn).mono fun _ _ he => told_same he⟩
  · exact ⟨1, _, _, fun W _ => (put_arg v s n W hs).mono fun _ _ he => told_below he, fun W _ => (refPut_arg v s n W hs).mono fun _ _ he => told_same he⟩

theorem gets (v : Value) (n : Nat) (f : Nat → Nat) (t s : Int) (w : World) (hv : Reads w v n f) :
    ∃ x y, (∀ W, Below w.heap.size w W → Calls Try.prog 13 #[v, .int .i64 t, .int .i64 s] W fun e w' => e = .returned (.tuple #[.int .i64 y, .int .i64 x]) ∧ W = w') ∧
      (∀ W, Below w.heap.size w W → Calls Try.prog 14 #[v, .int .i64 t, .int .i64 s] W fun e w' => e = .returned (.tuple #[.int .i64 y, .int .i64 x]) ∧ W = w') := by
  obtain ⟨A, c, rfl, p1, p2, _, p4⟩ := hv
  rcases size_cases s with ⟨k, rfl, h1, h4⟩ | hs
  · by_cases ht : 0 ≤ t ∧ t + k ≤ n
    · obtain ⟨T, rfl⟩ := Int.eq_ofNat_of_zero_le ht.1
      exact ⟨0, _, fun W hW => get_ok A n c f T k W p1 p2 h1 h4 (by omega) (p4.below hW), fun W hW => refGet_ok A n c f T k W p1 p2 h1 h4 (by omega) (p4.below hW)⟩
    · exact ⟨3, _, fun W _ => get_short A n c t k W (by omega) h1 h4 ht, fun W _ => refGet_short A n c t k W (by omega) h1 h4 ht⟩
  · exact ⟨1, _, fun W _ => get_arg _ t s W hs, fun W _ => refGet_arg _ t s W hs⟩

/-- The first place that is not as it should be. -/
theorem first_not (P : Nat → Prop) (n : Nat) (h : ¬ ∀ i, i < n → P i) : ∃ m, m < n ∧ (∀ i, i < m → P i) ∧ ¬ P m := by
  induction n with
  | zero => exact absurd (fun i hi => absurd hi (by omega)) h
  | succ n ih =>
    by_cases hn : ∀ i, i < n → P i
    · refine ⟨n, by omega, hn, fun hp => h fun i hi => ?_⟩
      by_cases he : i = n
      · subst he; exact hp
      · exact hn i (by omega)
    · obtain ⟨m, hm, h1, h2⟩ := ih hn
      exact ⟨m, by omega, h1, h2⟩

/-- What Row answers of any numbers, in a size that may be. -/
theorem row_cases {w : World} {A : Option Addr} {n : Nat} {g : Nat → Int} (k : Nat) (h : IntsAt w A n g) :
    (∃ G : Nat → Nat, (∀ i, i < n → G i < 256 ^ k) ∧ (∀ i, i < n → g i = (G i : Int)) ∧ IntsAt w A n (fun i => (G i : Int))) ∨
    (∃ m, m < n ∧ (∀ i, i < m → 0 ≤ g i ∧ g i < ((256 ^ k : Nat) : Int)) ∧ ¬ (0 ≤ g m ∧ g m < ((256 ^ k : Nat) : Int))) := by
  by_cases hall : ∀ i, i < n → 0 ≤ g i ∧ g i < ((256 ^ k : Nat) : Int)
  · have he : ∀ i, i < n → g i = (((g i).toNat : Nat) : Int) := fun i hi => by have := (hall i hi).1; omega
    exact .inl ⟨fun i => (g i).toNat, fun i hi => by have := hall i hi; show (g i).toNat < _; omega, he, h.congr he⟩
  · exact .inr (first_not _ n hall)

theorem rows (v : Value) (n : Nat) (g : Nat → Int) (s : Int) (w : World) (hv : ReadsI w v n g) (hn : n * 4 ≤ 140737488355328) :
    ∃ x q h, (∀ W, Below w.heap.size w W → Calls Try.prog 15 #[.int .i64 s, v] W (Told x q h W)) ∧
      (∀ W, Below w.heap.size w W → Calls Try.prog 16 #[.int .i64 s, v] W (Told x q h W)) := by
  obtain ⟨A, c, rfl, p1, p2, _, p4⟩ := hv
  rcases size_cases s with ⟨k, rfl, h1, h4⟩ | hs
  · have hr : n * k ≤ 140737488355328 := Nat.le_trans (Nat.mul_le_mul_left n h4) hn
    rcases row_cases k p4 with ⟨G, hG, _, hI⟩ | ⟨m, hm, hlow, hbad⟩
    · exact ⟨0, _, _, fun W hW => (row_ok k A n c G W h1 h4 (by omega) hr hG (hI.below hW)).mono fun _ _ he => told_bears he, fun W hW => (refRow_ok k A n c G W h1 h4 (by omega) hr hG (hI.below hW)).mono fun _ _ he => told_bears he⟩
    · exact ⟨5, _, _, fun W hW => (row_range k A n c g W h1 h4 (by omega) (p4.below hW) m hm hlow hbad).mono fun _ _ he => told_same he, fun W hW => (refRow_range k A n c g W h1 h4 (by omega) hr (p4.below hW) m hm hlow hbad).mono fun _ _ he => told_below he⟩
  · exact ⟨1, _, _, fun W _ => (row_arg s _ W hs).mono fun _ _ he => told_same he, fun W _ => (refRow_arg _ s W hs).mono fun _ _ he => told_same he⟩

theorem unrows (v : Value) (n : Nat) (f : Nat → Nat) (s : Int) (w : World) (hv : Reads w v n f) (hn : 8 * n ≤ 140737488355328) :
    ∃ x q g, (∀ W, Below w.heap.size w W → Calls Try.prog 17 #[v, .int .i64 s] W (ToldI x q g W)) ∧
      (∀ W, Below w.heap.size w W → Calls Try.prog 18 #[v, .int .i64 s] W (ToldI x q g W)) := by
  obtain ⟨A, c, rfl, p1, p2, _, p4⟩ := hv
  rcases size_cases s with ⟨k, rfl, h1, h4⟩ | hs
  · by_cases hk : n % k = 0
    · have hq : n = n / k * k := by
        have := Nat.div_add_mod n k
        rw [Nat.mul_comm] at this
        omega
      have hle : n / k ≤ n := Nat.div_le_self _ _
      exact ⟨0, n / k, _, fun W hW => unrow_ok A n (n / k) c k f W hq p1 p2 (by omega) h1 h4 (p4.below hW), fun W hW => refUnrow_ok A n (n / k) c k f W hq p1 p2 (by omega) (by omega) h1 h4 (p4.below hW)⟩
    · exact ⟨6, _, _, fun W _ => (unrow_len A n c k W (by omega) h1 h4 hk).mono fun _ _ he => toldI_same he, fun W _ => (refUnrow_len A n c k W (by omega) h1 h4 hk).mono fun _ _ he => toldI_same he⟩
  · exact ⟨1, _, _, fun W _ => (unrow_arg _ s W hs).mono fun _ _ he => toldI_same he, fun W _ => (refUnrow_arg _ s W hs).mono fun _ _ he => toldI_same he⟩

theorem ints_reads (v u : Value) (n : Nat) (g : Nat → Int) (w : World) (h1 : ReadsI w v n g) (h2 : ReadsI w u n g) :
    Calls Try.prog 19 #[v, u] w (Drawn (.bool true) w) := by
  obtain ⟨A, c, rfl, p1, p2, _, p4⟩ := h1
  obtain ⟨B, d, rfl, _, _, _, q4⟩ := h2
  exact ints_same A B n c d g w (by omega) p4 q4

theorem i64_in {a : Int} (h : (Lit.int .i64 a).wf = true) : -9223372036854775808 ≤ a ∧ a ≤ 9223372036854775807 := by
  simpa [Lit.wf, IntKind.min, IntKind.max, IntKind.signed, IntKind.bits] using h
theorem u8_in {a : Int} (h : (Lit.int .u8 a).wf = true) : 0 ≤ a ∧ a ≤ 255 := by
  simpa [Lit.wf, IntKind.min, IntKind.max, IntKind.signed, IntKind.bits] using h

end Go.Proofs.Ytohakilhbgbgfaa
