
/- What Put asks of its writes ahead of the first one. -/
import Derived.Test.YtmgeifolgdgapaaDvNew
namespace Go.Proofs.Ytmgeifolgdgapaa
open Go.RowKit

/-- Writes that came in: write i is at z i, its bytes are the slice v i, which reads as l i bytes f i. -/
structure WritesIn (w : World) (A : Option Addr) (n : Nat) (z : Nat → Int) (v : Nat → Value) (l : Nat → Nat) (f : Nat → Nat → Nat) : Prop where
  cell : ∀ i, i < n → ∃ ad, A = some ad ∧ w.cell? (ad.add (i * 2)) = some (.int .i64 (z i)) ∧ w.cell? (ad.add (i * 2 + 1)) = some (v i)
  data : ∀ i, i < n → Reads w (v i) (l i) (f i)
  range : ∀ i, i < n → -9223372036854775808 ≤ z i ∧ z i ≤ 9223372036854775807

theorem WritesIn.below {w w' : World} {A : Option Addr} {n : Nat} {z : Nat → Int} {v : Nat → Value} {l : Nat → Nat} {f : Nat → Nat → Nat} (h : WritesIn w A n z v l f) (b : Below w.heap.size w w') : WritesIn w' A n z v l f where
  cell := fun i hi => by
    obtain ⟨ad, e, h1, h2⟩ := h.cell i hi
    exact ⟨ad, e, cell_later b h1, cell_later b h2⟩
  data := fun i hi => (h.data i hi).below b
  range := h.range

/-- Has one of n the mark? -/
def anyB (n : Nat) (p : Nat → Bool) : Bool := decide (∃ i, i < n ∧ p i = true)
theorem anyB_yes {n : Nat} {p : Nat → Bool} {i : Nat} (hi : i < n) (hp : p i = true) : anyB n p = true := decide_eq_true ⟨i, hi, hp⟩
theorem anyB_no {n : Nat} {p : Nat → Bool} (h : ∀ i, i < n → p i = false) : anyB n p = false := decide_eq_false (by rintro ⟨i, hi, hp⟩; rw [h i hi] at hp; cases hp)

set_option maxRecDepth 100000 in
theorem short_any (z : Int) (A : Option Addr) (l c : Nat) (w : World) :
    Calls Try.prog 16 #[.agg #[.int .i64 z, .slice A l c]] w fun e w' => e = .returned (.bool (decide (l ≠ 64))) ∧ Below w.heap.size w w' := by
  by_cases hl : l = 64
  · subst hl
    go_enter Try.func16, Try.ntmps16
    go_wp2
    go_ret
    exact ⟨rfl, (Below.refl _ _).alloc (Nat.le_refl _) _⟩
  · have e : ((l : Int) != 64) = true := by simp; omega
    have e2 : decide (l ≠ 64) = true := by simpa using hl
    rw [e2]
    clear e2
    go_enter Try.func16, Try.ntmps16
    go_wp2
    go_ret
    exact ⟨rfl, (Below.refl _ _).alloc (Nat.le_refl _) _⟩

set_option maxRecDepth 100000 in
theorem beyond_any {w : World} {base g h q : Nat} {L : Value} {D : Dev} (d : IsDev w base g h L D) (hq : w.cell? ⟨q, 0, none⟩ = some (.pointer (some ⟨g, 0, none⟩))) (z : Int) (v : Value) :
    Calls Try.prog 17 #[.agg #[.int .i64 z, v], .pointer (some ⟨q, 0, none⟩)] w fun e w' => e = .returned (.bool (!hasB D z)) ∧ Below w.heap.size w w' := by
  have HD := Lib.hid d
  have hqw := World.block_lt_of_cell? w _ hq
  obtain ⟨b, hb⟩ : ∃ b, b = hasB D z := ⟨_, rfl⟩
  have HB := Lib.hid hb
  rw [← hb]
  clear d hb
  go_enter Try.func17, Try.ntmps17
  go_wp2_with fail
  refine (has_any (HD.out.below ((Below.refl _ _).alloc (Nat.le_refl _) _)) z).mono ?_
  rintro e w' ⟨rfl, rfl⟩
  rw [← HB.out]
  go_wp2
  go_ret
  exact ⟨rfl, (Below.refl _ _).alloc (Nat.le_refl _) _⟩

/-- Is the write's sector not of 64 bytes? Is its place none of the device's? -/
def shortB (l : Nat → Nat) (i : Nat) : Bool := decide (l i ≠ 64)
def beyondB (D : Dev) (z : Nat → Int) (i : Nat) : Bool := !hasB D (z i)

/-- What IndexFunc answers. -/
def Indexed (n : Nat) (p : Nat → Bool) (w : World) (e : Ending) (w' : World) : Prop := ∃ i : Int, e = .returned (.int .i64 i) ∧ decide (0 ≤ i) = anyB n p ∧ Below w.heap.size w w'

set_option maxRecDepth 100000 in
theorem index_short {w : World} {A : Option Addr} {n c : Nat} {z : Nat → Int} {v : Nat → Value} {l : Nat → Nat} {f : Nat → Nat → Nat} (s : WritesIn w A n z v l f) (hn : n ≤ 9223372036854775807) :
    Calls Try.prog 31 #[.slice A n c, .func (.func 16) #[] #[]] w (Indexed n (shortB l) w) := by
  have HS := Lib.hid s
  clear s
  go_enter Try.func31, Try.ntmps31
  go_wp2
  go_loopw [8] (fun x wr => ∃ i : Nat, i ≤ n ∧ x = .int .i64 (i : Int) ∧ (∀ j, j < i → (shortB l) j = false) ∧ Below w.heap.size w wr) (fun x _ => n - (intOf x).toNat)
  case atStart => exact ⟨0, Nat.zero_le _, rfl, fun j hj => absurd hj (by omega), Below.refl _ _⟩
  case round =>
    obtain ⟨i, hi, rfl, hno, hb⟩ := hrel
    have B1 := Lib.hid hb
    have HN := Lib.hid hno
    clear hb hno
    by_cases h0 : i < n
    · have S1 := HS.out.below B1.out
      obtain ⟨ad, rfl, c0, c1⟩ := S1.cell i h0
      obtain ⟨Av, cv, hv, -⟩ := S1.data i h0
      have HV := Lib.hid hv
      clear S1 hv
      rw [HV.out, ← Addr.add_add] at c1
      replace c1 : wr.cell? ⟨(ad.add (i * 2)).block, (ad.add (i * 2)).off + 1, none⟩ = some (.slice Av (l i) cv) := c1
      go_wp2_with fail
      refine (short_any _ _ _ _ _).mono ?_
      rintro e w2 ⟨rfl, hb⟩
      have B2 := Lib.hid (B1.out.trans (hb.mono B1.out.size))
      clear hb c0 c1
      by_cases hp : (shortB l) i = true
      · have HP := Lib.hid hp
        rw [show decide (l i ≠ 64) = true from hp]
        clear hp
        go_wp2
        go_ret
        exact ⟨_, rfl, by rw [anyB_yes h0 HP.out]; simp, B2.out⟩
      · have hp' : (shortB l) i = false := by simpa using hp
        have HP := Lib.hid hp'
        rw [show decide (l i ≠ 64) = false from hp']
        clear hp hp'
        go_wp2
        go_roundw
        case rel => exact ⟨i + 1, by omega, by go_num, fun j hj => by
          rcases Nat.lt_or_ge j i with h5 | h5
          · exact HN.out j h5
          · obtain rfl : j = i := by omega
            exact HP.out, B2.out⟩
        case measure => simp [intOf]; omega
    · obtain rfl : i = n := by omega
      go_wp2
      go_ret
      exact ⟨_, rfl, by rw [anyB_no HN.out]; simp, B1.out⟩

set_option maxRecDepth 100000 in
theorem contains_short {w : World} {A : Option Addr} {n c : Nat} {z : Nat → Int} {v : Nat → Value} {l : Nat → Nat} {f : Nat → Nat → Nat} (s : WritesIn w A n z v l f) (hn : n ≤ 9223372036854775807) :
    Calls Try.prog 15 #[.slice A n c, .func (.func 16) #[] #[]] w (Fresh (.bool (anyB n (shortB l))) w) := by
  have HS := Lib.hid s
  clear s
  go_enter Try.func15, Try.ntmps15
  go_wp2_with fail
  refine (index_short (c := c) HS.out hn ).mono ?_
  rintro e w2 ⟨i, rfl, hi, hb⟩
  have HI := Lib.hid hi
  have B2 := Lib.hid hb
  clear hi hb
  go_wp2
  go_ret
  exact ⟨by rw [HI.out]; rfl, B2.out⟩

set_option maxRecDepth 100000 in
theorem index_beyond {w : World} {A : Option Addr} {n c : Nat} {z : Nat → Int} {v : Nat → Value} {l : Nat → Nat} {f : Nat → Nat → Nat} (s : WritesIn w A n z v l f) (hn : n ≤ 9223372036854775807) {base g h q : Nat} {L : Value} {D : Dev} (d : IsDev w base g h L D) (hq : w.cell? ⟨q, 0, none⟩ = some (.pointer (some ⟨g, 0, none⟩))) :
    Calls Try.prog 31 #[.slice A n c, .func (.func 17) #[] #[.pointer (some ⟨q, 0, none⟩)]] w (Indexed n (beyondB D z) w) := by
  have HS := Lib.hid s
  have HD := Lib.hid d
  have HQ := Lib.hid hq
  clear s d hq
  go_enter Try.func31, Try.ntmps31
  go_wp2
  go_loopw [8] (fun x wr => ∃ i : Nat, i ≤ n ∧ x = .int .i64 (i : Int) ∧ (∀ j, j < i → (beyondB D z) j = false) ∧ Below w.heap.size w wr) (fun x _ => n - (intOf x).toNat)
  case atStart => exact ⟨0, Nat.zero_le _, rfl, fun j hj => absurd hj (by omega), Below.refl _ _⟩
  case round =>
    obtain ⟨i, hi, rfl, hno, hb⟩ := hrel
    have B1 := Lib.hid hb
    have HN := Lib.hid hno
    clear hb hno
    by_cases h0 : i < n
    · have S1 := HS.out.below B1.out
      obtain ⟨ad, rfl, c0, c1⟩ := S1.cell i h0
      obtain ⟨Av, cv, hv, -⟩ := S1.data i h0
      have HV := Lib.hid hv
      clear S1 hv
      rw [HV.out, ← Addr.add_add] at c1
      replace c1 : wr.cell? ⟨(ad.add (i * 2)).block, (ad.add (i * 2)).off + 1, none⟩ = some (.slice Av (l i) cv) := c1
      go_wp2_with fail
      refine (beyond_any (HD.out.below B1.out) (cell_later B1.out HQ.out) _ _).mono ?_
      rintro e w2 ⟨rfl, hb⟩
      have B2 := Lib.hid (B1.out.trans (hb.mono B1.out.size))
      clear hb c0 c1
      by_cases hp : (beyondB D z) i = true
      · have HP := Lib.hid hp
        rw [show (!hasB D (z i)) = true from hp]
        clear hp
        go_wp2
        go_ret
        exact ⟨_, rfl, by rw [anyB_yes h0 HP.out]; simp, B2.out⟩
      · have hp' : (beyondB D z) i = false := by simpa using hp
        have HP := Lib.hid hp'
        rw [show (!hasB D (z i)) = false from hp']
        clear hp hp'
        go_wp2
        go_roundw
        case rel => exact ⟨i + 1, by omega, by go_num, fun j hj => by
          rcases Nat.lt_or_ge j i with h5 | h5
          · exact HN.out j h5
          · obtain rfl : j = i := by omega
            exact HP.out, B2.out⟩
        case measure => simp [intOf]; omega
    · obtain rfl : i = n := by omega
      go_wp2
      go_ret
      exact ⟨_, rfl, by rw [anyB_no HN.out]; simp, B1.out⟩

set_option maxRecDepth 100000 in
theorem contains_beyond {w : World} {A : Option Addr} {n c : Nat} {z : Nat → Int} {v : Nat → Value} {l : Nat → Nat} {f : Nat → Nat → Nat} (s : WritesIn w A n z v l f) (hn : n ≤ 9223372036854775807) {base g h q : Nat} {L : Value} {D : Dev} (d : IsDev w base g h L D) (hq : w.cell? ⟨q, 0, none⟩ = some (.pointer (some ⟨g, 0, none⟩))) :
    Calls Try.prog 15 #[.slice A n c, .func (.func 17) #[] #[.pointer (some ⟨q, 0, none⟩)]] w (Fresh (.bool (anyB n (beyondB D z))) w) := by
  have HS := Lib.hid s
  have HD := Lib.hid d
  have HQ := Lib.hid hq
  clear s d hq
  go_enter Try.func15, Try.ntmps15
  go_wp2_with fail
  refine (index_beyond (c := c) HS.out hn HD.out HQ.out).mono ?_
  rintro e w2 ⟨i, rfl, hi, hb⟩
  have HI := Lib.hid hi
  have B2 := Lib.hid hb
  clear hi hb
  go_wp2
  go_ret
  exact ⟨by rw [HI.out]; rfl, B2.out⟩

end Go.Proofs.Ytmgeifolgdgapaa
