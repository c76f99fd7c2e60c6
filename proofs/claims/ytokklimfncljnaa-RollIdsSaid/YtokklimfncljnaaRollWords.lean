/- A roll: what it is, by its words, and how it lies in memory; New, Entry, first, add. -/
import Derived.Test.YtokklimfncljnaaTabStep
import Derived.StillTailTactics
import Derived.RegionTactic
import Derived.BigRegion
import Derived.ChangeAlike
namespace Go.Proofs.Ytokklimfncljnaa
open Go.RowKit

/-- The cells of a roll: eight kinds and sizes, eight tables. -/
def rcell (K S : Nat → Nat) (T : Nat → Option Addr) (t : Nat) : Value := if t < 16 then (if t % 2 = 0 then .int .i64 (K (t / 2) : Int) else .int .i64 (S (t / 2) : Int)) else .pointer (T (t - 16))
abbrev RollIs (w : World) (g : Nat) (K S : Nat → Nat) (T : Nat → Option Addr) : Prop := RowIs w g 38 (rcell K S T) 24
theorem rcell_kind (K S : Nat → Nat) (T : Nat → Option Addr) {i : Nat} (hi : i < 8) : rcell K S T (i * 2) = .int .i64 (K i : Int) := by
  unfold rcell
  rw [if_pos (by omega), if_pos (by omega), show i * 2 / 2 = i by omega]
theorem rcell_size (K S : Nat → Nat) (T : Nat → Option Addr) {i : Nat} (hi : i < 8) : rcell K S T (i * 2 + 1) = .int .i64 (S i : Int) := by
  unfold rcell
  rw [if_pos (by omega), if_neg (by omega), show (i * 2 + 1) / 2 = i by omega]
theorem rcell_tab (K S : Nat → Nat) (T : Nat → Option Addr) (i : Nat) : rcell K S T (16 + i) = .pointer (T i) := by
  unfold rcell
  rw [if_neg (by omega), show 16 + i - 16 = i by omega]
theorem RollIs.kind {w : World} {g : Nat} {K S : Nat → Nat} {T : Nat → Option Addr} (h : RollIs w g K S T) {i : Nat} (hi : i < 8) : w.cell? ⟨g, i * 2, none⟩ = some (.int .i64 (K i : Int)) := by rw [RowIs.cell h (by omega), rcell_kind K S T hi]
theorem RollIs.size {w : World} {g : Nat} {K S : Nat → Nat} {T : Nat → Option Addr} (h : RollIs w g K S T) {i : Nat} (hi : i < 8) : w.cell? ⟨g, i * 2 + 1, none⟩ = some (.int .i64 (S i : Int)) := by rw [RowIs.cell h (by omega), rcell_size K S T hi]
theorem RollIs.tab {w : World} {g : Nat} {K S : Nat → Nat} {T : Nat → Option Addr} (h : RollIs w g K S T) {i : Nat} (hi : i < 8) : w.cell? ⟨g, 16 + i, none⟩ = some (.pointer (T i)) := by rw [RowIs.cell h (by omega), rcell_tab]

/-- The id i has another number. -/
def at_ {α : Type} (f : Nat → α) (i : Nat) (x : α) (j : Nat) : α := if j = i then x else f j

theorem rnew_any (w : World) : Calls Try.prog 4 #[] w fun e w' => ∃ g, e = .returned (.pointer (some ⟨g, 0, none⟩)) ∧ RollIs w' g (fun _ => 0) (fun _ => 0) (fun _ => none) ∧ w.heap.size ≤ g ∧ Below w.heap.size w w' := by
  go_enter Try.func4, Try.ntmps4
  go_wp2
  go_ret
  refine ⟨_, rfl, ?_, Nat.le_refl _, (Below.refl _ _).alloc (Nat.le_refl _) _⟩
  show RowIs _ _ _ _ _
  unfold RowIs
  rw [heap_alloc_new]
  rfl

/-- The closure that looks at an entry's kind. -/
theorem kind_any {w : World} {p : Nat} {x y z : Int} (hp : w.cell? ⟨p, 0, none⟩ = some (.int .i64 z)) :
    Calls Try.prog 22 #[.agg #[.int .i64 x, .int .i64 y], .pointer (some ⟨p, 0, none⟩)] w (Fresh (.bool (x == z)) w) := by
  have hq : ∀ o : Obj, (w.alloc o).cell? ⟨p, 0, none⟩ = some (.int .i64 z) := fun o => cell_later ((Below.refl _ w).alloc (Nat.le_refl _) o) hp
  go_enter Try.func22, Try.ntmps22
  go_wp2
  go_ret
  exact ⟨rfl, (Below.refl _ _).alloc (Nat.le_refl _) _⟩

/-- The least of the first n ids that is free, or none: what IndexFunc answers. -/
def Least (K : Nat → Nat) (v : Int) : Prop := (∃ i : Nat, i < 8 ∧ v = (i : Int) ∧ K i = 0 ∧ ∀ j, j < i → K j ≠ 0) ∨ (v = -1 ∧ ∀ j, j < 8 → K j ≠ 0)
def Leastly (K : Nat → Nat) (w : World) (e : Ending) (w' : World) : Prop := ∃ v, e = .returned (.int .i64 v) ∧ Least K v ∧ Below w.heap.size w w'

theorem indexfunc_any {w : World} {g p : Nat} {K S : Nat → Nat} {T : Nat → Option Addr} (h : RollIs w g K S T) (hp : w.cell? ⟨p, 0, none⟩ = some (.int .i64 0)) :
    Calls Try.prog 21 #[.slice (some ⟨g, 0, none⟩) 8 8, .func (.func 22) #[] #[.pointer (some ⟨p, 0, none⟩)]] w (Leastly K w) := by
  have HR := Lib.hid h
  have HP := Lib.hid hp
  clear h hp
  go_enter Try.func21, Try.ntmps21
  go_wp2
  go_loopw [8] (fun v wr => ∃ i : Nat, i ≤ 8 ∧ v = .int .i64 (i : Int) ∧ (∀ j, j < i → K j ≠ 0) ∧ Below w.heap.size w wr) (fun v _ => 8 - (intOf v).toNat)
  case atStart => exact ⟨0, by omega, rfl, (fun j hj => by omega), Below.refl _ _⟩
  case round =>
    obtain ⟨i, hi, rfl, hk, hb⟩ := hrel
    have HK := Lib.hid hk
    have HB := Lib.hid hb
    have R1 : Hid (RollIs wr g K S T) := Lib.hid (RowIs.below HR.out hb)
    have P1 := Lib.hid (cell_later hb HP.out)
    clear hk hb
    by_cases h0 : i < 8
    · have c0 := RollIs.kind R1.out h0
      have c1 := RollIs.size R1.out h0
      obtain ⟨x, hx⟩ : ∃ x, x = K i := ⟨_, rfl⟩
      rw [← hx] at c0
      have HX := Lib.hid hx
      clear hx
      go_wp2_with fail
      refine (kind_any (x := (x : Int)) P1.out).mono ?_
      rintro e w1 ⟨rfl, hb1⟩
      have B1 := Lib.hid (HB.out.trans (hb1.mono HB.out.size))
      clear c0 c1 hb1
      by_cases e : x = 0
      · subst e
        go_wp2
        go_ret
        exact ⟨_, rfl, .inl ⟨i, h0, rfl, HX.out.symm, HK.out⟩, B1.out⟩
      · have he : ((x : Int) == 0) = false := by simpa using e
        have HE := Lib.hid e
        rw [he]
        clear e he
        go_wp2
        go_roundw
        case rel => exact ⟨i + 1, by omega, by go_num, (fun j hj => by
          rcases Nat.lt_succ_iff_lt_or_eq.1 hj with h5 | rfl
          · exact HK.out j h5
          · rw [← HX.out]; exact HE.out), B1.out⟩
        case measure => simp [intOf]; omega
    · obtain rfl : i = 8 := by omega
      go_wp2
      go_ret
      exact ⟨_, rfl, .inr ⟨rfl, HK.out⟩, HB.out⟩

theorem first_any {w : World} {g : Nat} {K S : Nat → Nat} {T : Nat → Option Addr} (h : RollIs w g K S T) :
    Calls Try.prog 16 #[.pointer (some ⟨g, 0, none⟩), .int .i64 0] w (Leastly K w) := by
  have HB : Hid (Below w.heap.size w (w.alloc (.cells #[.int .i64 0] 3))) := Lib.hid ((Below.refl _ w).alloc (Nat.le_refl _) _)
  have HR := Lib.hid (RowIs.below h HB.out)
  clear h
  go_enter Try.func16, Try.ntmps16
  go_wp2_with fail
  refine (indexfunc_any (S := S) (T := T) HR.out (by rw [cell_of_row _ _ _ _ _ _ (heap_alloc_new _ _)]; rfl)).mono ?_
  rintro e w1 ⟨v, rfl, hl, hb⟩
  have HL := Lib.hid hl
  have B1 := Lib.hid (HB.out.trans (hb.mono HB.out.size))
  clear hl hb
  go_wp2
  go_ret
  exact ⟨v, rfl, HL.out, B1.out⟩
end Go.Proofs.Ytokklimfncljnaa
