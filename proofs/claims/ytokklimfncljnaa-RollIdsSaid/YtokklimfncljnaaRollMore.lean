/- What package roll answers: no such id; Create, Snap, Get, Set. -/
import Derived.Test.YtokklimfncljnaaRollWalks
namespace Go.Proofs.Ytokklimfncljnaa
open Go.RowKit

theorem entry_none {w : World} {g : Nat} {K S : Nat → Nat} {T : Nat → Option Addr} (h : RollIs w g K S T) {i : Nat} (hi : i < 8) (hk : K i = 0) :
    Calls Try.prog 13 #[.pointer (some ⟨g, 0, none⟩), .int .i64 (i : Int)] w (Fresh (.tuple #[.agg #[.int .i64 0, .int .i64 0], .int .i64 4]) w) := by
  have c0 := RollIs.kind h hi
  rw [hk] at c0
  have hb : ∀ o : Obj, (w.alloc o).cell? ⟨g, i * 2, none⟩ = some (.int .i64 0) := fun o => cell_later ((Below.refl _ w).alloc (Nat.le_refl _) o) c0
  clear c0 h hk
  go_enter Try.func13, Try.ntmps13
  go_wp2
  refine bodyPost_ret (results_row_tmp (fn := Try.f13) rfl _ _ w.heap.size 33 #[.int .i64 0, .int .i64 0] (0, 0) _ rfl ?_ Try.underlying33 rfl entry_len) rfl ⟨rfl, ?_⟩
  · exact heap_alloc_new _ _
  · exact (Below.refl _ _).alloc (Nat.le_refl _) _
theorem entry_out (w : World) (g : Nat) (z : Int) (hz : ¬ (0 ≤ z ∧ z < 8)) :
    Calls Try.prog 13 #[.pointer (some ⟨g, 0, none⟩), .int .i64 z] w (Fresh (.tuple #[.agg #[.int .i64 0, .int .i64 0], .int .i64 4]) w) := by
  by_cases h1 : z < 0
  · go_enter Try.func13, Try.ntmps13
    go_wp2
    refine bodyPost_ret (results_row_tmp (fn := Try.f13) rfl _ _ w.heap.size 33 #[.int .i64 0, .int .i64 0] (0, 0) _ rfl ?_ Try.underlying33 rfl entry_len) rfl ⟨rfl, ?_⟩
    · exact heap_alloc_new _ _
    · exact (Below.refl _ _).alloc (Nat.le_refl _) _
  · have h2 : 8 ≤ z := by omega
    have d1 : decide (z < 0) = false := by simpa using h1
    clear hz
    go_enter Try.func13, Try.ntmps13
    go_wp2
    refine bodyPost_ret (results_row_tmp (fn := Try.f13) rfl _ _ w.heap.size 33 #[.int .i64 0, .int .i64 0] (0, 0) _ rfl ?_ Try.underlying33 rfl entry_len) rfl ⟨rfl, ?_⟩
    · exact heap_alloc_new _ _
    · exact (Below.refl _ _).alloc (Nat.le_refl _) _

theorem delete_none {w : World} {g : Nat} {K S : Nat → Nat} {T : Nat → Option Addr} (h : RollIs w g K S T) {i : Nat} (hi : i < 8) (hk : K i = 0) :
    Calls Try.prog 8 #[.pointer (some ⟨g, 0, none⟩), .int .i64 (i : Int)] w (Fresh (.int .i64 4) w) := by
  go_enter Try.func8, Try.ntmps8
  go_wp2_with fail
  refine (entry_none h hi hk).mono ?_
  rintro e w1 ⟨rfl, hb⟩
  have B1 := Lib.hid hb
  clear h hb
  go_wp2
  go_ret
  exact ⟨rfl, B1.out.alloc B1.out.size _⟩

/-- A volume has been made. -/
def Created (w : World) (g : Nat) (K S : Nat → Nat) (T : Nat → Option Addr) (i n : Nat) (e : Ending) (w' : World) : Prop :=
  ∃ t, e = .returned (.tuple #[.int .i64 (i : Int), .int .i64 0]) ∧ RollIs w' g (at_ K i 1) (at_ S i n) (at_ T i (some ⟨t, 0, none⟩)) ∧ TabAt w' t n (fun _ => none) ∧ Apart (fun b => b = g) w w'

theorem create_ok {w : World} {g : Nat} {K S : Nat → Nat} {T : Nat → Option Addr} (h : RollIs w g K S T) {i : Nat} (hi : i < 8) (h0 : K i = 0) (hf : ∀ j, j < i → K j ≠ 0) (n : Nat) (h1 : 1 ≤ n) (h2 : n ≤ 32) :
    Calls Try.prog 6 #[.pointer (some ⟨g, 0, none⟩), .int .i64 (n : Int)] w (Created w g K S T i n) := by
  have HF := Lib.hid hf
  have H0 := Lib.hid h0
  clear hf h0
  go_enter Try.func6, Try.ntmps6
  go_wp2_with fail
  refine (tnew_ok n _ h1 h2).mono ?_
  rintro e w1 ⟨t, rfl, ht, hb⟩
  have B1 := Lib.hid hb
  have T1 := Lib.hid ht
  have R1 : Hid (RollIs w1 g K S T) := Lib.hid (RowIs.below h hb)
  clear hb ht h
  go_wp2_with fail
  refine (add_ok R1.out hi H0.out HF.out 1 n (some ⟨t, 0, none⟩)).mono ?_
  rintro e w2 ⟨rfl, hr, ha⟩
  have R2 := Lib.hid hr
  have A2 : Hid (Apart (fun b => b = g) w w2) := Lib.hid ((Apart.of_below (F := fun b => b = g) B1.out).trans ha fun _ _ e => e)
  have T2 : Hid (TabAt w2 t n (fun _ => none)) := Lib.hid (T1.out.besides R1.out (by decide) (by decide) ha)
  clear hr ha
  go_wp2
  go_ret2
  exact ⟨t, rfl, R2.out, T2.out, A2.out⟩

theorem create_full {w : World} {g : Nat} {K S : Nat → Nat} {T : Nat → Option Addr} (h : RollIs w g K S T) (hf : ∀ j, j < 8 → K j ≠ 0) (n : Nat) (h1 : 1 ≤ n) (h2 : n ≤ 32) :
    Calls Try.prog 6 #[.pointer (some ⟨g, 0, none⟩), .int .i64 (n : Int)] w (Fresh (.tuple #[.int .i64 0, .int .i64 7]) w) := by
  have HF := Lib.hid hf
  clear hf
  go_enter Try.func6, Try.ntmps6
  go_wp2_with fail
  refine (tnew_ok n _ h1 h2).mono ?_
  rintro e w1 ⟨t, rfl, ht, hb⟩
  have B1 := Lib.hid hb
  have R1 : Hid (RollIs w1 g K S T) := Lib.hid (RowIs.below h hb)
  clear hb ht h
  go_wp2_with fail
  refine (add_full R1.out HF.out 1 n (some ⟨t, 0, none⟩)).mono ?_
  rintro e w2 ⟨rfl, hb⟩
  have B2 := Lib.hid (B1.out.trans (hb.mono B1.out.size))
  clear hb
  go_wp2
  go_ret2
  exact ⟨rfl, B2.out⟩

theorem create_range {w : World} {g : Nat} (z : Int) (hz : ¬ (1 ≤ z ∧ z ≤ 32)) :
    Calls Try.prog 6 #[.pointer (some ⟨g, 0, none⟩), .int .i64 z] w fun e w' => e = .returned (.tuple #[.int .i64 0, .int .i64 5]) ∧ w = w' := by
  have HZ := Lib.hid hz
  clear hz
  go_enter Try.func6, Try.ntmps6
  go_wp2_with fail
  refine (tnew_bad z _ HZ.out).mono ?_
  rintro e w1 ⟨rfl, rfl⟩
  go_wp2
  go_ret2
  exact ⟨rfl, rfl⟩
end Go.Proofs.Ytokklimfncljnaa
