/- What package table answers: New, check, place, with, Put, Get. -/
import Derived.Test.YtokklimfncljnaaTabWith
namespace Go.Proofs.Ytokklimfncljnaa
open Go.RowKit

theorem check_ok {w : World} {g n : Nat} {Z : Nat → Pl} (h : TabAt w g n Z) {i : Nat} (hi : i < n) :
    Calls Try.prog 19 #[.pointer (some ⟨g, 0, none⟩), .int .i64 (i : Int)] w fun e w' => e = .returned (.int .i64 0) ∧ w = w' := by
  obtain ⟨pg, hr, -⟩ := h.ex
  have c0 : w.cell? ⟨g, 0, none⟩ = some (.int .i64 (n : Int)) := RowIs.cell hr (i := 0) (by omega)
  clear hr h
  go_enter Try.func19, Try.ntmps19
  go_wp2
  go_ret
  exact ⟨rfl, rfl⟩

/-- One place. -/
def Placed (p : Pl) (w : World) (e : Ending) (w' : World) : Prop := e = .returned (.complex .f64 (zre p) (zim p)) ∧ Below w.heap.size w w'

theorem run_index_z (w : World) (Z : Nat → Pl) {j : Nat} (hj : j < 8) : (Instr.index 64 (.agg (zcells Z).toArray) (.int .i64 (j : Int))).run Try.prog w = .ok (.complex .f64 (zre (Z j)) (zim (Z j))) w := by
  obtain ⟨i, hi⟩ := place_info
  have h : 0 ≤ (j : Int) ∧ (j : Int) < ((8 : Nat) : Int) := by omega
  simp only [Instr.index, Sem.run_bind, run_underlying Try.underlying64 w, Result.andThen_ok, asIntOf, Sem.run_pure, if_pos h, run_sizeOf w hi, place_cells]
  rw [Int.toNat_natCast]
  exact run_part_z w Z hj

theorem place_of {w : World} {g n : Nat} {Z : Nat → Pl} (h : TabAt w g n Z) {i : Nat} (hi : i < n) :
    Calls Try.prog 20 #[.pointer (some ⟨g, 0, none⟩), .int .i64 (i : Int)] w (Placed (Z i) w) := by
  have hs := h.size
  obtain ⟨pg, hr, hp⟩ := h.ex
  obtain ⟨k, hk⟩ : ∃ k, k = i / 8 := ⟨_, rfl⟩
  obtain ⟨j, hj⟩ : ∃ j, j = i % 8 := ⟨_, rfl⟩
  have hk4 : k < 4 := by omega
  have hj8 : j < 8 := by omega
  have hik : 8 * k + j = i := by omega
  have hq : (i : Int) / 8 = (k : Int) := by omega
  have hm : (i : Int) % 8 = (j : Int) := by omega
  have c1 : w.cell? ⟨g, 1 + k, none⟩ = some (.pointer (pg k)) := by rw [RowIs.cell hr (by omega), tcell_page]
  have P := Lib.hid (hp k hk4)
  have hx := fun w => run_index_z w (fun j => Z (8 * k + j)) hj8
  have HK := Lib.hid hik
  clear hr h hp hk hj hik
  go_enter Try.func20, Try.ntmps20
  go_wp2_with fail
  refine (content_any P.out).mono ?_
  rintro e w1 ⟨rfl, hb⟩
  have B1 := Lib.hid hb
  clear hb c1
  go_wp2
  go_ret
  exact ⟨by rw [HK.out]; rfl, B1.out⟩
end Go.Proofs.Ytokklimfncljnaa
