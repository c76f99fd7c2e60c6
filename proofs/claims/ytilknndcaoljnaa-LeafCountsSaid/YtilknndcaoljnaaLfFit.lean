/- The state without volumes fits: no places, an empty map of owners, an empty list. -/
import Derived.Test.YtilknndcaoljnaaLfEmpty
import Derived.Carry
namespace Go.Proofs.Ytilknndcaoljnaa
open Go.RowKit

/-- The rows of places of a state that was loaded. -/
def vcells (V : Nat → Value) : List Value := (List.range 8).map V
theorem vcells_length (V : Nat → Value) : (vcells V).length = 8 := by simp [vcells]
theorem StIs.places {w : World} {b : Nat} {K S : Nat → Nat} {V : Nat → Value} (h : StIs w b K S V) : w.rangeAt b 16 (vcells V) := by
  refine RowIs.range h (by rw [vcells_length]; omega) fun j hj => ?_
  rw [vcells_length] at hj
  rw [scell_row]
  unfold vcells
  rw [List.getElem?_map, List.getElem?_range hj]
  rfl
theorem rows_info : (Try.prog.info? 42).map (·.size) = some 8 := by kernel_rfl
theorem rows_len (V : Nat → Value) : (Try.prog.info? 42).map (·.size) = some (vcells V).length := by rw [vcells_length]; exact rows_info
theorem row_size : ∃ i, Try.prog.info? 41 = some i := by
  have h : (Try.prog.info? 41).isSome = true := by kernel_rfl
  exact Option.isSome_iff_exists.1 h
theorem row_cells : Try.prog.cellsOf 41 = 1 := by kernel_rfl
/-- Row j of a row of rows of places. -/
theorem run_row (w : World) (V : Nat → Value) {j : Nat} (hj : j < 8) :
    (Instr.index 42 (.agg (vcells V).toArray) (.int .i64 (j : Int))).run Try.prog w = .ok (V j) w := by
  obtain ⟨i, hi⟩ := row_size
  have h : 0 ≤ (j : Int) ∧ (j : Int) < ((8 : Nat) : Int) := by omega
  have ha : (isAgg 41).run Try.prog w = .ok false w := by
    unfold isAgg
    rw [Sem.run_bind, run_underlying Try.underlying41 w]
    rfl
  have hx : (vcells V).toArray[j]? = some (V j) := by
    rw [List.getElem?_toArray]
    unfold vcells
    rw [List.getElem?_map, List.getElem?_range hj]
    rfl
  simp only [Instr.index, Sem.run_bind, run_underlying Try.underlying42 w, Result.andThen_ok, asIntOf, Sem.run_pure, if_pos h, run_sizeOf w hi, row_cells]
  rw [Int.toNat_natCast]
  simp only [part, Sem.run_bind, ha, Result.andThen_ok, Bool.false_eq_true, if_false, Nat.mul_one, hx]
  rfl

/-- A map without entries. -/
def NoMap (w : World) (b : Nat) : Prop := w.heap[b]? = some (.map #[] 0)
theorem NoMap.lt {w : World} {b : Nat} (h : NoMap w b) : b < w.heap.size := (Array.getElem?_eq_some_iff.1 h).1
theorem NoMap.below {w w' : World} {b : Nat} (h : NoMap w b) (hb : Below w.heap.size w w') : NoMap w' b := (hb.block b h.lt).trans h

theorem byPlace_none (w : World) :
    Calls Try.prog 49 #[.agg (scells z0 z0 zV).toArray] w fun e w' => ∃ b, e = .returned (.map (some b)) ∧ NoMap w' b ∧ Below w.heap.size w w' := by
  have hmm := @run_makeMap Try.prog
  have ZB := Lib.hid ((st_new w z0 z0 zV).below ((Below.refl _ _).alloc (Nat.le_refl _) (.map #[] 0)))
  have B0 : Hid (Below w.heap.size w ((w.alloc (.cells (scells z0 z0 zV).toArray 44)).alloc (.map #[] 0))) := Lib.hid (((Below.refl _ w).alloc (Nat.le_refl _) _).alloc (by simp) _)
  have M0 : Hid (NoMap ((w.alloc (.cells (scells z0 z0 zV).toArray 44)).alloc (.map #[] 0)) (w.heap.size + 1)) := Lib.hid (by
    have := heap_alloc_new (w.alloc (.cells (scells z0 z0 zV).toArray 44)) (.map #[] 0)
    rw [World.size_alloc] at this
    exact this)
  go_enter Try.func49, Try.ntmps49
  go_wp2_with (refine wpList_load_mid rfl 42 (.tmp 9) rfl w.heap.size 16 rfl (vcells zV) _ (StIs.places ZB.out) Try.underlying42 rfl (rows_len _) ?_)
  go_loopw [11] (fun v wr => ∃ i : Nat, i ≤ 8 ∧ v = .int .i64 (i : Int) ∧ NoMap wr (w.heap.size + 1) ∧ Below w.heap.size w wr) (fun v _ => 8 - (intOf v).toNat)
  case atStart => exact ⟨0, by omega, rfl, M0.out, B0.out⟩
  case round =>
    clear ZB B0 M0
    obtain ⟨i, hi, rfl, hm, hb⟩ := hrel
    have HM := Lib.hid hm
    have HB := Lib.hid hb
    clear hm hb
    by_cases h8 : i < 8
    · have hx := fun w => run_row w zV h8
      go_wp2
      go_loopw [17] (fun v wq => v = .int .i64 0 ∧ wr = wq) (fun _ _ => 0)
      case atStart => exact ⟨rfl, rfl⟩
      case round =>
        obtain ⟨rfl, rfl⟩ := hrel
        go_wp2
        go_roundw
        case rel => exact ⟨i + 1, by omega, by go_num, HM.out, HB.out⟩
        case measure => simp [intOf]; omega
    · obtain rfl : i = 8 := by omega
      go_wp2
      go_ret
      exact ⟨_, rfl, HM.out, HB.out⟩
end Go.Proofs.Ytilknndcaoljnaa
