/- The state without volumes: sound, without places, and it fits. -/
import Derived.Test.YtilknndcaoljnaaStWords
import Derived.Test.YtilknndcaoljnaaCalm
import Derived.Deep.Cut
import Derived.Deep.CutRange
import Derived.Deep.CutBlock
import Derived.Deep.DeepCutAuto
namespace Go.Proofs.Ytilknndcaoljnaa
open Go.RowKit

abbrev z0 : Nat → Nat := fun _ => 0
abbrev zV : Nat → Value := fun _ => .slice none 0 0
/-- The state without volumes. -/
def zState : Value := .agg (scells z0 z0 zV).toArray

theorem unfit_none (v : Value) (w : World) :
    Calls Try.prog 70 #[.slice none 0 0, v] w fun e w' => e = .returned (.int .i64 (-1)) ∧ w = w' := by
  go_enter Try.func70, Try.ntmps70
  go_wp2
  go_loopw [8] (fun i wr => i = .int .i64 0 ∧ w = wr) (fun _ _ => 0)
  case atStart => exact ⟨rfl, rfl⟩
  case round =>
    obtain ⟨rfl, rfl⟩ := hrel
    go_wp2
    go_ret
    exact ⟨rfl, rfl⟩
theorem contains_none (v : Value) (w : World) :
    Calls Try.prog 62 #[.slice none 0 0, v] w fun e w' => e = .returned (.bool false) ∧ w = w' := by
  go_enter Try.func62, Try.ntmps62
  go_wp2_with fail
  with_reducible refine (unfit_none v _).mono ?_
  rintro e w' ⟨rfl, rfl⟩
  go_wp2
  go_ret
  exact ⟨rfl, rfl⟩
theorem entry_none (w : World) :
    Calls Try.prog 61 #[.agg #[.int .i64 0, .int .i64 0]] w fun e w' => e = .returned (.bool true) ∧ Below w.heap.size w w' := by
  go_enter Try.func61, Try.ntmps61
  go_wp2
  go_ret
  exact ⟨rfl, (Below.refl _ _).alloc (Nat.le_refl _) _⟩

theorem sound_none (w : World) :
    Calls Try.prog 48 #[.agg (scells z0 z0 zV).toArray] w (Fresh (.bool true) w) := by
  have ZB := Lib.hid (st_new w z0 z0 zV)
  have B0 : Hid (Below w.heap.size w (w.alloc (.cells (scells z0 z0 zV).toArray 44))) := Lib.hid ((Below.refl _ w).alloc (Nat.le_refl _) _)
  go_enter Try.func48, Try.ntmps48
  go_wp2_with (refine wpList_load_mid rfl 40 (.tmp 5) rfl w.heap.size 0 rfl (ecells z0 z0) _ (StIs.entries ZB.out) Try.underlying40 rfl (entries_len _ _) ?_)
  go_loopw [7] (fun v wr => ∃ i : Nat, i ≤ 8 ∧ v = .int .i64 (i : Int) ∧ StIs wr w.heap.size z0 z0 zV ∧ Below w.heap.size w wr) (fun v _ => 8 - (intOf v).toNat)
  case atStart => exact ⟨0, by omega, rfl, ZB.out, B0.out⟩
  case round =>
    clear ZB B0
    obtain ⟨i, hi, rfl, hs, hb⟩ := hrel
    have HS := Lib.hid hs
    have HB := Lib.hid hb
    clear hs hb
    by_cases h8 : i < 8
    · have hx := fun w => run_entry w z0 z0 h8
      obtain ⟨w2, hw2⟩ : ∃ w2, w2 = wr.alloc (.cells #[.int .i64 0, .int .i64 0] 39) := ⟨_, rfl⟩
      have hc0 : w2.cell? ⟨wr.heap.size, 0, none⟩ = some (.int .i64 0) := by rw [hw2, World.cell?_alloc_mark]; rfl
      have hc1 : w2.cell? ⟨wr.heap.size, 1, none⟩ = some (.int .i64 0) := by rw [hw2, World.cell?_alloc_mark]; rfl
      have hb2 : Below wr.heap.size wr w2 := by rw [hw2]; exact (Below.refl _ _).alloc (Nat.le_refl _) _
      have hr : w2.cell? ⟨w.heap.size, 16 + i, none⟩ = some (.slice none 0 0) := StIs.row (HS.out.below hb2) h8
      have l0 : ∀ z : Later w2, z.val.cell? ⟨wr.heap.size, 0, none⟩ = some (.int .i64 0) := fun z => cell_later z.ext hc0
      have l1 : ∀ z : Later w2, z.val.cell? ⟨wr.heap.size, 1, none⟩ = some (.int .i64 0) := fun z => cell_later z.ext hc1
      have lr : ∀ z : Later w2, z.val.cell? ⟨w.heap.size, 16 + i, none⟩ = some (.slice none 0 0) := fun z => cell_later z.ext hr
      have B2 := Lib.hid (HB.out.trans (hb2.mono HB.out.size))
      have S2 := Lib.hid (HS.out.below hb2)
      clear hc0 hc1 hb2 hr
      go_wp2
      rw [← hw2]
      clear hw2
      refine region_later (by kernel_rfl) (by kernel_rfl) ?_
      repeat (go_big_quiet_step (first
        | (go_at_call 61; exact later_fresh (fun W => entry_none W))))
      refine wpQuiet_nil ?_
      rintro w9 ⟨⟨w3, hb3⟩, hw9⟩
      obtain rfl : w9 = w3 := hw9
      have S3 := Lib.hid (S2.out.below hb3)
      have B3 := Lib.hid (B2.out.trans (hb3.mono B2.out.size))
      have c3 := StIs.row S3.out h8
      clear l0 l1 lr hb3
      go_wp2_with fail
      with_reducible refine (contains_none _ _).mono ?_
      rintro e w' ⟨rfl, rfl⟩
      clear c3
      go_wp2
      go_roundw
      case rel => exact ⟨i + 1, by omega, by go_num, S3.out, B3.out⟩
      case measure => simp [intOf]; omega
    · obtain rfl : i = 8 := by omega
      go_wp2
      go_ret
      exact ⟨rfl, HB.out⟩
end Go.Proofs.Ytilknndcaoljnaa
