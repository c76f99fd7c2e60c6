/- The document's Sound: of the state without volumes. -/
import Derived.Test.YtilknndcaoljnaaLfEmpty
namespace Go.Proofs.Ytilknndcaoljnaa
open Go.RowKit

set_option maxRecDepth 100000 in
set_option maxHeartbeats 1000000 in
theorem refSound_none (w : World) :
    Calls Try.prog 15 #[.agg (scells z0 z0 zV).toArray] w (Fresh (.bool true) w) := by
  have ZB := Lib.hid (st_new w z0 z0 zV)
  have B0 : Hid (Below w.heap.size w (w.alloc (.cells (scells z0 z0 zV).toArray 44))) := Lib.hid ((Below.refl _ w).alloc (Nat.le_refl _) _)
  go_enter Try.func15, Try.ntmps15
  go_wp2_with fail
  go_loopw [3] (fun v wr => ∃ i : Nat, i ≤ 8 ∧ v = .int .i64 (i : Int) ∧ StIs wr w.heap.size z0 z0 zV ∧ Below w.heap.size w wr) (fun v _ => 8 - (intOf v).toNat)
  case atStart => exact ⟨0, by omega, rfl, ZB.out, B0.out⟩
  case round =>
    clear ZB B0
    obtain ⟨i, hi, rfl, hs, hb⟩ := hrel
    have HS := Lib.hid hs
    have HB := Lib.hid hb
    by_cases h8 : i < 8
    · have x0 := hs.kind h8
      have x1 := hs.size h8
      have xr := hs.row h8
      obtain ⟨w2, hw2⟩ : ∃ w2, w2 = wr.alloc (.cells #[.int .i64 0, .int .i64 0] 39) := ⟨_, rfl⟩
      have hc0 : w2.cell? ⟨wr.heap.size, 0, none⟩ = some (.int .i64 0) := by rw [hw2, World.cell?_alloc_mark]; rfl
      have hc1 : w2.cell? ⟨wr.heap.size, 1, none⟩ = some (.int .i64 0) := by rw [hw2, World.cell?_alloc_mark]; rfl
      have hb2 : Below wr.heap.size wr w2 := by rw [hw2]; exact (Below.refl _ _).alloc (Nat.le_refl _) _
      have hr : w2.cell? ⟨w.heap.size, 16 + i, none⟩ = some (.slice none 0 0) := StIs.row (HS.out.below hb2) h8
      have l0 : ∀ z : Later w2, z.val.cell? ⟨wr.heap.size, 0, none⟩ = some (.int .i64 0) := fun z => cell_later z.ext hc0
      have l1 : ∀ z : Later w2, z.val.cell? ⟨wr.heap.size, 1, none⟩ = some (.int .i64 0) := fun z => cell_later z.ext hc1
      have lr : ∀ z : Later w2, z.val.cell? ⟨w.heap.size, 16 + i, none⟩ = some (.slice none 0 0) := fun z => cell_later z.ext hr
      have B2 := Lib.hid (HB.out.trans (hb2.mono HB.out.size))
      have S2 := Lib.hid (HS.out.below hb2)
      clear hs hb hb2
      go_wp2_with fail
      rw [← hw2]
      clear hw2 x0 x1 xr
      refine region_later (by kernel_rfl) (by kernel_rfl) ?_
      repeat (go_big_quiet_step (fail))
      refine wpQuiet_nil ?_
      rintro w9 ⟨⟨w3, hb3⟩, hw9⟩
      obtain rfl : w9 = w3 := hw9
      have S3 := Lib.hid (S2.out.below hb3)
      have B3 := Lib.hid (B2.out.trans (hb3.mono B2.out.size))
      have c3 := StIs.row S3.out h8
      clear l0 l1 lr hb3 hc0 hc1 hr
      go_wp2
      go_loopw [5] (fun v wr => v = .int .i64 0 ∧ wr = w9) (fun _ _ => 0)
      case atStart => exact ⟨rfl, rfl⟩
      case round =>
        obtain ⟨rfl, rfl⟩ := hrel
        go_wp2
        go_roundw
        case rel => exact ⟨i + 1, by omega, by go_num, S3.out, B3.out⟩
        case measure => simp [intOf]; omega
    · obtain rfl : i = 8 := by omega
      clear hs hb
      go_wp2
      go_ret
      exact ⟨rfl, HB.out⟩
end Go.Proofs.Ytilknndcaoljnaa
