/- slices.Grow of nil: bytes. -/
import Derived.Test.YtilknndcaoljnaaBytes
namespace Go.Proofs.Ytilknndcaoljnaa
open Go.RowKit

theorem zero_size (k : Nat) : (Builtin.zeroCells (Value.int .u8 0).cells k).size = k := by
  unfold Builtin.zeroCells
  simp [Value.cells]

/-- What append(nil, make([]byte, k)...) leaves, cut to nothing. -/
theorem grow_run (k : Nat) (w : World) (h0 : 0 < k) (hk : k ≤ 140737488355328) :
    ∃ cap w', (Builtin.append_ #[22, 3] 22 #[.slice none 0 0, .int .i64 (k : Int)]).run Try.prog w = .ok (.slice (some ⟨w.heap.size, 0, none⟩) k cap) w' ∧ k ≤ cap ∧ cap ≤ 9223372036854775807 ∧
      (∀ f, Own w' w.heap.size (.slice (some ⟨w.heap.size, 0, none⟩) 0 cap) 0 f) ∧ Below w.heap.size w w' := by
  obtain ⟨i0, hi, hz0, hz1, hz2⟩ := info_parts byte_info
  have hr := Lib.run_append_nil_zeros (P := Try.prog) w 22 3 22 5 i0 (.int .u8 0) .i64 .i64 Try.underlying22 Try.underlying3 hi hz0 k h0 (by omega) (by omega) (by rw [hz2]; omega)
  have hge := grownCap_ge w k 0 5
  have hle := grownCap_le_maxLen w k 0 5 (by unfold maxLen; omega)
  refine ⟨_, _, hr, hge, by unfold maxLen at hle; omega, fun f => ⟨rfl, .inr ⟨w.heap.size, _, _, rfl, Nat.le_refl _, heap_alloc_new w.drew _, Nat.zero_le _, hle, ?_, by simp [cellsOf]⟩⟩, (Below.refl _ _).drew.alloc (Nat.le_refl _) _⟩
  rw [Array.size_append, zero_size, zero_size]
  omega

/-- slices.Grow of nil: an empty row with room. -/
theorem grow_any (k : Nat) (K : Int) (hK : K = (k : Int)) (w : World) (h0 : 0 < k) (hk : k ≤ 140737488355328) :
    Calls Try.prog 55 #[.slice none 0 0, .int .i64 K] w fun e w' => ∃ v, e = .returned v ∧ (∀ f, Own w' w.heap.size v 0 f) ∧ Below w.heap.size w w' := by
  subst hK
  obtain ⟨cap, w1, r1, h1, h2, h3, h4⟩ := grow_run k w h0 hk
  have R1 := Lib.hid r1
  have H3 := Lib.hid h3
  have H4 := Lib.hid h4
  clear r1 h3 h4
  have d0 : decide ((k : Int) < 0) = false := by simp
  go_enter Try.func55, Try.ntmps55
  go_wp2_with (at_builtin; refine Lib.wpList_append_run _ rfl (.tmp 20) (.tmp 21) _ _ rfl _ _ rfl rfl _ _ R1.out ?_)
  go_ret
  exact ⟨_, rfl, H3.out, H4.out⟩

end Go.Proofs.Ytilknndcaoljnaa
