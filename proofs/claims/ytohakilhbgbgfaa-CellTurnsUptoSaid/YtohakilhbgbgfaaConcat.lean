/- slices.Concat of two slices of bytes. -/
import Derived.Test.YtohakilhbgbgfaaBytes
namespace Go.Proofs.Ytohakilhbgbgfaa
open Go.RowKit

theorem zero_size (k : Nat) : (Builtin.zeroCells (Value.int .u8 0).cells k).size = k := by
  unfold Builtin.zeroCells
  simp [Value.cells]

/-- What append(nil, make([]byte, k)...) leaves, cut to nothing. -/
theorem grow_run (k : Nat) (w : World) (h0 : 0 < k) (hk : k ≤ 140737488355328) :
    ∃ cap w', (Builtin.append_ #[22, 3] 22 #[.slice none 0 0, .int .i64 (k : Int)]).run Try.prog w = .ok (.slice (some ⟨w.heap.size, 0, none⟩) k cap) w' ∧ k ≤ cap ∧ cap ≤ 9223372036854775807 ∧
      (∀ f, Own w' w.heap.size (.slice (some ⟨w.heap.size, 0, none⟩) 0 cap) 0 f) ∧ Below w.heap.size w w' := by
  obtain ⟨i0, hi, hz0, hz1, hz2⟩ := info_parts byte_info
  have hr := Lib.run_append_nil_zeros (P := Try.prog) w 22 3 22 5 i0 (.int .u8 0) .i64 .i64 Try.underlying22 Try.underlying3 hi hz0 k h0 (by omega) (by omega) (by rw [hz2]; omega)
  have hge := grownCap_ge w k 0 5
  have hle := grownCap_le_maxLen w k 0 5 (by unfold maxLen; omega)
  refine ⟨_, _, hr, hge, by unfold maxLen at hle; omega, fun f => ⟨rfl, .inr ⟨w.heap.size, _, _, rfl, Nat.le_refl _, heap_alloc_new w.drew _, Nat.zero_le _, hle, ?_, by simp [cellsOf]⟩⟩, (Below.refl _ _).drew.alloc (Nat.le_refl _) _⟩
  rw [Array.size_append, zero_size, zero_size]
  omega

/-- slices.Grow of nil: an empty row with room. -/
theorem grow_any (k : Nat) (K : Int) (hK : K = (k : Int)) (w : World) (h0 : 0 < k) (hk : k ≤ 140737488355328) :
    Calls Try.prog 26 #[.slice none 0 0, .int .i64 K] w fun e w' => ∃ v, e = .returned v ∧ (∀ f, Own w' w.heap.size v 0 f) ∧ Below w.heap.size w w' := by
  subst hK
  obtain ⟨cap, w1, r1, h1, h2, h3, h4⟩ := grow_run k w h0 hk
  have R1 := Lib.hid r1
  have H3 := Lib.hid h3
  have H4 := Lib.hid h4
  clear r1 h3 h4
  have d0 : decide ((k : Int) < 0) = false := by simp
  go_enter Try.func26, Try.ntmps26
  go_wp2_with (at_builtin; refine Lib.wpList_append_run _ rfl (.tmp 20) (.tmp 21) _ _ rfl _ _ rfl rfl _ _ R1.out ?_)
  go_ret
  exact ⟨_, rfl, H3.out, H4.out⟩

theorem concat_any (b : Nat) (va vb : Value) (n m : Nat) (f g : Nat → Nat) (w : World) (h0 : w.cell? ⟨b, 0, none⟩ = some va) (h1 : w.cell? ⟨b, 1, none⟩ = some vb) (ha : Reads w va n f) (hb : Reads w vb m g) (hm : 0 < m) (hn : n + m ≤ 140737488355328) :
    Calls Try.prog 20 #[.slice (some ⟨b, 0, none⟩) 2 2] w fun e w' => ∃ v, e = .returned v ∧ Reads w' v (n + m) (behind f n g) ∧ Below w.heap.size w w' := by
  obtain ⟨A, c, rfl, ha1, ha2, ha3, ha4⟩ := ha
  obtain ⟨B, d, rfl, hb1, hb2, hb3, hb4⟩ := hb
  have S1 := Lib.hid ha4
  have S2 := Lib.hid hb4
  clear ha4 hb4
  go_enter Try.func20, Try.ntmps20
  go_wp2
  refine wp_loop_rounds 3 ?_
  rw [rounds_succ]
  go_wp2
  rw [rounds_succ]
  go_wp2
  rw [rounds_succ]
  go_wp2_with fail
  with_reducible refine (grow_any (n + m) _ (by omega) _ (by omega) hn).mono ?_
  rintro e w1 ⟨v1, rfl, o1, b1⟩
  obtain ⟨v2, w2, r2, o2, _, g2⟩ := run_bytes (c := c) 22 (o1 f) (S1.out.below b1) ha3 (by omega) b1.size
  have b2 : Below w.heap.size w w2 := (o1 f).grown_below b1 (Nat.le_refl _) b1.size g2
  obtain ⟨v3, w3, r3, o3, _, g3⟩ := run_bytes (c := d) 22 o2 (S2.out.below b2) hb3 (by omega) b2.size
  have b3 : Below w.heap.size w w3 := o2.grown_below b2 (Nat.le_refl _) b2.size g3
  have o4 : Own w3 w.heap.size v3 (n + m) (behind f n g) := Own.congr (n := n + m) (by rw [Nat.zero_add] at o3; exact o3) fun i hi => by
    unfold behind
    by_cases hin : i < n
    · rw [if_pos (by omega), if_neg (by omega), if_pos hin]; rfl
    · rw [if_neg (by omega), if_neg hin]
  have R2 := Lib.hid r2
  have R3 := Lib.hid r3
  have O4 := Lib.hid o4
  have B3 := Lib.hid b3
  have q0 := cell_later b1 h0
  have q1 := cell_later b2 h1
  clear r2 r3 o4 b3 o1 o2 o3 g2 g3 b1 b2 h0 h1
  go_wp2
  refine wp_loop_rounds 3 ?_
  rw [rounds_succ]
  go_wp2_with (at_builtin; refine Lib.wpList_append_run _ rfl (.tmp 31) (.tmp 32) _ _ rfl _ _ rfl rfl _ _ R2.out ?_)
  rw [rounds_succ]
  go_wp2_with (at_builtin; refine Lib.wpList_append_run _ rfl (.tmp 31) (.tmp 32) _ _ rfl _ _ rfl rfl _ _ R3.out ?_)
  rw [rounds_succ]
  go_wp2
  go_ret
  exact ⟨_, rfl, O4.out.reads (behind_lt S1.out.small S2.out.small), B3.out⟩

end Go.Proofs.Ytohakilhbgbgfaa
