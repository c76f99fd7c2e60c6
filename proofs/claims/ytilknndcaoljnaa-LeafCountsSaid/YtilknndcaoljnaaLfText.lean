/- The text of the state without volumes: 16 bytes 0. -/
import Derived.Test.YtilknndcaoljnaaLfSort
import Derived.Test.YtilknndcaoljnaaCellRow
namespace Go.Proofs.Ytilknndcaoljnaa
open Go.RowKit

theorem two_new (w : World) : BytesAt (w.alloc (.cells #[.int .u8 0, .int .u8 0] 5)) (some ⟨w.heap.size, 0, none⟩) 2 (fun _ => 0) :=
  ⟨fun _ _ => by show 0 < 256; omega, fun i hi => ⟨_, rfl, by
    rcases (by omega : i = 0 ∨ i = 1) with rfl | rfl <;> (rw [add_nil, World.cell?_alloc_mark]; rfl)⟩⟩
theorem zero_behind (n : Nat) : behind (fun _ => 0) n (fun _ => 0) = fun _ => 0 := by
  funext i
  unfold behind
  split <;> rfl

theorem row_none (W : World) : Calls Try.prog 37 #[.int .i64 2, .slice none 0 0] W (Bears 0 (fun _ => 0) W) := by
  have h := row_ok 2 none 0 0 (fun _ => 0) W (by omega) (by omega) (by omega) (by omega) (fun i hi => absurd hi (by omega)) (IntsAt.none_ _ _)
  refine Calls.mono h fun e w' hx => ?_
  obtain ⟨v, he, hv, hb⟩ := hx
  exact ⟨v, he, hv.congr fun i hi => absurd hi (by omega), hb⟩

def TextLoop (w : World) (v x : Value) (wr : World) : Prop :=
  ∃ i : Nat, i ≤ 8 ∧ x = .int .i64 (i : Int) ∧ StIs wr w.heap.size z0 z0 zV ∧ Own wr (w.heap.size + 1) v (2 * i) (fun _ => 0) ∧ Below w.heap.size w wr

set_option maxRecDepth 20000 in
theorem text_none (n : Value) (w : World) :
    Calls Try.prog 24 #[.agg (scells z0 z0 zV).toArray, n] w fun e w' => ∃ v, e = .returned v ∧ Reads w' v 16 (fun _ => 0) ∧ Below w.heap.size w w' := by
  have ZB := Lib.hid (st_new w z0 z0 zV)
  have B0 : Hid (Below w.heap.size w (w.alloc (.cells (scells z0 z0 zV).toArray 44))) := Lib.hid ((Below.refl _ w).alloc (Nat.le_refl _) _)
  go_enter Try.func24, Try.ntmps24
  go_wp2_with (refine wpList_load_mid rfl 40 (.tmp 12) rfl w.heap.size 0 rfl (ecells z0 z0) _ (StIs.entries ZB.out) Try.underlying40 rfl (entries_len _ _) ?_)
  go_loopw [4, 14] (fun v x wr => TextLoop w v x wr) (fun _ x _ => 8 - (intOf x).toNat)
  case atStart => exact ⟨0, by omega, rfl, ZB.out, own_none _ _ _, B0.out⟩
  case round =>
    clear ZB B0
    obtain ⟨i, hi, rfl, hs, ho, hb⟩ := hrel
    have HS := Lib.hid hs
    have HO := Lib.hid ho
    have HB := Lib.hid hb
    clear hs ho hb
    by_cases h8 : i < 8
    · have hx := fun w => run_entry w z0 z0 h8
      have hb2 : Below wr.heap.size wr (wr.alloc (.cells #[.int .i64 0, .int .i64 0] 39)) := (Below.refl _ _).alloc (Nat.le_refl _) _
      have hr : (wr.alloc (.cells #[.int .i64 0, .int .i64 0] 39)).cell? ⟨w.heap.size, 16 + i, none⟩ = some (.slice none 0 0) := StIs.row (HS.out.below hb2) h8
      have B2 := Lib.hid hb2
      clear hb2
      go_wp2
      refine wp_loop_rounds 1 ?_
      rw [rounds_succ]
      go_wp2_with fail
      obtain ⟨w2, hw2⟩ : ∃ w2, w2 = wr.alloc (.cells #[.int .i64 0, .int .i64 0] 39) := ⟨_, rfl⟩
      have hc0 : w2.cell? ⟨wr.heap.size, 0, none⟩ = some (.int .i64 0) := by rw [hw2, World.cell?_alloc_mark]; rfl
      have hc1 : w2.cell? ⟨wr.heap.size, 1, none⟩ = some (.int .i64 0) := by rw [hw2, World.cell?_alloc_mark]; rfl
      rw [← hw2] at B2 ⊢
      have S2 := Lib.hid (HS.out.below B2.out)
      have O2 : Hid (Own w2 (w.heap.size + 1) u4 (2 * i) fun _ => 0) := Lib.hid (owns_later HO.out B2.out)
      have C0 := Lib.hid hc0
      have C1 := Lib.hid hc1
      have B3 := Lib.hid (HB.out.trans (B2.out.mono HB.out.size))
      clear hw2 hr hc0 hc1 B2
      with_reducible refine (row_none _).mono ?_
      rintro e w3 ⟨v3, rfl, hv3, hb3⟩
      have S3 := Lib.hid (S2.out.below hb3)
      have c0 := cell_later hb3 C0.out
      have c1 := cell_later hb3 C1.out
      have O3 : Hid (Own w3 (w.heap.size + 1) u4 (2 * i) fun _ => 0) := Lib.hid (owns_later O2.out hb3)
      have B4 := Lib.hid (B3.out.trans (hb3.mono B3.out.size))
      have V3 := Lib.hid hv3
      clear hb3 hv3 S2 O2 C0 C1 B3
      have L3 := S3.out.lt
      have hb4 : Below (w.heap.size + 1) w3 (w3.alloc (.cells #[.int .u8 0, .int .u8 0] 5)) := (Below.refl _ _).alloc L3 _
      obtain ⟨v4, w4, r4, o4, -, g4⟩ := run_bytes (c := 2) 22 (O3.out.alloc (.cells #[.int .u8 0, .int .u8 0] 5)) (two_new w3) (by intro e; cases e) (by omega) (by have := L3; simp; omega)
      rw [zero_behind] at o4
      have hb5 : Below (w.heap.size + 1) w3 w4 := (O3.out.alloc (.cells #[.int .u8 0, .int .u8 0] 5)).grown_below hb4 (Nat.le_refl _) (Nat.le_trans L3 hb4.size) g4
      obtain ⟨A5, n5, e5, _, _, h5, _⟩ := V3.out
      have s4 : w.heap.size + 1 ≤ w4.heap.size := Nat.le_trans L3 hb5.size
      obtain ⟨v6, w6, r6, o6, -, g6⟩ := run_bytes (f := fun _ => 0) (g := fun _ => 0) (A := A5) (m := 0) (c := n5) 22 o4 ⟨fun i hi => absurd hi (by omega), fun i hi => absurd hi (by omega)⟩ h5 (by omega) s4
      rw [zero_behind] at o6
      have hb6 : Below (w.heap.size + 1) w3 w6 := o4.grown_below hb5 (Nat.le_refl _) s4 g6
      have R4 := Lib.hid r4
      have R6 := Lib.hid r6
      have O6 : Hid (Own w6 (w.heap.size + 1) v6 (2 * (i + 1)) fun _ => 0) := Lib.hid o6
      have S6 : Hid (StIs w6 w.heap.size z0 z0 zV) := Lib.hid ((hb6.block w.heap.size (by omega)).trans S3.out)
      have B6 : Hid (Below w.heap.size w w6) := Lib.hid (B4.out.trans (hb6.mono (by omega)))
      subst e5
      clear hb4 r4 o4 g4 hb5 h5 s4 r6 o6 g6 hb6 V3 O3 S3 B4
      go_wp2_with (first
        | (at_builtin; refine Lib.wpList_append_run _ rfl (.tmp 39) (.tmp 46) _ _ rfl _ _ rfl rfl _ _ R4.out ?_)
        | (at_builtin; refine Lib.wpList_append_run _ rfl (.tmp 48) (.tmp 49) _ _ rfl _ _ rfl rfl _ _ R6.out ?_))
      go_roundw
      case rel => exact ⟨i + 1, by omega, by go_num, S6.out, O6.out, B6.out⟩
      case measure => simp [intOf]; omega
    · obtain rfl : i = 8 := by omega
      go_wp2
      go_ret
      exact ⟨_, rfl, Own.reads HO.out (fun _ _ => by show 0 < 256; omega), HB.out⟩
end Go.Proofs.Ytilknndcaoljnaa
