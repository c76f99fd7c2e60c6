/- What the package reads of a device: the newest checkpoint. The first facts: a device, a Save of nothing, a Load. The statement's device: pages put into its areas. -/
import Derived.Test.YtdocclkphffpkaaGreatMerge21
import Derived.Test.YtdocclkphffpkaaGreatMerge9
import Derived.Test.YtdocclkphffpkaaGreatMerge18
namespace Go.Proofs.YtdocclkphffpkaaGreat
open Go.RowKit

set_option maxRecDepth 100000 in
set_option maxHeartbeats 2000000 in
theorem loads_any {w : World} {base g h : Nat} {L : Value} {D : Dev} (d : IsDev w base g h L D) (ho : D.off = false) :
    Calls Tryz.prog 6 #[.pointer (some ⟨g, 0, none⟩)] w (LoadA D w) := by
  have hzs := zero_state
  have hzp := plat_zero
  have hmx : Tryz.prog.follows .mixedOrders = true := by kernel_rfl
  obtain ⟨w1, hw1⟩ : ∃ w1, w1 = (w.alloc (.cells (scells z0 z0 zV).toArray 32)).alloc (.cells #[.int .i64 0, .int .i64 0] 34) := ⟨_, rfl⟩
  have B1 : Hid (Below w.heap.size w w1) := Lib.hid (by rw [hw1]; exact ((Below.refl _ w).alloc (Nat.le_refl _) _).alloc (by simp) _)
  have C1 : Hid (Cells2 w1 w.heap.size (w.heap.size + 1) z0 z0 zV 0 0) := Lib.hid (by rw [hw1]; exact cells2_new w)
  have DW := Lib.hid d
  have HO := Lib.hid ho
  have SZ : Hid (w1.heap.size = w.heap.size + 2) := Lib.hid (by rw [hw1]; simp)
  have G : Hid (Calls Tryz.prog 14 #[.pointer (some ⟨g, 0, none⟩), .int .i64 0] w1 (Got (D.view 0) w1)) := Lib.hid (dev_get_ok (d.below B1.out) (t := 0) ho (by have := d.size; omega))
  clear d ho
  go_enter Tryz.func6, Tryz.ntmps6
  go_wp2_with fail
  rw [← hw1]
  clear hw1
  with_reducible refine G.out.mono ?_
  rintro e w2 ⟨kb, rfl, -, -, hb2⟩
  have B2 : Hid (Below w.heap.size w w2) := Lib.hid (B1.out.trans (hb2.mono B1.out.size))
  have C2 := Lib.hid (C1.out.below hb2)
  have S2 : Hid (w.heap.size + 2 ≤ w2.heap.size) := Lib.hid (by have := hb2.size; have := SZ.out; omega)
  clear hb2 G C1 B1 SZ
  go_wp2
  go_loopw [26, 4] (fun x y wr => ∃ (n s b q : Nat) (K S M : Nat → Nat) (Z : Nat → Nat → Pl) (V : Nat → Value), n ≤ 2 ∧ x = .int .i64 (n : Int) ∧ y = .int .i64 (q : Int) ∧ Cells2 wr w.heap.size (w.heap.size + 1) K S V (s : Int) (b : Int) ∧
    (∀ i, i < 8 → OwnZ wr (w.heap.size + 2) (V i) (M i) (Z i)) ∧ Best D n s b q K S M Z ∧ Below w.heap.size w wr ∧ w.heap.size + 2 ≤ wr.heap.size) (fun x _ _ => 2 - (intOf x).toNat)
  case atStart => exact ⟨0, 0, 0, 0, z0, z0, z0, fun _ _ => none, zV, by omega, rfl, rfl, C2.out, fun _ _ => ownZ_none _ _ _, best_none _ _, B2.out, S2.out⟩
  case round =>
    obtain ⟨n, s, b, q, K, S, M, Z, V, hn, rfl, rfl, hc, hz, hbest, hb, hs⟩ := hrel
    have CC := Lib.hid hc
    have OZ := Lib.hid hz
    have BE := Lib.hid hbest
    have BB := Lib.hid hb
    have SS := Lib.hid hs
    clear hc hz hbest hb hs
    by_cases h2 : n < 2
    · go_wp2_with fail
      with_reducible refine (load_any (DW.out.below BB.out) HO.out n h2).mono ?_
      rintro e w3 ⟨hb3, s1, b1, q1, x1, K1, S1, M1, Z1, V1, rfl, hz1, hcase⟩
      obtain ⟨w4, w5, w6, h2⟩ := two_any w3 K1 S1 V1 (s1 : Int) (b1 : Int)
      have V1o := scells_one (fun i hi => (hz1 i hi).one) (K := K1) (S := S1)
      have RT := h2.there
      have hw4 := h2.e3
      have hw5 := h2.e4
      have hw6 := h2.e5
      have p0 := h2.p0
      have p1 := h2.p1
      have p2 := h2.p2
      have f0 := h2.f0
      have f1 := h2.f1
      have f2 := h2.f2
      have hB36 : Below wr.heap.size wr w6 := hb3.trans (h2.below.mono hb3.size)
      have B6 : Hid (Below w.heap.size w w6) := Lib.hid (BB.out.trans (hB36.mono BB.out.size))
      have C6 := Lib.hid (CC.out.below hB36)
      have Z6 : Hid (∀ i, i < 8 → OwnZ w6 (w.heap.size + 2) (V i) (M i) (Z i)) := Lib.hid fun i hi => (OZ.out i hi).below_ hB36
      have Y6 : Hid (∀ i, i < 8 → OwnZ w6 (w.heap.size + 2) (V1 i) (M1 i) (Z1 i)) := Lib.hid fun i hi => ((hz1 i hi).below_ h2.below).base SS.out
      have S6 : Hid (w.heap.size + 2 ≤ w3.heap.size ∧ w3.heap.size ≤ w6.heap.size) := Lib.hid ⟨Nat.le_trans SS.out hb3.size, h2.below.size⟩
      have E6 : Hid (Cells2 w6 w3.heap.size (w3.heap.size + 1) K1 S1 V1 (s1 : Int) (b1 : Int)) := Lib.hid h2.cells
      have CA := Lib.hid hcase
      clear hb3 hz1 h2 hB36 CC OZ BB SS hcase
      have hcases : (x1 == 0) = true ∧ Found D n s1 b1 q1 K1 S1 M1 Z1 ∨ (x1 == 0) = false ∧ Lacks D n := by
        rcases CA.out with ⟨rfl, hf⟩ | ⟨h0, hl⟩
        · exact .inl ⟨rfl, hf⟩
        · exact .inr ⟨by simpa using h0, hl⟩
      rcases hcases with ⟨hx, hf⟩ | ⟨hx, hl⟩
      · have HF := Lib.hid hf
        clear hf
        by_cases hqq : q < q1
        · have QQ := Lib.hid hqq
          go_wp2_with (first
            | (rw [← hw4]; clear hw4; refine wpList_store_mid rfl 32 (.tmp 9) (.tmp 33) rfl w3.heap.size 0 (scells K1 S1 V1).toArray rfl rfl RT (state_len' _ _ _) V1o ?_; rw [show (scells K1 S1 V1).toArray.toList = scells K1 S1 V1 from rfl, ← hw5]; clear hw5 RT)
            | (rw [← hw6]; clear hw6 p0 p1 p2 f0 f1 f2))
          obtain ⟨w7, hw7⟩ : ∃ w7, w7 = w6.drew := ⟨_, rfl⟩
          have C7 : Hid (Cells2 w7 w.heap.size (w.heap.size + 1) K S V (s : Int) (b : Int)) := Lib.hid (by rw [hw7]; exact ⟨C6.out.st, C6.out.pl⟩)
          have hE7 : Cells2 w7 w3.heap.size (w3.heap.size + 1) K1 S1 V1 (s1 : Int) (b1 : Int) := by rw [hw7]; exact ⟨E6.out.st, E6.out.pl⟩
          have B7 : Hid (Below w.heap.size w w7) := Lib.hid (by rw [hw7]; exact B6.out.drew)
          have Y7 : Hid (∀ i, i < 8 → OwnZ w7 (w.heap.size + 2) (V1 i) (M1 i) (Z1 i)) := Lib.hid (by rw [hw7]; exact Y6.out)
          have S7 : Hid (w.heap.size + 2 ≤ w3.heap.size ∧ w3.heap.size ≤ w7.heap.size) := Lib.hid (by rw [hw7]; exact S6.out)
          obtain ⟨w8, w9, tn⟩ := C7.out.turn K1 S1 V1 (s1 : Int) (b1 : Int)
          have hE8 : Cells2 w8 w3.heap.size (w3.heap.size + 1) K1 S1 V1 (s1 : Int) (b1 : Int) := hE7.apart (F := fun k => k = w.heap.size) (by rw [tn.e4]; exact apart_setCells _ _ _ _) (by have := S7.out; omega) (by have := S7.out; omega)
          have hE9 : Cells2 w9 w3.heap.size (w3.heap.size + 1) K1 S1 V1 (s1 : Int) (b1 : Int) := hE7.apart tn.apart (by have := S7.out; omega) (by have := S7.out; omega)
          have RT := tn.there
          have hw8 := tn.e4
          have hw9 := tn.e
          have p0 := tn.p0
          have p1 := tn.p1
          have p2 := tn.p2
          have f0 := tn.f0
          have f1 := tn.f1
          have f2 := tn.f2
          have C9 := Lib.hid tn.c
          have B9 : Hid (Below w.heap.size w w9) := Lib.hid (B7.out.trans (tn.apart.below B7.out.size fun i hi e => by omega))
          have Y9 : Hid (∀ i, i < 8 → OwnZ w9 (w.heap.size + 2) (V1 i) (M1 i) (Z1 i)) := Lib.hid fun i hi => (Y7.out i hi).apart tn.apart (fun j e => by omega)
          have S9 : Hid (w.heap.size + 2 ≤ w9.heap.size) := Lib.hid (by have := S7.out; have := tn.apart.size; omega)
          have E8 := Lib.hid hE8
          have E9 := Lib.hid hE9
          clear tn C6 E6 B6 Z6 Y6 S6 B7 Y7 C7 hE8 hE9
          refine wp_region_noPanic ?_
          refine wp_region_held_drew (S := fun w' => Cells2 w' w3.heap.size (w3.heap.size + 1) K1 S1 V1 (s1 : Int) (b1 : Int)) (by kernel_rfl) (by rw [← hw7]; exact hE7) (fun hH => ?_)
          rw [← hw7] at hH ⊢
          clear hw7 hE7
          refine wpAnyH_take (i := 0) (v := .agg (scells K1 S1 V1).toArray) rfl (by kernel_rfl) (by kernel_rfl) (by kernel_rfl) (fun _ _ _ h => h) (yieldsIf_load_mid (by rfl) 32 (.tmp 9) rfl w3.heap.size 0 rfl (scells K1 S1 V1) _ (fun w' hS => StIs.whole hS.st) Tryz.underlying32 rfl (state_len _ _ _)) hH ?_
          simp only [Act.put, List.setIfInBounds_toArray]
          refine wpAnyH_take (i := 1) (v := .agg #[.int .i64 (s1 : Int), .int .i64 (b1 : Int)]) rfl (by kernel_rfl) (by kernel_rfl) (by kernel_rfl) (fun _ _ _ h => h) (Or.inl ⟨by rfl, fun w' hS => by have c0 := hS.s_; have c1 := hS.b_; clear hS hH; go_simp⟩) hH ?_
          simp only [Act.put]
          refine wpAnyH_take (i := 2) (v := .int .i64 (q1 : Int)) rfl (by kernel_rfl) (by kernel_rfl) (by kernel_rfl) (fun _ _ _ h => h) (Or.inl ⟨by rfl, fun w' hS => by go_simp⟩) hH ?_
          simp only [Act.put]
          refine wpAnyH_ready (rs := [3]) (by kernel_rfl) (by simp) ?_
          refine AllReadyH.cons rfl (fun K_ hK_ => ?_) AllReadyH.nil
          rw [if_pos (by rfl)]
          refine wp_store_mid 32 (.tmp 2) (.tmp 44) rfl w.heap.size 0 (scells K1 S1 V1).toArray rfl rfl RT (state_len' _ _ _) V1o ?_
          rw [show (scells K1 S1 V1).toArray.toList = scells K1 S1 V1 from rfl, ← hw8]
          refine hK_.out _ _ E8.out (fun hH => ?_)
          clear hK_ K_ RT V1o hw8 E8
          refine wpAnyH_ready (rs := [4]) (by kernel_rfl) (by simp) ?_
          refine AllReadyH.cons rfl (fun K_ hK_ => ?_) AllReadyH.nil
          go_simp
          rw [← hw9]
          refine hK_.out _ _ E9.out (fun hH => ?_)
          clear hK_ K_ p0 p1 p2 f0 f1 f2 hw9 E9
          refine wpAnyH_ready (rs := [5]) (by kernel_rfl) (by simp) ?_
          refine AllReadyH.cons rfl (fun K_ hK_ => ?_) AllReadyH.nil
          go_simp
          refine hK_.out _ _ hH (fun hH => ?_)
          clear hK_ K_ hH
          refine wpAnyH_done (by kernel_rfl) ?_ _
          refine NoPanic.normal ?_
          go_wp2
          go_roundw
          case rel => exact ⟨n + 1, s1, b1, q1, K1, S1, M1, Z1, V1, by omega, by go_num, rfl, C9.out, Y9.out, BE.out.turn HF.out QQ.out, B9.out, S9.out⟩
          case measure => simp [intOf]; omega
        · have NQ := Lib.hid (Nat.le_of_not_lt hqq)
          go_wp2_with (first
            | (rw [← hw4]; clear hw4; refine wpList_store_mid rfl 32 (.tmp 9) (.tmp 33) rfl w3.heap.size 0 (scells K1 S1 V1).toArray rfl rfl RT (state_len' _ _ _) V1o ?_; rw [show (scells K1 S1 V1).toArray.toList = scells K1 S1 V1 from rfl, ← hw5]; clear hw5 RT V1o)
            | (rw [← hw6]; clear hw6 p0 p1 p2 f0 f1 f2))
          go_roundw
          case rel => exact ⟨n + 1, s, b, q, K, S, M, Z, V, by omega, by go_num, rfl, C6.out, Z6.out, BE.out.stays HF.out NQ.out, B6.out, by have := S6.out; omega⟩
          case measure => simp [intOf]; omega
      · have HL := Lib.hid hl
        clear hl
        go_wp2_with (first
          | (rw [← hw4]; clear hw4; refine wpList_store_mid rfl 32 (.tmp 9) (.tmp 33) rfl w3.heap.size 0 (scells K1 S1 V1).toArray rfl rfl RT (state_len' _ _ _) V1o ?_; rw [show (scells K1 S1 V1).toArray.toList = scells K1 S1 V1 from rfl, ← hw5]; clear hw5 RT V1o)
          | (rw [← hw6]; clear hw6 p0 p1 p2 f0 f1 f2))
        go_roundw
        case rel => exact ⟨n + 1, s, b, q, K, S, M, Z, V, by omega, by go_num, rfl, C6.out, Z6.out, BE.out.lacks HL.out, B6.out, by have := S6.out; omega⟩
        case measure => simp [intOf]; omega
    · obtain rfl : n = 2 := by omega
      by_cases h0 : q = 0
      · subst h0
        have hnone : s = 0 ∧ b = 0 ∧ K = z0 ∧ S = z0 ∧ M = z0 := by
          rcases BE.out with ⟨_, e1, e2, e3, e4, e5, _⟩ | ⟨⟨k, _, hf⟩, _⟩
          · exact ⟨e1, e2, e3, e4, e5⟩
          · have := hf.seq; omega
        obtain ⟨rfl, rfl, rfl, rfl, rfl⟩ := hnone
        obtain ⟨w4, w5, tn⟩ := CC.out.turn z0 z0 zV 0 0
        have V1 : (scells z0 z0 zV).toArray.all (·.oneCell') = true := scells_one fun _ _ => rfl
        have RT := tn.there
        have hw4 := tn.e4
        have hw5 := tn.e
        have p0 := tn.p0
        have p1 := tn.p1
        have p2 := tn.p2
        have f0 := tn.f0
        have f1 := tn.f1
        have f2 := tn.f2
        have LS := Lib.hid tn.c.load_s
        have LP := Lib.hid tn.c.load_p
        have B5 : Hid (Below w.heap.size w w5) := Lib.hid (BB.out.trans (tn.apart.below BB.out.size fun i hi e => by omega))
        clear tn CC OZ
        go_wp2_with (first
          | (refine wpList_store_mid rfl 32 (.tmp 2) (.tmp 50) rfl w.heap.size 0 (scells z0 z0 zV).toArray rfl rfl RT (state_len' _ _ _) V1 ?_; rw [show (scells z0 z0 zV).toArray.toList = scells z0 z0 zV from rfl, ← hw4]; clear hw4 RT V1)
          | (rw [← hw5]; clear hw5 p0 p1 p2 f0 f1 f2))
        refine bodyPost_ret (results_cells22 (fn := Tryz.f6) rfl _ _ ⟨w.heap.size, 0, none⟩ ⟨w.heap.size + 1, 0, none⟩ _ _ rfl rfl LS.out LP.out) rfl ?_
        exact ⟨B5.out, 0, 0, 0, 11, z0, z0, z0, Z, zV, rfl, fun _ _ => ownZ_none _ _ _, BE.out, .inl ⟨rfl, rfl⟩⟩
      · have h0' : ((q : Int) == 0) = false := by simpa using h0
        have Q0 := Lib.hid h0
        have VO : Hid (∀ i, i < 8 → (V i).oneCell' = true) := Lib.hid fun i hi => (OZ.out i hi).one
        clear h0
        go_wp2
        clear h0'
        obtain ⟨w7, hw7⟩ : ∃ w7, w7 = wr.drew := ⟨_, rfl⟩
        have C7 : Hid (Cells2 w7 w.heap.size (w.heap.size + 1) K S V (s : Int) (b : Int)) := Lib.hid (by rw [hw7]; exact ⟨CC.out.st, CC.out.pl⟩)
        have B7 : Hid (Below w.heap.size w w7) := Lib.hid (by rw [hw7]; exact BB.out.drew)
        have O7 : Hid (∀ i, i < 8 → OwnZ w7 (w.heap.size + 2) (V i) (M i) (Z i)) := Lib.hid (by rw [hw7]; exact OZ.out)
        have q0 := C7.out.s_
        have q1 := C7.out.b_
        have RT : w7.there w.heap.size 0 (scells K S V).toArray.size := StIs.there_ C7.out.st
        have V1 := scells_one VO.out (K := K) (S := S)
        have LS := Lib.hid C7.out.load_s
        have LP := Lib.hid C7.out.load_p
        obtain ⟨s7, s8, s9⟩ := C7.out.still
        have f0 := RowIs.free C7.out.pl 0
        have f1 := RowIs.free C7.out.pl 1
        clear CC BB OZ SS
        refine wp_region_noPanic ?_
        refine wp_region_held_drew (S := fun w' => w' = w7) (by kernel_rfl) hw7.symm (fun hH => ?_)
        rw [← hw7] at hH ⊢
        clear hw7
        refine wpAnyH_take (i := 0) (v := .agg (scells K S V).toArray) rfl (by kernel_rfl) (by kernel_rfl) (by kernel_rfl) (fun _ _ _ h => h) (yieldsIf_load_mid (by rfl) 32 (.tmp 2) rfl w.heap.size 0 rfl (scells K S V) _ (fun w' hS => by rw [hS]; exact StIs.whole C7.out.st) Tryz.underlying32 rfl (state_len _ _ _)) hH ?_
        simp only [Act.put, List.setIfInBounds_toArray]
        refine wpAnyH_take (i := 1) (v := .agg #[.int .i64 (s : Int), .int .i64 (b : Int)]) rfl (by kernel_rfl) (by kernel_rfl) (by kernel_rfl) (fun _ _ _ h => h) (Or.inl ⟨by rfl, fun w' hS => by subst hS; clear s7 s8 s9; go_simp⟩) hH ?_
        simp only [Act.put]
        refine wpAnyH_take (i := 2) (v := .int .i64 (q : Int)) rfl (by kernel_rfl) (by kernel_rfl) (by kernel_rfl) (fun _ _ _ h => h) (Or.inl ⟨by rfl, fun w' hS => by go_simp⟩) hH ?_
        simp only [Act.put]
        refine wpAnyH_ready (rs := [3]) (by kernel_rfl) (by simp) ?_
        refine AllReadyH.cons rfl (fun K_ hK_ => ?_) AllReadyH.nil
        rw [if_pos (by rfl)]
        refine wp_store_mid 32 (.tmp 2) (.tmp 52) rfl w.heap.size 0 (scells K S V).toArray rfl rfl RT (state_len' _ _ _) V1 ?_
        rw [show (scells K S V).toArray.toList = scells K S V from rfl, s7]
        refine hK_.out _ _ hH (fun hH => ?_)
        clear hK_ K_ RT V1 s7
        refine wpAnyH_ready (rs := [4]) (by kernel_rfl) (by simp) ?_
        refine AllReadyH.cons rfl (fun K_ hK_ => ?_) AllReadyH.nil
        go_simp
        refine hK_.out _ _ hH (fun hH => ?_)
        clear hK_ K_ s8 s9 f0 f1
        refine wpAnyH_ready (rs := [5]) (by kernel_rfl) (by simp) ?_
        refine AllReadyH.cons rfl (fun K_ hK_ => ?_) AllReadyH.nil
        go_simp
        refine hK_.out _ _ hH (fun hH => ?_)
        clear hK_ K_
        refine wpAnyH_ready (rs := [6]) (by kernel_rfl) (by simp) ?_
        refine AllReadyH.cons rfl (fun K_ hK_ => ?_) AllReadyH.nil
        go_simp
        refine hK_.out _ _ hH (fun hH => ?_)
        clear hK_ K_ hH q0 q1
        refine wpAnyH_done (by kernel_rfl) ?_ _
        refine NoPanic.normal ?_
        go_wp2
        refine bodyPost_ret (results_cells22 (fn := Tryz.f6) rfl _ _ ⟨w.heap.size, 0, none⟩ ⟨w.heap.size + 1, 0, none⟩ _ _ rfl rfl LS.out LP.out) rfl ?_
        exact ⟨B7.out, s, b, q, 0, K, S, M, Z, V, rfl, fun i hi => (O7.out i hi).base (by omega), BE.out, .inr ⟨Q0.out, rfl⟩⟩
end Go.Proofs.YtdocclkphffpkaaGreat

namespace Go.Proofs.YtdocclkphffpkaaGreat
open Go.ChangeShapes Go.WideShapes Go.ChangeAt Go.RowKit

/-- The text of the state without volumes. -/
theorem tx_none (b : Nat) (Z : Nat → Nat → Pl) (i : Nat) : (tx b z0 z0 z0 Z i).1 = 2 * i ∧ ∀ t, t < 2 * i → (tx b z0 z0 z0 Z i).2 t = 0 := by
  induction i with
  | zero => exact ⟨rfl, fun t ht => absurd ht (by omega)⟩
  | succ i ih =>
    rw [tx_next]
    have e : (tx b z0 z0 z0 Z i).1 + 2 + z0 i * 2 = 2 * (i + 1) := by
      rw [ih.1]
      show 2 * i + 2 + 0 * 2 = _
      omega
    refine ⟨e, fun t ht => ?_⟩
    show behind _ _ _ t = 0
    rw [ih.1, behind_low (by omega)]
    by_cases c : t < 2 * i
    · rw [behind_low c]
      exact ih.2 t c
    · rw [behind_high (by omega)]
      unfold pair
      split <;> rfl

/-- Nothing fits into any geometry. -/
theorem fit_nothing {s b : Int} (g : Geo s b) (Z : Nat → Nat → Pl) : FitA s b z0 z0 z0 Z := by
  have hno : ∀ p, ¬ HasP z0 Z 8 0 p := fun p h => by
    rcases h with ⟨_, _, _, h, _⟩ | ⟨_, h, _⟩
    · exact absurd h (Nat.not_lt_zero _)
    · exact absurd h (Nat.not_lt_zero _)
  refine ⟨g, fun i _ => ⟨.inl ⟨rfl, rfl⟩, rfl⟩, fun p h => absurd h (hno p), [], List.nodup_nil, fun p => ⟨(fun h => nomatch h), fun h => absurd h (hno p)⟩, ?_⟩
  exact Int.mul_nonneg (by have := g.1; omega) (by have := g.2; omega)

/-- The pages of nothing, and the device that holds them. -/
def firstF : Nat → Nat → Nat := encF 6 2 7 16 fun _ => 0
def firstD : Dev := (fresh 60).saved 12 1 firstF
theorem firstD_in {i : Nat} (hi : i < 2) : firstD.area 1 i = firstF i := by
  unfold firstD Dev.area
  rw [saved_view, if_pos (by omega), show 12 * 1 + i - 12 = i by omega]
theorem firstD_out : firstD.area 0 0 = fun _ => 0 := by
  unfold firstD Dev.area
  rw [saved_view, if_neg (by omega)]
  rfl
theorem firstF_count : firstF 0 10 = 1 := by unfold firstF; rw [encF_head, headF_count (by decide)]; rfl
theorem firstD_found : Found firstD 1 6 2 7 z0 z0 z0 fun _ _ => none := by
  have e10 : firstD.area 1 0 10 = 1 := by rw [firstD_in (by omega), firstF_count]
  refine ⟨rfl, by rw [e10]; show _ ≤ 60; omega, ?_⟩
  rw [e10]
  have t := tx_none 2 (fun _ _ => none) 8
  refine ⟨fit_nothing ⟨⟨by omega, by omega⟩, by omega, by omega⟩ _, by omega, by omega, sameP_congr (n := 16) (f := fun _ => 0) t.1.symm (fun i hi => (t.2 i (by omega)).symm) ?_⟩
  exact ⟨rfl, fun i hi => ⟨rfl, fun j _ => by rw [firstD_in hi]; rfl⟩⟩
theorem firstD_lacks : Lacks firstD 0 := fun s b q K S M Z h => by
  have h1 := h.header.1.2.1.1
  rw [firstD_out] at h1
  exact absurd h1 (by decide)
theorem first_best {s b q : Nat} {K S M : Nat → Nat} {Z : Nat → Nat → Pl} (h : Best firstD 2 s b q K S M Z) : q = 7 ∧ b = 2 ∧ SoundA K S M := by
  rcases id h with ⟨_, _, _, _, _, _, h7⟩ | ⟨⟨k, hk, hf⟩, _⟩
  · exact absurd firstD_found (h7 1 (by omega) _ _ _ _ _ _ _)
  · rcases (by omega : k = 0 ∨ k = 1) with rfl | rfl
    · exact absurd hf (firstD_lacks _ _ _ _ _ _ _)
    · obtain ⟨_, e2, e3, _⟩ := hf.one firstD_found
      exact ⟨e3, e2, hf.2.2.1.2.1⟩

set_option maxRecDepth 100000 in
set_option maxHeartbeats 1000000 in
theorem awake_any (w : World) : Calls Tryz.prog 5 #[] w (Fresh (.bool true) w) := by
  have hzs := zero_state
  have hzp := plat_zero
  have NW : Hid (Calls Tryz.prog 10 #[.int .i64 60] w (Born 60 w)) := Lib.hid (dev_new_ok 60 w (by omega) (by omega))
  go_enter Tryz.func5, Tryz.ntmps5
  go_wp2_with fail
  with_reducible refine NW.out.mono ?_
  rintro e w1 ⟨g, h, rfl, hd1, hb1⟩
  have hg : Geo ((6 : Nat) : Int) ((2 : Nat) : Int) := ⟨⟨by omega, by omega⟩, by omega, by omega⟩
  have SV : Hid (Calls Tryz.prog 12 #[.pointer (some ⟨g, 0, none⟩), .agg (scells z0 z0 zV).toArray, .agg #[.int .i64 6, .int .i64 2], .int .i64 7] w1 fun e w' =>
      e = .returned (.int .i64 0) ∧ IsDev w' w.heap.size g h (.slice none 0 0) firstD ∧ Apart (foot g h (.slice none 0 0)) w1 w') :=
    Lib.hid (save_fits hd1 ⟨rfl, rfl⟩ (by show (0 : Nat) ≤ _; omega) z0 z0 zV 6 2 7 16 (fun _ => 0) (by omega) (by omega) (by omega) (by omega) (by omega) (by omega) (fun _ _ => by omega) (fun _ _ => rfl) (fun W _ => fit_none _ _ W hg) (fun W _ => text_none _ W) (by decide))
  have FT := Lib.hid hd1.lt
  have B1 := Lib.hid hb1
  clear hd1 hb1 NW hg
  go_wp2_with fail
  with_reducible refine SV.out.mono ?_
  rintro e w2 ⟨rfl, hd2, ha2⟩
  have LD := Lib.hid (loads_any hd2 rfl)
  have B2 : Hid (Below w.heap.size w w2) := Lib.hid (B1.out.trans (ha2.below B1.out.size fun k hk hf => by have := (FT.out k hf).1; omega))
  clear hd2 ha2 SV FT B1
  go_wp2_with fail
  with_reducible refine LD.out.mono ?_
  rintro e w3 ⟨hb3, s, b, q, x, K, S, M, Z, V, rfl, hz, hbest, hx⟩
  obtain ⟨hq7, hb2, hsnd⟩ := first_best hbest
  have e7 : ((q : Int) == 7) = true := by simp; omega
  have e2 : ((b : Int) == 2) = true := by simp; omega
  obtain rfl : x = 0 := by rcases hx with ⟨h0, _⟩ | ⟨_, h0⟩ <;> omega
  obtain ⟨w4, w5, w6, h2⟩ := two_any w3 K S V (s : Int) (b : Int)
  have V1o := scells_one (fun i hi => (hz i hi).one) (K := K) (S := S)
  have SN := Lib.hid ((hbest.seen hz).later h2.below)
  have B6 : Hid (Below w.heap.size w w6) := Lib.hid (B2.out.trans ((hb3.trans (h2.below.mono hb3.size)).mono B2.out.size))
  have RT := h2.there
  have hw4 := h2.e3
  have hw5 := h2.e4
  have hw6 := h2.e5
  have p0 := h2.p0
  have p1 := h2.p1
  have p2 := h2.p2
  have f0 := h2.f0
  have f1 := h2.f1
  have f2 := h2.f2
  have S6 := Lib.hid h2.st
  have C1 := Lib.hid h2.c1
  have SD := Lib.hid hsnd
  clear hb3 hz hbest hx hsnd h2 LD B2 hq7 hb2
  go_wp2_with (first
    | (rw [← hw4]; clear hw4; refine wpList_store_mid rfl 32 (.tmp 4) (.tmp 19) rfl w3.heap.size 0 (scells K S V).toArray rfl rfl RT (state_len' _ _ _) V1o ?_; rw [show (scells K S V).toArray.toList = scells K S V from rfl, ← hw5]; clear hw5 RT V1o)
    | (rw [← hw6]; clear hw6 p0 p1 p2 f0 f1 f2; refine BigFrame.wpList_want (by rfl) (fun _ hK => wp_load_mid 32 (.tmp 4) rfl w3.heap.size 0 rfl (scells K S V) _ (StIs.whole S6.out) Tryz.underlying32 rfl (state_len _ _ _) (hK _ _ ?_))))
  with_reducible refine (refSound_any K S M V _ w6 SN.out.row SN.out.good).mono ?_
  rintro e w7 ⟨⟨y, rfl, hy⟩, hb7⟩
  obtain rfl : y = true := hy.2 SD.out
  have q7 := cell_later hb7 C1.out
  have B7 : Hid (Below w.heap.size w w7) := Lib.hid (B6.out.trans (hb7.mono B6.out.size))
  clear hb7 hy
  go_wp2
  go_ret
  exact ⟨rfl, B7.out⟩
end Go.Proofs.YtdocclkphffpkaaGreat

namespace Go.Proofs.YtdocclkphffpkaaGreat
open Go.RowKit

/-- A device that was made since w, whose power does not go; so many writes wait at most. -/
def Made (w : World) (g h n : Nat) (wr : World) : Prop := ∃ (L : Value) (D : Dev), IsDev wr w.heap.size g h L D ∧ D.Free ∧ D.size = 60 ∧ D.loose.length ≤ n ∧ Below w.heap.size w wr
theorem Made.more {w wr : World} {g h n m : Nat} (k : Made w g h n wr) (hm : n ≤ m) : Made w g h m wr := by
  obtain ⟨L, D, h1, h2, h3, h4, h5⟩ := k
  exact ⟨L, D, h1, h2, h3, by omega, h5⟩
theorem Made.below {w wr : World} {g h n : Nat} (k : Made w g h n wr) : Below w.heap.size w wr := by
  obtain ⟨L, D, h1, h2, h3, h4, h5⟩ := k
  exact h5
theorem made_put {w wr : World} {g h n t : Nat} {u : Value} {f : Nat → Nat} (k : Made w g h n wr) (hu : Reads w u 64 f) (ht : t < 60) (hn : n ≤ 1000) :
    Calls Tryz.prog 11 #[.pointer (some ⟨g, 0, none⟩), .slice (some ⟨wr.heap.size, 0, none⟩) 1 1] (wr.alloc (.cells #[.int .i64 (t : Int), u] 47)) fun e w' => e = .returned (.int .i64 0) ∧ Made w g h (n + 1) w' := by
  obtain ⟨L, D, h1, h2, h3, h4, h5⟩ := k
  have hb : ∀ W, Apart (foot g h L) wr W → Below w.heap.size w W := fun W a => h5.trans (a.below h5.size fun k hk hf => by have := (h1.lt k hf).1; omega)
  refine (put_new h1 (fun W a => hu.below (hb W a)) (by omega) (by omega) h2).mono ?_
  rintro e w' ⟨L', rfl, hd, ha, _⟩
  exact ⟨rfl, L', _, hd, ⟨h2.on, h2.un⟩, h3, by show (D.loose ++ _).length ≤ _; rw [List.length_append]; show D.loose.length + 1 ≤ _; omega, hb w' ha⟩

set_option maxRecDepth 100000 in
set_option maxHeartbeats 2000000 in
theorem disk_any (A B : Option Addr) (N M c c' : Nat) (L L' : Nat → Nat) (F F' : Nat → Nat → Nat) (w : World) (ha : ReadsP w (.slice A N c) N L F) (hb : ReadsP w (.slice B M c') M L' F') :
    Calls Tryz.prog 4 #[.slice A N c, .slice B M c'] w fun e w' => ∃ g h, e = .returned (.pointer (some ⟨g, 0, none⟩)) ∧ Made w g h 24 w' := by
  have HA := Lib.hid ha
  have HB := Lib.hid hb
  have nb : N ≤ 9223372036854775807 := by obtain ⟨_, _, e, q1, q2, _⟩ := ha; omega
  have mb : M ≤ 9223372036854775807 := by obtain ⟨_, _, e, q1, q2, _⟩ := hb; omega
  have NW : Hid (Calls Tryz.prog 10 #[.int .i64 60] w (Born 60 w)) := Lib.hid (dev_new_ok 60 w (by omega) (by omega))
  clear ha hb
  go_enter Tryz.func4, Tryz.ntmps4
  go_wp2_with fail
  with_reducible refine NW.out.mono ?_
  rintro e w1 ⟨g, h, rfl, hd1, hb1⟩
  have M1 : Hid (Made w g h 0 w1) := Lib.hid ⟨_, _, hd1, ⟨rfl, rfl⟩, rfl, Nat.le_refl _, hb1⟩
  clear hd1 hb1
  go_wp2
  go_loopw [7] (fun x wr => ∃ i : Nat, i ≤ 12 ∧ x = .int .i64 (i : Int) ∧ Made w g h (2 * i) wr) (fun x _ => 12 - (intOf x).toNat)
  case atStart => exact ⟨0, by omega, rfl, M1.out⟩
  case round =>
    clear M1
    obtain ⟨i, hi, rfl, hm⟩ := hrel
    have MM := Lib.hid hm
    clear hm
    by_cases h12 : i < 12
    · by_cases hN : i < N
      · obtain ⟨ad, u, rfl, hcu, hru⟩ := HA.out.page_at hN
        have cu := cell_later MM.out.below hcu
        obtain ⟨Au, cu', eu, -⟩ := id hru
        subst eu
        by_cases hl : L i = 64
        · rw [hl] at cu hru
          have P : Hid (Calls Tryz.prog 11 #[.pointer (some ⟨g, 0, none⟩), .slice (some ⟨wr.heap.size, 0, none⟩) 1 1] (wr.alloc (.cells #[.int .i64 (i : Int), .slice Au 64 cu'] 47)) fun e w' => e = .returned (.int .i64 0) ∧ Made w g h (2 * i + 1) w') := Lib.hid (made_put MM.out hru (by omega) (by omega))
          clear hcu hru hl
          go_wp2_with fail
          with_reducible refine P.out.mono ?_
          rintro e w8 ⟨rfl, hm8⟩
          have M8 := Lib.hid hm8
          clear hm8 cu P
          by_cases hM : i < M
          · obtain ⟨bd, y, rfl, hcy, hry⟩ := HB.out.page_at hM
            have cy := cell_later M8.out.below hcy
            obtain ⟨Ay, cy', ey, -⟩ := id hry
            subst ey
            by_cases hl : L' i = 64
            · rw [hl] at cy hry
              have P : Hid (Calls Tryz.prog 11 #[.pointer (some ⟨g, 0, none⟩), .slice (some ⟨w8.heap.size, 0, none⟩) 1 1] (w8.alloc (.cells #[.int .i64 (12 + (i : Int)), .slice Ay 64 cy'] 47)) fun e w' => e = .returned (.int .i64 0) ∧ Made w g h (2 * i + 1 + 1) w') := Lib.hid (by
                have k := made_put (t := 12 + i) M8.out hry (by omega) (by omega)
                rw [show ((12 + i : Nat) : Int) = 12 + (i : Int) by omega] at k
                exact k)
              clear hcy hry hl
              go_wp2_with fail
              with_reducible refine P.out.mono ?_
              rintro e w9 ⟨rfl, hm9⟩
              have M9 := Lib.hid hm9
              clear hm9 cy P
              go_wp2
              go_roundw
              case rel => exact ⟨i + 1, by omega, by go_num, (M9.out).more (by omega)⟩
              case measure => simp [intOf]; omega
            · obtain ⟨y, ey⟩ : ∃ y, y = L' i := ⟨_, rfl⟩
              rw [← ey] at cy
              have e2 : ((y : Int) == 64) = false := by simp; omega
              clear hcy hry hl ey
              go_wp2
              go_roundw
              case rel => exact ⟨i + 1, by omega, by go_num, (M8.out).more (by omega)⟩
              case measure => simp [intOf]; omega
          · skip
            go_wp2
            go_roundw
            case rel => exact ⟨i + 1, by omega, by go_num, (M8.out).more (by omega)⟩
            case measure => simp [intOf]; omega
        · obtain ⟨x, ex⟩ : ∃ x, x = L i := ⟨_, rfl⟩
          rw [← ex] at cu
          have e1 : ((x : Int) == 64) = false := by simp; omega
          clear hcu hru hl ex
          by_cases hM : i < M
          · obtain ⟨bd, y, rfl, hcy, hry⟩ := HB.out.page_at hM
            have cy := cell_later MM.out.below hcy
            obtain ⟨Ay, cy', ey, -⟩ := id hry
            subst ey
            by_cases hl : L' i = 64
            · rw [hl] at cy hry
              have P : Hid (Calls Tryz.prog 11 #[.pointer (some ⟨g, 0, none⟩), .slice (some ⟨wr.heap.size, 0, none⟩) 1 1] (wr.alloc (.cells #[.int .i64 (12 + (i : Int)), .slice Ay 64 cy'] 47)) fun e w' => e = .returned (.int .i64 0) ∧ Made w g h (2 * i + 1) w') := Lib.hid (by
                have k := made_put (t := 12 + i) MM.out hry (by omega) (by omega)
                rw [show ((12 + i : Nat) : Int) = 12 + (i : Int) by omega] at k
                exact k)
              clear hcy hry hl
              go_wp2_with fail
              with_reducible refine P.out.mono ?_
              rintro e w9 ⟨rfl, hm9⟩
              have M9 := Lib.hid hm9
              clear hm9 cy P
              go_wp2
              go_roundw
              case rel => exact ⟨i + 1, by omega, by go_num, (M9.out).more (by omega)⟩
              case measure => simp [intOf]; omega
            · obtain ⟨y, ey⟩ : ∃ y, y = L' i := ⟨_, rfl⟩
              rw [← ey] at cy
              have e2 : ((y : Int) == 64) = false := by simp; omega
              clear hcy hry hl ey
              go_wp2
              go_roundw
              case rel => exact ⟨i + 1, by omega, by go_num, (MM.out).more (by omega)⟩
              case measure => simp [intOf]; omega
          · skip
            go_wp2
            go_roundw
            case rel => exact ⟨i + 1, by omega, by go_num, (MM.out).more (by omega)⟩
            case measure => simp [intOf]; omega
      · skip
        by_cases hM : i < M
        · obtain ⟨bd, y, rfl, hcy, hry⟩ := HB.out.page_at hM
          have cy := cell_later MM.out.below hcy
          obtain ⟨Ay, cy', ey, -⟩ := id hry
          subst ey
          by_cases hl : L' i = 64
          · rw [hl] at cy hry
            have P : Hid (Calls Tryz.prog 11 #[.pointer (some ⟨g, 0, none⟩), .slice (some ⟨wr.heap.size, 0, none⟩) 1 1] (wr.alloc (.cells #[.int .i64 (12 + (i : Int)), .slice Ay 64 cy'] 47)) fun e w' => e = .returned (.int .i64 0) ∧ Made w g h (2 * i + 1) w') := Lib.hid (by
              have k := made_put (t := 12 + i) MM.out hry (by omega) (by omega)
              rw [show ((12 + i : Nat) : Int) = 12 + (i : Int) by omega] at k
              exact k)
            clear hcy hry hl
            go_wp2_with fail
            with_reducible refine P.out.mono ?_
            rintro e w9 ⟨rfl, hm9⟩
            have M9 := Lib.hid hm9
            clear hm9 cy P
            go_wp2
            go_roundw
            case rel => exact ⟨i + 1, by omega, by go_num, (M9.out).more (by omega)⟩
            case measure => simp [intOf]; omega
          · obtain ⟨y, ey⟩ : ∃ y, y = L' i := ⟨_, rfl⟩
            rw [← ey] at cy
            have e2 : ((y : Int) == 64) = false := by simp; omega
            clear hcy hry hl ey
            go_wp2
            go_roundw
            case rel => exact ⟨i + 1, by omega, by go_num, (MM.out).more (by omega)⟩
            case measure => simp [intOf]; omega
        · skip
          go_wp2
          go_roundw
          case rel => exact ⟨i + 1, by omega, by go_num, (MM.out).more (by omega)⟩
          case measure => simp [intOf]; omega
    · obtain rfl : i = 12 := by omega
      go_wp2
      go_ret
      exact ⟨g, h, rfl, MM.out⟩
end Go.Proofs.YtdocclkphffpkaaGreat

