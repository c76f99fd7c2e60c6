/- What Load reads of a device is the newest state that is there whole, of any pages. For every input, no condition. -/
import Derived.Test.YtdocclkphffpkaaGreatMerge22
import Derived.Test.YtdocclkphffpkaaGreatSlPages
import Derived.Test.YtdocclkphffpkaaGreatPagesIn
import Derived.Test.YtdocclkphffpkaaGreatMerge18
namespace Go.Proofs.YtdocclkphffpkaaGreat.slateLoads
open Go.ChangeShapes Go.WideShapes Go.ChangeAt Go.RowKit

set_option maxRecDepth 100000 in
set_option maxHeartbeats 4000000 in
theorem text (A B : Option Addr) (N M c c' : Nat) (L L' : Nat → Nat) (F F' : Nat → Nat → Nat) (w : World) (ha : ReadsP w (.slice A N c) N L F) (hb : ReadsP w (.slice B M c') M L' F') :
    Calls Tryz.prog 3 #[.slice A N c, .slice B M c'] w (Fresh (.bool true) w) := by
  have hzs := zero_state
  have hzp := plat_zero
  have hmx : Tryz.prog.follows .mixedOrders = true := by kernel_rfl
  have DK := Lib.hid (disk_any A B N M c c' L L' F F' w ha hb)
  clear ha hb
  go_enter Tryz.func3, Tryz.ntmps3
  go_wp2_with fail
  with_reducible refine DK.out.mono ?_
  rintro e w1 ⟨g, h, rfl, LD, D, hd1, hfree, -, -, hb1⟩
  have D1 := Lib.hid hd1
  have FR := Lib.hid hfree
  have B1 := Lib.hid hb1
  clear hd1 hfree hb1 DK
  go_wp2_with fail
  with_reducible refine (awake_any w1).mono ?_
  rintro e w2 ⟨rfl, hb2⟩
  have D2 := Lib.hid (D1.out.below hb2)
  have B2 : Hid (Below w.heap.size w w2) := Lib.hid (B1.out.trans (hb2.mono B1.out.size))
  clear hb2 D1 B1
  go_wp2_with fail
  with_reducible refine (loads_any D2.out FR.out.on).mono ?_
  rintro e w3 ⟨hb3, s1, b1, q1, x1, K1, S1, M1, Z1, V1, rfl, hz1, hbest1, hx1⟩
  obtain ⟨w4, w5, w6, h2⟩ := two_any w3 K1 S1 V1 (s1 : Int) (b1 : Int)
  have V1o := scells_one (fun i hi => (hz1 i hi).one) (K := K1) (S := S1)
  have hB36 : Below w3.heap.size w3 w6 := h2.below
  have hB26 : Below w2.heap.size w2 w6 := hb3.trans (hB36.mono hb3.size)
  have SN := Lib.hid ((hbest1.seen hz1).later hB36)
  have B6 : Hid (Below w.heap.size w w6) := Lib.hid (B2.out.trans (hB26.mono B2.out.size))
  have D6 := Lib.hid (D2.out.below hB26)
  have E6 := Lib.hid h2.cells
  have BE1 := Lib.hid hbest1
  have X1 := Lib.hid hx1
  have RT := h2.there
  have hw4 := h2.e3
  have hw5 := h2.e4
  have hw6 := h2.e5
  have p0 := h2.p0
  have p1 := h2.p1
  have p2 := h2.p2
  have f0 := h2.f0
  have f1 := h2.f1
  have f2 := h2.f2
  have T6 : Hid (StIs (w6.alloc (.cells (scells z0 z0 zV).toArray 32)) w6.heap.size z0 z0 zV) := Lib.hid (st_new w6 z0 z0 zV)
  obtain ⟨y1, hy1⟩ : ∃ y1, y1 = (w6.alloc (.cells (scells z0 z0 zV).toArray 32)).alloc (.cells #[.int .i64 0, .int .i64 0] 34) := ⟨_, rfl⟩
  have C1 : Hid (Cells2 y1 w6.heap.size (w6.heap.size + 1) z0 z0 zV 0 0) := Lib.hid (by rw [hy1]; exact cells2_new w6)
  have BY : Hid (Below w6.heap.size w6 y1) := Lib.hid (by rw [hy1]; exact ((Below.refl _ w6).alloc (Nat.le_refl _) _).alloc (by simp) _)
  have SY : Hid (y1.heap.size = w6.heap.size + 2) := Lib.hid (by rw [hy1]; simp)
  have RT2 : (w6.alloc (.cells (scells z0 z0 zV).toArray 32)).there w6.heap.size 0 (scells z0 z0 zV).toArray.size := StIs.there_ T6.out
  have s6 : (w6.alloc (.cells (scells z0 z0 zV).toArray 32)).setCells w6.heap.size 0 (scells z0 z0 zV) = w6.alloc (.cells (scells z0 z0 zV).toArray 32) := StIs.still T6.out
  have V0 : (scells z0 z0 zV).toArray.all (·.oneCell') = true := scells_one fun _ _ => rfl
  have r0 := C1.out.s_
  have r1 := C1.out.b_
  have k0 := RowIs.free C1.out.pl 0
  have k1 := RowIs.free C1.out.pl 1
  obtain ⟨-, t1, t2⟩ := C1.out.still
  clear hb3 hz1 hbest1 hx1 h2 hB36 hB26 D2 B2
  go_wp2_with (first
    | (rw [← hw4]; clear hw4; refine wpList_store_mid rfl 32 (.tmp 6) (.tmp 30) rfl w3.heap.size 0 (scells K1 S1 V1).toArray rfl rfl RT (state_len' _ _ _) V1o ?_; rw [show (scells K1 S1 V1).toArray.toList = scells K1 S1 V1 from rfl, ← hw5]; clear hw5 RT V1o)
    | (rw [← hw6]; clear hw6 p0 p1 p2 f0 f1 f2)
    | (refine wpList_store_mid rfl 32 (.tmp 11) (.tmp 34) rfl w6.heap.size 0 (scells z0 z0 zV).toArray rfl rfl RT2 (state_len' _ _ _) V0 ?_; rw [show (scells z0 z0 zV).toArray.toList = scells z0 z0 zV from rfl, s6]; clear RT2 s6 V0)
    | (rw [← hy1]; clear hy1))
  clear t1 t2 k0 k1 r0 r1
  go_loopw [13, 10] (fun x y wr => ∃ (n s b q : Nat) (K S M : Nat → Nat) (Z : Nat → Nat → Pl) (V : Nat → Value), n ≤ 2 ∧ x = .int .i64 (n : Int) ∧ y = .int .i64 (q : Int) ∧ Cells2 wr w6.heap.size (w6.heap.size + 1) K S V (s : Int) (b : Int) ∧
    (∀ i, i < 8 → OwnZ wr (w6.heap.size + 2) (V i) (M i) (Z i)) ∧ Best D n s b q K S M Z ∧ Below w6.heap.size w6 wr ∧ w6.heap.size + 2 ≤ wr.heap.size) (fun x _ _ => 2 - (intOf x).toNat)
  case atStart => exact ⟨0, 0, 0, 0, z0, z0, z0, fun _ _ => none, zV, by omega, rfl, rfl, C1.out, fun _ _ => ownZ_none _ _ _, best_none _ _, BY.out, by rw [SY.out]; exact Nat.le_refl _⟩
  case round =>
    clear C1 BY SY T6
    obtain ⟨n, s, b, q, K, S, Mm, Z, V, hn, rfl, rfl, hc, hz, hbest, hb, hs⟩ := hrel
    have CC := Lib.hid hc
    have OZ := Lib.hid hz
    have BE := Lib.hid hbest
    have BB := Lib.hid hb
    have SS := Lib.hid hs
    clear hc hz hbest hb hs
    by_cases h2 : n < 2
    · have PG : Hid (Calls Tryz.prog 8 #[.pointer (some ⟨g, 0, none⟩), .int .i64 (12 * (n : Int))] wr (PagesA D n wr)) := Lib.hid (by
        have k := pages_any (D6.out.below BB.out) FR.out.on n h2 (12 * n) rfl
        rw [show ((12 * n : Nat) : Int) = 12 * (n : Int) by omega] at k
        exact k)
      go_wp2_with fail
      with_reducible refine PG.out.mono ?_
      rintro e y2 ⟨hb2, hpages⟩
      have hval : ∃ v, e = .returned v ∧ ∃ A2 n2 c2, v = .slice A2 n2 c2 := by
        rcases hpages with ⟨_, _, v, rfl, hsec⟩ | ⟨_, rfl⟩
        · obtain ⟨A2, c2, rfl⟩ := hsec.shape
          exact ⟨_, rfl, _, _, _, rfl⟩
        · exact ⟨_, rfl, _, _, _, rfl⟩
      obtain ⟨v, rfl, A2, n2, c2, rfl⟩ := hval
      have DC : Calls Tryz.prog 7 #[.slice A2 n2 c2] y2 (AreaB D n y2.heap.size wr) := by
        rcases hpages with ⟨hle, hq, v, e, hsec⟩ | ⟨hl, e⟩
        · cases e
          exact (refDecode_any _ _ _ _ _ (hsec.reads fun i hi j hj => D6.out.small (by omega) j hj)).mono fun e w' hd => area_decoded hb2 hle hq hd
        · cases e
          exact (refDecode_any _ 0 (fun _ => 0) (fun _ _ => 0) _ ⟨none, 0, rfl, Nat.le_refl _, by omega, fun _ => rfl, fun i hi => absurd hi (Nat.not_lt_zero i)⟩).mono fun e w' hd => area_nil hb2 hl hd
      have DC := Lib.hid DC
      have B2 := Lib.hid hb2
      clear hpages hb2 PG
      go_wp2_with fail
      with_reducible refine DC.out.mono ?_
      rintro e u3 ⟨hb3, s2, b2, q2, x2, K2, S2, M2, Z2, V2, rfl, hz2, hcase⟩
      obtain ⟨u4, u5, u6, h2⟩ := two_any u3 K2 S2 V2 (s2 : Int) (b2 : Int)
      have V2o := scells_one (fun i hi => (hz2 i hi).one) (K := K2) (S := S2)
      have RT := h2.there
      have hu4 := h2.e3
      have hu5 := h2.e4
      have hu6 := h2.e5
      have p0 := h2.p0
      have p1 := h2.p1
      have p2 := h2.p2
      have f0 := h2.f0
      have f1 := h2.f1
      have f2 := h2.f2
      have hB36 : Below wr.heap.size wr u6 := hb3.trans (h2.below.mono hb3.size)
      have B6u : Hid (Below w6.heap.size w6 u6) := Lib.hid (BB.out.trans (hB36.mono BB.out.size))
      have C6 := Lib.hid (CC.out.below hB36)
      have Z6 : Hid (∀ i, i < 8 → OwnZ u6 (w6.heap.size + 2) (V i) (Mm i) (Z i)) := Lib.hid fun i hi => (OZ.out i hi).below_ hB36
      have Y6 : Hid (∀ i, i < 8 → OwnZ u6 (w6.heap.size + 2) (V2 i) (M2 i) (Z2 i)) := Lib.hid fun i hi => ((hz2 i hi).below_ h2.below).base (Nat.le_trans SS.out B2.out.size)
      have S6 : Hid (w6.heap.size + 2 ≤ u3.heap.size ∧ u3.heap.size ≤ u6.heap.size) := Lib.hid ⟨Nat.le_trans SS.out hb3.size, h2.below.size⟩
      have E7 : Hid (Cells2 u6 u3.heap.size (u3.heap.size + 1) K2 S2 V2 (s2 : Int) (b2 : Int)) := Lib.hid h2.cells
      have CA := Lib.hid hcase
      clear hb3 hz2 h2 hB36 CC OZ BB SS hcase DC B2
      have hcases : (x2 == 0) = true ∧ Found D n s2 b2 q2 K2 S2 M2 Z2 ∨ (x2 == 0) = false ∧ Lacks D n := by
        rcases CA.out with ⟨rfl, hf⟩ | ⟨h0, hl⟩
        · exact .inl ⟨rfl, hf⟩
        · exact .inr ⟨by simpa using h0, hl⟩
      rcases hcases with ⟨hx, hf⟩ | ⟨hx, hl⟩
      · have HF := Lib.hid hf
        clear hf
        by_cases hqq : q < q2
        · have QQ := Lib.hid hqq
          go_wp2_with (first
            | (rw [← hu4]; clear hu4; refine wpList_store_mid rfl 32 (.tmp 14) (.tmp 46) rfl u3.heap.size 0 (scells K2 S2 V2).toArray rfl rfl RT (state_len' _ _ _) V2o ?_; rw [show (scells K2 S2 V2).toArray.toList = scells K2 S2 V2 from rfl, ← hu5]; clear hu5 RT)
            | (rw [← hu6]; clear hu6 p0 p1 p2 f0 f1 f2))
          obtain ⟨u7, hu7⟩ : ∃ u7, u7 = u6.drew := ⟨_, rfl⟩
          have C7 : Hid (Cells2 u7 w6.heap.size (w6.heap.size + 1) K S V (s : Int) (b : Int)) := Lib.hid (by rw [hu7]; exact ⟨C6.out.st, C6.out.pl⟩)
          have hE7 : Cells2 u7 u3.heap.size (u3.heap.size + 1) K2 S2 V2 (s2 : Int) (b2 : Int) := by rw [hu7]; exact ⟨E7.out.st, E7.out.pl⟩
          have B7 : Hid (Below w6.heap.size w6 u7) := Lib.hid (by rw [hu7]; exact B6u.out.drew)
          have Y7 : Hid (∀ i, i < 8 → OwnZ u7 (w6.heap.size + 2) (V2 i) (M2 i) (Z2 i)) := Lib.hid (by rw [hu7]; exact Y6.out)
          have S7 : Hid (w6.heap.size + 2 ≤ u3.heap.size ∧ u3.heap.size ≤ u7.heap.size) := Lib.hid (by rw [hu7]; exact S6.out)
          obtain ⟨u8, u9, tn⟩ := C7.out.turn K2 S2 V2 (s2 : Int) (b2 : Int)
          have hE8 : Cells2 u8 u3.heap.size (u3.heap.size + 1) K2 S2 V2 (s2 : Int) (b2 : Int) := hE7.apart (F := fun k => k = w6.heap.size) (by rw [tn.e4]; exact apart_setCells _ _ _ _) (by have := S7.out; omega) (by have := S7.out; omega)
          have hE9 : Cells2 u9 u3.heap.size (u3.heap.size + 1) K2 S2 V2 (s2 : Int) (b2 : Int) := hE7.apart tn.apart (by have := S7.out; omega) (by have := S7.out; omega)
          have RT := tn.there
          have hu8 := tn.e4
          have hu9 := tn.e
          have p0 := tn.p0
          have p1 := tn.p1
          have p2 := tn.p2
          have f0 := tn.f0
          have f1 := tn.f1
          have f2 := tn.f2
          have C9 := Lib.hid tn.c
          have B9 : Hid (Below w6.heap.size w6 u9) := Lib.hid (B7.out.trans (tn.apart.below B7.out.size fun i hi e => by omega))
          have Y9 : Hid (∀ i, i < 8 → OwnZ u9 (w6.heap.size + 2) (V2 i) (M2 i) (Z2 i)) := Lib.hid fun i hi => (Y7.out i hi).apart tn.apart (fun j e => by omega)
          have S9 : Hid (w6.heap.size + 2 ≤ u9.heap.size) := Lib.hid (by have := S7.out; have := tn.apart.size; omega)
          have E8 := Lib.hid hE8
          have E9 := Lib.hid hE9
          clear tn C6 E7 B6u Z6 Y6 S6 B7 Y7 C7 hE8 hE9
          refine wp_region_noPanic ?_
          refine wp_region_held_drew (S := fun w' => Cells2 w' u3.heap.size (u3.heap.size + 1) K2 S2 V2 (s2 : Int) (b2 : Int)) (by kernel_rfl) (by rw [← hu7]; exact hE7) (fun hH => ?_)
          rw [← hu7] at hH ⊢
          clear hu7 hE7
          refine wpAnyH_take (i := 0) (v := .int .i64 (q2 : Int)) rfl (by kernel_rfl) (by kernel_rfl) (by kernel_rfl) (fun _ _ _ h => h) (Or.inl ⟨by rfl, fun w' hS => by go_simp⟩) hH ?_
          simp only [Act.put, List.setIfInBounds_toArray]
          refine wpAnyH_take (i := 1) (v := .agg (scells K2 S2 V2).toArray) rfl (by kernel_rfl) (by kernel_rfl) (by kernel_rfl) (fun _ _ _ h => h) (yieldsIf_load_mid (by rfl) 32 (.tmp 14) rfl u3.heap.size 0 rfl (scells K2 S2 V2) _ (fun w' hS => StIs.whole hS.st) Tryz.underlying32 rfl (state_len _ _ _)) hH ?_
          simp only [Act.put]
          refine wpAnyH_take (i := 2) (v := .agg #[.int .i64 (s2 : Int), .int .i64 (b2 : Int)]) rfl (by kernel_rfl) (by kernel_rfl) (by kernel_rfl) (fun _ _ _ h => h) (Or.inl ⟨by rfl, fun w' hS => by have c0 := hS.s_; have c1 := hS.b_; clear hS hH; go_simp⟩) hH ?_
          simp only [Act.put]
          refine wpAnyH_ready (rs := [3]) (by kernel_rfl) (by simp) ?_
          refine AllReadyH.cons rfl (fun K_ hK_ => ?_) AllReadyH.nil
          go_simp
          refine hK_.out _ _ hH (fun hH => ?_)
          clear hK_ K_
          refine wpAnyH_ready (rs := [4]) (by kernel_rfl) (by simp) ?_
          refine AllReadyH.cons rfl (fun K_ hK_ => ?_) AllReadyH.nil
          rw [if_pos (by rfl)]
          refine wp_store_mid 32 (.tmp 11) (.tmp 58) rfl w6.heap.size 0 (scells K2 S2 V2).toArray rfl rfl RT (state_len' _ _ _) V2o ?_
          rw [show (scells K2 S2 V2).toArray.toList = scells K2 S2 V2 from rfl, ← hu8]
          refine hK_.out _ _ E8.out (fun hH => ?_)
          clear hK_ K_ RT V2o hu8 E8
          refine wpAnyH_ready (rs := [5]) (by kernel_rfl) (by simp) ?_
          refine AllReadyH.cons rfl (fun K_ hK_ => ?_) AllReadyH.nil
          go_simp
          rw [← hu9]
          refine hK_.out _ _ E9.out (fun hH => ?_)
          clear hK_ K_ p0 p1 p2 f0 f1 f2 hu9 E9 hH
          refine wpAnyH_done (by kernel_rfl) ?_ _
          refine NoPanic.normal ?_
          go_wp2
          go_roundw
          case rel => exact ⟨n + 1, s2, b2, q2, K2, S2, M2, Z2, V2, by omega, by go_num, rfl, C9.out, Y9.out, BE.out.turn HF.out QQ.out, B9.out, S9.out⟩
          case measure => simp [intOf]; omega
        · have NQ := Lib.hid (Nat.le_of_not_lt hqq)
          go_wp2_with (first
            | (rw [← hu4]; clear hu4; refine wpList_store_mid rfl 32 (.tmp 14) (.tmp 46) rfl u3.heap.size 0 (scells K2 S2 V2).toArray rfl rfl RT (state_len' _ _ _) V2o ?_; rw [show (scells K2 S2 V2).toArray.toList = scells K2 S2 V2 from rfl, ← hu5]; clear hu5 RT V2o)
            | (rw [← hu6]; clear hu6 p0 p1 p2 f0 f1 f2))
          go_roundw
          case rel => exact ⟨n + 1, s, b, q, K, S, Mm, Z, V, by omega, by go_num, rfl, C6.out, Z6.out, BE.out.stays HF.out NQ.out, B6u.out, by have := S6.out; omega⟩
          case measure => simp [intOf]; omega
      · have HL := Lib.hid hl
        clear hl
        go_wp2_with (first
          | (rw [← hu4]; clear hu4; refine wpList_store_mid rfl 32 (.tmp 14) (.tmp 46) rfl u3.heap.size 0 (scells K2 S2 V2).toArray rfl rfl RT (state_len' _ _ _) V2o ?_; rw [show (scells K2 S2 V2).toArray.toList = scells K2 S2 V2 from rfl, ← hu5]; clear hu5 RT V2o)
          | (rw [← hu6]; clear hu6 p0 p1 p2 f0 f1 f2))
        go_roundw
        case rel => exact ⟨n + 1, s, b, q, K, S, Mm, Z, V, by omega, by go_num, rfl, C6.out, Z6.out, BE.out.lacks HL.out, B6u.out, by have := S6.out; omega⟩
        case measure => simp [intOf]; omega
    · obtain rfl : n = 2 := by omega
      obtain ⟨rfl, rfl, rfl, al⟩ := BE1.out.one BE.out
      have AL := Lib.hid (((kept_alike K1 S1 M1 Z1).symm.trans al).trans (kept_alike K S Mm Z))
      have SN2 := Lib.hid (SN.out.later BB.out)
      have SM := Lib.hid (BE.out.seen OZ.out)
      have EE := Lib.hid (E6.out.below BB.out)
      have BF : Hid (Below w.heap.size w wr) := Lib.hid (B6.out.trans (BB.out.mono B6.out.size))
      have c0 := EE.out.s_
      have c1 := EE.out.b_
      have d0 := CC.out.s_
      have d1 := CC.out.b_
      clear al SN E6 BB B6
      by_cases h0 : q1 = 0
      · subst h0
        have hnone : s1 = 0 ∧ b1 = 0 ∧ K = z0 ∧ S = z0 ∧ Mm = z0 := by
          rcases BE.out with ⟨_, e1, e2, e3, e4, e5, _⟩ | ⟨⟨k, _, hf⟩, _⟩
          · exact ⟨e1, e2, e3, e4, e5⟩
          · have := hf.seq; omega
        obtain ⟨rfl, rfl, rfl, rfl, rfl⟩ := hnone
        obtain rfl : x1 = 11 := by rcases X1.out with ⟨_, h⟩ | ⟨h, _⟩ <;> omega
        have AZ : Hid (Alike K1 S1 M1 z0 z0 z0 (kept M1 Z1) (fun _ _ => none)) := Lib.hid fun i hi => by
          obtain ⟨a1, a2, a3, _⟩ := AL.out i hi
          exact ⟨a1, a2, a3, fun j hj => absurd hj (by rw [a3]; exact Nat.not_lt_zero j)⟩
        clear d0 d1
        go_wp2_with (refine BigFrame.wpList_want (by rfl) (fun _ hK => wp_load_mid 32 (.tmp 6) rfl w3.heap.size 0 rfl (scells K1 S1 V1) _ (StIs.whole EE.out.st) Tryz.underlying32 rfl (state_len _ _ _) (hK _ _ ?_)))
        with_reducible refine (refSame_states K1 S1 M1 z0 z0 z0 V1 zV (kept M1 Z1) (fun _ _ => none) wr SN2.out.row (seen_zero wr).row SN2.out.good AZ.out).mono ?_
        rintro e w9 ⟨rfl, hb9⟩
        have B9 : Hid (Below w.heap.size w w9) := Lib.hid (BF.out.trans (hb9.mono BF.out.size))
        clear hb9 c0 c1
        go_wp2
        go_ret
        exact ⟨rfl, B9.out⟩
      · have h0' : ((q1 : Int) == 0) = false := by simpa using h0
        obtain rfl : x1 = 0 := by rcases X1.out with ⟨h, _⟩ | ⟨_, h⟩ <;> omega
        clear h0
        go_wp2_with (first
          | (refine BigFrame.wpList_want (by rfl) (fun _ hK => wp_load_mid 32 (.tmp 6) rfl w3.heap.size 0 rfl (scells K1 S1 V1) _ (StIs.whole EE.out.st) Tryz.underlying32 rfl (state_len _ _ _) (hK _ _ ?_)))
          | (refine BigFrame.wpList_want (by rfl) (fun _ hK => wp_load_mid 32 (.tmp 11) rfl w6.heap.size 0 rfl (scells K S V) _ (StIs.whole CC.out.st) Tryz.underlying32 rfl (state_len _ _ _) (hK _ _ ?_))))
        with_reducible refine (refSame_states K1 S1 M1 K S Mm V1 V (kept M1 Z1) (kept Mm Z) wr SN2.out.row SM.out.row SN2.out.good AL.out).mono ?_
        rintro e w9 ⟨rfl, hb9⟩
        have B9 : Hid (Below w.heap.size w w9) := Lib.hid (BF.out.trans (hb9.mono BF.out.size))
        clear hb9 c0 c1 d0 d1
        go_wp2
        go_ret
        exact ⟨rfl, B9.out⟩

set_option linter.unusedVariables false in
theorem walk (w : World) (A0 : Option Addr) (n0 c0 : Nat) (L0 : Nat → Nat) (F0 : Nat → Nat → Nat) (s0 : ReadsP w (.slice A0 n0 c0) n0 L0 F0) (A1 : Option Addr) (n1 c1 : Nat) (L1 : Nat → Nat) (F1 : Nat → Nat → Nat) (s1 : ReadsP w (.slice A1 n1 c1) n1 L1 F1) :
    Calls Tryz.prog 3 #[.slice A0 n0 c0, .slice A1 n1 c1] w (Fresh (.bool true) w) := by
  exact text _ _ _ _ _ _ _ _ _ _ w s0 s1

/-! ### the law's end -/
set_option linter.unusedVariables false
theorem own : ownKnob Tryz.prog.godebug = none := by kernel_rfl
theorem laidOut : laidOutB Tryz.prog = true := by kernel_rfl
set_option maxRecDepth 100000 in

theorem lifted (os : Os) (started : os.Started) (H : Type) (enc : TypeId × Value → H) :
    ReturnsInHanded {} Tryz.checked os 3 .any (Rows.slateLoadsSpec.pre6 enc Tryz.prog Tryz.f3 Rows.slateLoadsRow.domain false) (Rows.slateLoadsSpec.post enc Tryz.prog Tryz.f3 false true false false) := by
  refine returnsInHanded_of_change_sized (C := Tryz.checked) own started (by kernel_rfl) Tryz.func3
    (ChangeSpec.witness6 (enc := enc) (C := Tryz.checked) false ⟨#[], #[.slice none 0 0, .slice none 0 0], []⟩ 8 (by kernel_rfl) (by kernel_rfl) (by kernel_rfl) (by kernel_rfl)) ?_
  intro W base args ds gs before hval0 hW _ hsz0 _
  have hsz : (DataW.weightsEach Tryz.prog (Tryz.f3.params.toList ++ Rows.slateLoadsSpec.plain.varTypes Tryz.prog) (ds ++ gs)).all (· ≤ reachBytes) = true := hsz0
  clear hsz0
  have hval : ∀ (j : Nat) t v, Tryz.f3.params[j]? = some t → args[j]? = some v → Value.okWide Tryz.prog W .any base t v := hval0
  have hW' := hW
  obtain ⟨p, q, hA0, hV, rfl, _, _⟩ := hW
  have hA : DataW.TrodAll enc Tryz.prog W 0 (fun _ => true) true Tryz.f3.params.toList args.toList ds p := hA0
  rw [Tryz.params3] at hA hval hsz
  obtain ⟨v0, vs0, d0, ds0, p0, q0, hargs, rfl, rfl, h0, u0⟩ := trodAll_cons hA
  obtain ⟨v1, vs1, d1, ds1, p1, q1, rfl, rfl, rfl, h1, u1⟩ := trodAll_cons u0
  obtain ⟨rfl, rfl, rfl⟩ := trodAll_nil u1
  obtain rfl : args = #[v0, v1] := by cases args; simp_all
  obtain ⟨rfl, rfl⟩ := trodVars_none hV
  clear hA0 hval0
  obtain ⟨A0, n0, c0, rfl⟩ := okWide_slice Tryz.underlying22 (hval 0 22 v0 rfl rfl)
  have k0 := h0
  obtain ⟨L0, F0, s0⟩ := view_pages Tryz.underlying22 Tryz.underlying44 Tryz.underlying5 (by kernel_rfl) (by kernel_rfl) h0
  obtain ⟨A1, n1, c1, rfl⟩ := okWide_slice Tryz.underlying22 (hval 1 22 v1 rfl rfl)
  have k1 := h1
  obtain ⟨L1, F1, s1⟩ := view_pages Tryz.underlying22 Tryz.underlying44 Tryz.underlying5 (by kernel_rfl) (by kernel_rfl) h1
  simp only [List.append_nil] at hW'
  have hlt : ∀ x ∈ p0 ++ p1, x.block < W.heap.size := fun x hx => by simpa using hW'.lt x (by simpa using hx)
  refine (walk W A0 n0 c0 L0 F0 s0 A1 n1 c1 L1 F1 s1).mono fun e W' ⟨he, hb⟩ => ?_
  subst he
  exact ⟨_, rfl, _, _, _, [], _, [], hW', (trodAll_cons_mk (shut_bool Tryz.underlying4 _) trodAll_mk0), (trodAll_cons_mk (Below.trod laidOut (by kernel_rfl) (of_decide_eq_true (by kernel_rfl)) k0 hb (fun x hx => hlt x (by simp [hx]))) (trodAll_cons_mk (Below.trod laidOut (by kernel_rfl) (of_decide_eq_true (by kernel_rfl)) k1 hb (fun x hx => hlt x (by simp [hx]))) trodAll_mk0)), rfl, hb.frame _, fun h => by cases h⟩

theorem over : Rows.slateLoadsRow.holds Tryz.pinned (OpenSpec.ofChange Rows.slateLoadsSpec) :=
  OpenClaim.holds_of_wide 3 Tryz.f3 rfl rfl rfl rfl rfl rfl rfl ⟨rfl, rfl, rfl, rfl, rfl⟩ rfl rfl rfl rfl rfl (by kernel_rfl) Tryz.func3 (by kernel_rfl)
    (of_decide_eq_true (by kernel_rfl)) (by unfold Func.isWrapper; first | (rw [if_pos (by decide +kernel)]; kernel_rfl) | (rw [if_neg (by decide +kernel)]; exact ⟨rfl, rfl⟩))
    (fun os started H enc _ => lifted os started H enc)

theorem proved : Rows.SlateLoadsSaid := over
#print axioms proved
end Go.Proofs.YtdocclkphffpkaaGreat.slateLoads
