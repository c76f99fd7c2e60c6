/- Bytes as the document lays them, and as the package does: the same. Pure. The document's Encode, of any state whose places are places or none. The document's Encode, of any state whose places are places or none, any geometry and number. The state that the document reads of a text. -/
import Derived.Test.YtdocclkphffpkaaGreatRfPut
import Derived.Test.YtdocclkphffpkaaGreatMerge18
import Derived.Test.YtdocclkphffpkaaGreatMerge19
import Derived.Test.YtdocclkphffpkaaGreatMerge13
import Derived.Test.YtdocclkphffpkaaGreatMerge14
namespace Go.Proofs.YtdocclkphffpkaaGreat
open Go.RowKit

theorem dig_small {x : Nat} : dig x 1 0 = x % 256 := by unfold dig; simp
theorem dig_cong {x k i j : Nat} (h : i = j) : dig x k i = dig x k j := by rw [h]

/-- Two numbers of a byte behind a text. -/
theorem vol_bytes {f : Nat → Nat} {n K S : Nat} (hK : K < 256) (hS : S < 256) (i : Nat) (hi : i < n + 2) : behind (behind f n (dig K 1)) (n + 1) (dig S 1) i = behind f n (pair K S) i := by
  by_cases c : i < n
  · rw [behind_low (by omega), behind_low c, behind_low c]
  · rw [behind_high (show n ≤ i by omega) (g := pair K S)]
    by_cases c2 : i = n
    · subst c2
      rw [behind_low (by omega), behind_high (Nat.le_refl _), Nat.sub_self, dig_small]
      show K % 256 = pair K S 0
      unfold pair
      rw [if_pos rfl]
      omega
    · obtain rfl : i = n + 1 := by omega
      rw [behind_high (Nat.le_refl _), Nat.sub_self, dig_small, show n + 1 - n = 1 by omega]
      unfold pair
      rw [if_neg (by omega)]
      omega

/-- A number of two bytes more behind a row of them. -/
theorem code_bytes {F G : Nat → Nat} {n j : Nat} {g : Nat → Nat} (h : ∀ i, i < n + 2 * j → F i = behind G n (rowB g 2) i) (i : Nat) (hi : i < n + 2 * j + 2) : behind F (n + 2 * j) (dig (g j) 2) i = behind G n (rowB g 2) i := by
  by_cases c : i < n + 2 * j
  · rw [behind_low c]; exact h i c
  · rw [behind_high (by omega), behind_high (by omega)]
    have e : i - n = j * 2 + (i - (n + 2 * j)) := by omega
    rw [e, rowB_at (by omega)]

/-- A header's bytes. -/
theorem head_bytes (s b seq count len : Nat) (sum : BitVec 32) (i : Nat) (hi : i < 17) :
    behind (behind (behind (behind (behind (behind magic 4 (dig seq 4)) 8 (dig s 1)) 9 (dig b 1)) 10 (dig count 1)) 11 (dig len 2)) 13 (dig sum.toNat 4) i = headB s b seq count len sum i := by
  unfold headB cat4
  have hsum := sum.isLt
  by_cases c : i < 8
  · rw [behind_low (by omega), behind_low (by omega), behind_low (by omega), behind_low (by omega), behind_low (by omega), behind_low (show i < 4 + 4 + 3 by omega), behind_low (show i < 4 + 4 by omega)]
  · rcases (by omega : i = 8 ∨ i = 9 ∨ i = 10 ∨ i = 11 ∨ i = 12 ∨ i = 13 ∨ i = 14 ∨ i = 15 ∨ i = 16) with rfl | rfl | rfl | rfl | rfl | rfl | rfl | rfl | rfl
    all_goals
      simp [behind, rowB, trip, dig]
      try omega

/-- A leaf's bytes. -/
theorem leaf_bytes (z : Nat → Nat) (seq n k : Nat) (f : Nat → Nat) (i : Nat) (hi : i < 6 + plen n k) :
    behind (behind (behind (behind z 0 (dig seq 4)) 4 (dig k 1)) 5 (dig (plen n k) 1)) 6 (fun j => f (k * 52 + j)) i = leafB seq n f k i := by
  unfold leafB
  have hp := plen_le n k
  by_cases c : i < 6
  · rw [behind_low c, behind_low c]
    by_cases c4 : i < 4
    · rw [behind_low (by omega), behind_low c4, behind_low c4, behind_high (Nat.zero_le _)]
      exact dig_cong (by omega)
    · rw [behind_high (show 4 ≤ i by omega) (g := pair _ _)]
      rcases (by omega : i = 4 ∨ i = 5) with rfl | rfl
      · rw [behind_low (by omega), behind_high (Nat.le_refl _), Nat.sub_self, dig_small]
        rfl
      · rw [behind_high (Nat.le_refl _), Nat.sub_self, dig_small]
        show plen n k % 256 = plen n k
        omega
  · rw [behind_high (by omega), behind_high (by omega)]
end Go.Proofs.YtdocclkphffpkaaGreat

namespace Go.Proofs.YtdocclkphffpkaaGreat
open Go.RowKit Go.Shelf

attribute [local go_sem] Oper.semAt_some

theorem magic_lt (i : Nat) : magic i < 256 := by
  unfold magic
  repeat (first | omega | split)

/-- A row of one page. -/
theorem ownP_one {w : World} {base : Nat} {u : Value} {L : Nat → Nat} {F : Nat → Nat → Nat} (hu : Row base w u (L 0) (F 0)) (hb : base ≤ w.heap.size) : OwnP (w.alloc (.cells #[u] 44)) base (.slice (some ⟨w.heap.size, 0, none⟩) 1 1) 1 L F := by
  refine ⟨[u], ⟨rfl, .inr ⟨w.heap.size, 1, #[u], rfl, hb, heap_alloc_new w _, Nat.le_refl _, by unfold maxLen; omega, rfl, rfl⟩⟩, fun i hi => ?_⟩
  obtain rfl : i = 0 := by omega
  exact ⟨u, rfl, hu.below_ ((Below.refl _ _).alloc (Nat.le_refl _) _)⟩

set_option maxRecDepth 100000 in
set_option maxHeartbeats 4000000 in
theorem refEncode_fit (K S M : Nat → Nat) (V : Nat → Value) (Z : Nat → Nat → Pl) (s b seq : Nat) (w : World) (hr : ∀ i, i < 8 → ReadsZ w (V i) (M i) (Z i)) (hg : ∀ i j, Good (Z i j)) (h1 : 1 ≤ seq) (h2 : seq ≤ 1073741824) (hf : FitA s b K S M Z) :
    Calls Tryz.prog 19 #[.agg (scells K S V).toArray, .agg #[.int .i64 (s : Int), .int .i64 (b : Int)], .int .i64 (seq : Int)] w fun e w' => ∃ u, e = .returned (.tuple #[u, .int .i64 0]) ∧ OwnP w' w.heap.size u (pcount (tx b K S M Z 8).1 + 1) (fun _ => 64) (encF s b seq (tx b K S M Z 8).1 (tx b K S M Z 8).2) ∧ Below w.heap.size w w' := by
  have ZB := Lib.hid ((st_new w K S V).below ((Below.refl _ _).alloc (Nat.le_refl _) (.cells #[.int .i64 (s : Int), .int .i64 (b : Int)] 34)))
  have B0 : Hid (Below w.heap.size w ((w.alloc (.cells (scells K S V).toArray 32)).alloc (.cells #[.int .i64 (s : Int), .int .i64 (b : Int)] 34))) := Lib.hid (((Below.refl _ w).alloc (Nat.le_refl _) _).alloc (by simp) _)
  obtain ⟨w0, hw0⟩ : ∃ w0, w0 = (w.alloc (.cells (scells K S V).toArray 32)).alloc (.cells #[.int .i64 (s : Int), .int .i64 (b : Int)] 34) := ⟨_, rfl⟩
  have e0 : w0.cell? ⟨w.heap.size + 1, 0, none⟩ = some (.int .i64 (s : Int)) := by rw [hw0, ← World.size_alloc w (.cells (scells K S V).toArray 32), World.cell?_alloc_mark]; rfl
  have e1 : w0.cell? ⟨w.heap.size + 1, 1, none⟩ = some (.int .i64 (b : Int)) := by rw [hw0, ← World.size_alloc w (.cells (scells K S V).toArray 32), World.cell?_alloc_mark]; rfl
  rw [← hw0] at ZB B0
  have HR := Lib.hid hr
  have HG := Lib.hid hg
  have HF := Lib.hid hf
  have hb2 : 2 ≤ b ∧ b ≤ 16 := by have := hf.1.2; omega
  have hs6 : 6 ≤ s ∧ s ≤ 24 := by have := hf.1.1; omega
  have KS : Hid (∀ i, i < 8 → K i < 256 ∧ S i < 256 ∧ M i ≤ 32) := Lib.hid fun i hi => by have := fit_small hf hi; omega
  have TX : Hid (∀ i, i ≤ 8 → (tx b K S M Z i).1 ≤ 528 ∧ ∀ t, t < (tx b K S M Z i).1 → (tx b K S M Z i).2 t < 256) := Lib.hid fun i hi => ⟨by have := (tx_fits (c := b) hf hi).1; omega, tx_small (fun i hi => by have := KS.out i hi; omega) hi⟩
  have d1 : decide ((seq : Int) < 1) = false := by simp; omega
  have d2 : decide ((1073741824 : Int) < (seq : Int)) = false := by simp; omega
  clear hr hg hf
  go_enter Tryz.func19, Tryz.ntmps19
  go_wp2_with (rw [← hw0]; clear hw0; refine wpList_load_mid rfl 32 (.tmp 3) rfl w.heap.size 0 rfl (scells K S V) _ (StIs.whole ZB.out) Tryz.underlying32 rfl (state_len _ _ _) ?_)
  with_reducible refine (refFit_any (s : Int) (b : Int) K S M V Z w0 (fun i hi => (HR.out i hi).below B0.out) HG.out).mono ?_
  rintro e wf ⟨⟨x, rfl, hx⟩, hbf⟩
  obtain rfl : x = 0 := hx.2 HF.out
  have Z1 := Lib.hid (ZB.out.below hbf)
  have B1 := Lib.hid (B0.out.trans (hbf.mono B0.out.size))
  have E0 := Lib.hid (cell_later hbf e0)
  have E1 := Lib.hid (cell_later hbf e1)
  clear hbf ZB B0 e0 e1 hx
  have T0 : Hid (Reads (wf.alloc (.cells #[] 5)) (.slice (some ⟨wf.heap.size, 0, none⟩) 0 0) (tx b K S M Z 0).1 (tx b K S M Z 0).2) := Lib.hid ⟨_, _, rfl, Nat.le_refl _, by omega, (by intro e; cases e), ⟨fun i hi => absurd hi (Nat.not_lt_zero _), fun i hi => absurd hi (Nat.not_lt_zero _)⟩⟩
  have C0 : Hid (Below wf.heap.size wf (wf.alloc (.cells #[] 5))) := Lib.hid ((Below.refl _ _).alloc (Nat.le_refl _) _)
  obtain ⟨w1, hw1⟩ : ∃ w1, w1 = wf.alloc (.cells #[] 5) := ⟨_, rfl⟩
  rw [← hw1] at T0 C0
  go_wp2
  rw [← hw1]
  clear hw1
  go_loopw [9, 10] (fun u x wr => ∃ (i : Nat) (v : Value), i ≤ 8 ∧ v = u ∧ x = .int .i64 (i : Int) ∧ Reads wr v (tx b K S M Z i).1 (tx b K S M Z i).2 ∧ Below wf.heap.size wf wr) (fun _ x _ => 8 - (intOf x).toNat)
  case atStart => exact ⟨0, _, by omega, rfl, rfl, T0.out, C0.out⟩
  case round =>
    clear T0 C0
    obtain ⟨i, v, hi, rfl, rfl, ht, hb⟩ := hrel
    have HT := Lib.hid ht
    have HB := Lib.hid hb
    clear ht hb
    by_cases h8 : i < 8
    · obtain ⟨A, c, ev, q1, q2, q3, -⟩ := HR.out i h8
      have HRI := Lib.hid ((HR.out i h8).below B1.out)
      obtain ⟨m, em⟩ : ∃ m, m = M i := ⟨_, rfl⟩
      obtain ⟨x, ex⟩ : ∃ x, x = K i := ⟨_, rfl⟩
      obtain ⟨y, ey⟩ : ∃ y, y = S i := ⟨_, rfl⟩
      obtain ⟨n, en⟩ : ∃ n, n = (tx b K S M Z i).1 := ⟨_, rfl⟩
      obtain ⟨f, ef⟩ : ∃ f, f = (tx b K S M Z i).2 := ⟨_, rfl⟩
      have NX := Lib.hid (tx_next b K S M Z i)
      have TXI := TX.out i (by omega)
      rw [← em] at ev HRI
      rw [ev] at HRI
      rw [← en, ← ef] at HT TXI
      rw [← en, ← ef, ← em, ← ex, ← ey] at NX
      have hm32 : m ≤ 32 := by rw [em]; exact (KS.out i h8).2.2
      have hx256 : x < 256 := by rw [ex]; exact (KS.out i h8).1
      have hy256 : y < 256 := by rw [ey]; exact (KS.out i h8).2.1
      have hn528 := TXI.1
      have FS := Lib.hid TXI.2
      have a0 : ∀ W, Below wf.heap.size wf W → W.cell? ⟨w.heap.size, i * 2, none⟩ = some (.int .i64 (x : Int)) := fun W hW => by rw [ex]; exact StIs.kind (Z1.out.below hW) h8
      have a1 : ∀ W, Below wf.heap.size wf W → W.cell? ⟨w.heap.size, i * 2 + 1, none⟩ = some (.int .i64 (y : Int)) := fun W hW => by rw [ey]; exact StIs.size (Z1.out.below hW) h8
      have a2 : ∀ W, Below wf.heap.size wf W → W.cell? ⟨w.heap.size, 16 + i, none⟩ = some (.slice A m c) := fun W hW => by rw [← ev]; exact StIs.row (Z1.out.below hW) h8
      have A0 := Lib.hid a0
      have A1 := Lib.hid a1
      have A2 := Lib.hid a2
      have d8 : decide ((i : Int) < 8) = true := by simp; omega
      have EM := Lib.hid em
      clear ev em ex ey en ef TXI a0 a1 a2
      go_wp2
      clear d8
      refine wp_region_noPanic ?_
      refine wp_region_held_drew (S := fun w' => Below wf.heap.size wf w') (by kernel_rfl) (HB.out.drew) (fun hH => ?_)
      refine wpAnyH_take (i := 0) (v := v) rfl (by kernel_rfl) (by kernel_rfl) (by kernel_rfl) (fun _ _ _ h => h) (Or.inl ⟨by rfl, fun w' hS => by go_simp⟩) hH ?_
      simp only [Act.put, List.setIfInBounds_toArray]
      refine wpAnyH_take (i := 1) (v := .int .i64 (i : Int)) rfl (by kernel_rfl) (by kernel_rfl) (by kernel_rfl) (fun _ _ _ h => h) (Or.inl ⟨by rfl, fun w' hS => by go_simp⟩) hH ?_
      simp only [Act.put]
      refine wpAnyH_take (i := 2) (v := .pointer (some ⟨w.heap.size, 0, none⟩)) rfl (by kernel_rfl) (by kernel_rfl) (by kernel_rfl) (fun _ _ _ h => h) (Or.inl ⟨by rfl, fun w' hS => by go_simp⟩) hH ?_
      simp only [Act.put]
      refine wpAnyH_take (i := 3) (v := .pointer (some ⟨w.heap.size, i * 2, none⟩)) rfl (by kernel_rfl) (by kernel_rfl) (by kernel_rfl) (fun _ _ _ h => h) (Or.inl ⟨by rfl, fun w' hS => by have s1 : ¬ (8 : Int) ≤ (i : Int) := (by omega); go_simp⟩) hH ?_
      simp only [Act.put]
      refine wpAnyH_take (i := 4) (v := .pointer (some ⟨w.heap.size, i * 2, none⟩)) rfl (by kernel_rfl) (by kernel_rfl) (by kernel_rfl) (fun _ _ _ h => h) (Or.inl ⟨by rfl, fun w' hS => by go_simp⟩) hH ?_
      simp only [Act.put]
      refine wpAnyH_take (i := 5) (v := .int .i64 (x : Int)) rfl (by kernel_rfl) (by kernel_rfl) (by kernel_rfl) (fun _ _ _ h => h) (Or.inl ⟨by rfl, fun w' hS => by have s1 := A0.out w' hS; go_simp⟩) hH ?_
      simp only [Act.put]
      refine wpAnyH_take (i := 7) (v := .int .i64 (i : Int)) rfl (by kernel_rfl) (by kernel_rfl) (by kernel_rfl) (fun _ _ _ h => h) (Or.inl ⟨by rfl, fun w' hS => by go_simp⟩) hH ?_
      simp only [Act.put]
      refine wpAnyH_take (i := 8) (v := .pointer (some ⟨w.heap.size, 0, none⟩)) rfl (by kernel_rfl) (by kernel_rfl) (by kernel_rfl) (fun _ _ _ h => h) (Or.inl ⟨by rfl, fun w' hS => by go_simp⟩) hH ?_
      simp only [Act.put]
      refine wpAnyH_take (i := 9) (v := .pointer (some ⟨w.heap.size, i * 2, none⟩)) rfl (by kernel_rfl) (by kernel_rfl) (by kernel_rfl) (fun _ _ _ h => h) (Or.inl ⟨by rfl, fun w' hS => by have s1 : ¬ (8 : Int) ≤ (i : Int) := (by omega); go_simp⟩) hH ?_
      simp only [Act.put]
      refine wpAnyH_take (i := 10) (v := .pointer (some ⟨w.heap.size, i * 2 + 1, none⟩)) rfl (by kernel_rfl) (by kernel_rfl) (by kernel_rfl) (fun _ _ _ h => h) (Or.inl ⟨by rfl, fun w' hS => by go_simp⟩) hH ?_
      simp only [Act.put]
      refine wpAnyH_take (i := 11) (v := .int .i64 (y : Int)) rfl (by kernel_rfl) (by kernel_rfl) (by kernel_rfl) (fun _ _ _ h => h) (Or.inl ⟨by rfl, fun w' hS => by have s1 := A1.out w' hS; go_simp⟩) hH ?_
      simp only [Act.put]
      refine wpAnyH_ready (rs := [6]) (by kernel_rfl) (by simp) ?_
      refine AllReadyH.cons rfl (fun K_ hK_ => ?_) AllReadyH.nil
      rw [if_pos (by rfl)]
      go_simp
      refine (put_any v n f 1 x _ (by omega) (by omega) hx256 (HT.out.below ((Below.refl _ _).drew)) (by omega)).mono ?_
      rintro e w2 ⟨g2, c2, rfl, _, _, ho2, hb2⟩
      have B2 : Below wf.heap.size wf w2 := hH.trans (hb2.mono hH.size)
      have R2 := Lib.hid (ho2.reads (behind_lt FS.out fun _ _ => dig_lt _ _ _))
      clear ho2 hb2
      refine hK_.out _ _ B2 (fun hH => ?_)
      clear hK_ K_ B2
      refine wpAnyH_ready (rs := [12]) (by kernel_rfl) (by simp) ?_
      refine AllReadyH.cons rfl (fun K_ hK_ => ?_) AllReadyH.nil
      rw [if_pos (by rfl)]
      go_simp
      refine (put_any _ (n + 1) (behind f n (dig x 1)) 1 y w2 (by omega) (by omega) hy256 R2.out (by omega)).mono ?_
      rintro e w3 ⟨g3, c3, rfl, hc3, hm3, ho3, hb3⟩
      have B3 : Below wf.heap.size wf w3 := hH.trans (hb3.mono hH.size)
      have B3h := Lib.hid B3
      have R3 : Hid (Reads w3 (.slice (some ⟨g3, 0, none⟩) (n + 2) c3) (n + 2) (behind f n (pair x y))) := Lib.hid ((ho3.reads (behind_lt (behind_lt FS.out fun _ _ => dig_lt _ _ _) fun _ _ => dig_lt _ _ _)).congr fun i hi => vol_bytes hx256 hy256 i hi)
      clear ho3 hb3 R2
      refine hK_.out _ _ B3 (fun hH => ?_)
      clear hK_ K_ B3
      refine wpAnyH_take (i := 13) (v := .slice (some ⟨g3, 0, none⟩) (n + 1 + 1) c3) rfl (by kernel_rfl) (by kernel_rfl) (by kernel_rfl) (fun _ _ _ h => h) (Or.inl ⟨by rfl, fun w' hS => by go_simp⟩) hH ?_
      simp only [Act.put]
      refine wpAnyH_done (by kernel_rfl) ?_ _
      refine NoPanic.normal ?_
      clear hH
      have FP : Hid (∀ i, i < n + 2 → behind f n (pair x y) i < 256) := Lib.hid (behind_lt FS.out fun i hi => by unfold pair; split <;> omega)
      obtain ⟨g, eg⟩ : ∃ g, g = behind f n (pair x y) := ⟨_, rfl⟩
      rw [← eg] at R3 FP NX
      have R3' : Hid (Reads w3 (.slice (some ⟨g3, 0, none⟩) (n + 1 + 1) c3) (n + 2 + 2 * 0) (behind g (n + 2) (rowB (fun t => codeOf b (Z i t)) 2))) := Lib.hid (R3.out.congr fun i hi => (behind_low hi).symm)
      clear eg R3
      have c4 := A2.out w3 B3h.out
      go_wp2
      clear c4
      go_loopw [9, 11] (fun u z wq => ∃ (j : Nat) (v : Value), j ≤ m ∧ v = u ∧ z = .int .i64 (j : Int) ∧ Reads wq v (n + 2 + 2 * j) (behind g (n + 2) (rowB (fun t => codeOf b (Z i t)) 2)) ∧ Below wf.heap.size wf wq) (fun _ z _ => m - (intOf z).toNat)
      case atStart => exact ⟨0, _, by omega, rfl, rfl, R3'.out, B3h.out⟩
      case round =>
        clear R3' B3h HT HB
        obtain ⟨j, v, hj, rfl, rfl, ht, hb⟩ := hrel
        have HT := Lib.hid ht
        have HB := Lib.hid hb
        have c4 := A2.out wr hb
        have c5 := cell_later hb E1.out
        clear ht hb
        have BL : Hid (∀ t, t < n + 2 + 2 * j → behind g (n + 2) (rowB (fun t => codeOf b (Z i t)) 2) t < 256) := Lib.hid (behind_lt FP.out fun _ _ => rowB_lt _ _ _)
        by_cases hlt : j < m
        · obtain ⟨ad, rfl⟩ := HRI.out.addr (by omega)
          have hc := (HRI.out.below HB.out).at_ hlt
          cases hzz : Z i j with
          | none =>
            have HZ : Hid (codeOf b (Z i j) = 0) := Lib.hid (by rw [hzz]; rfl)
            rw [hzz] at hc
            have hc2 : wr.cell? (ad.add j) = some (Value.complex .f64 13830554455654793216 0) := hc
            clear hc hzz
            have o1 := order_none
            have o2 := order_zero
            go_wp2_with fail
            refine (put_any v _ _ 2 0 wr (by omega) (by omega) (by omega) HT.out (by omega)).mono ?_
            rintro e w4 ⟨g4, c6, rfl, hc6, hm6, ho4, hb4⟩
            have R4 : Hid (Reads w4 (.slice (some ⟨g4, 0, none⟩) (n + 2 + 2 * j + 2) c6) (n + 2 + 2 * (j + 1)) (behind g (n + 2) (rowB (fun t => codeOf b (Z i t)) 2))) := Lib.hid ((ho4.reads (behind_lt BL.out fun _ _ => dig_lt _ _ _)).congr fun t ht => by rw [← HZ.out]; exact code_bytes (fun _ _ => rfl) t (by omega))
            have B4 := Lib.hid (HB.out.trans (hb4.mono HB.out.size))
            clear ho4 hb4 c4 c5 hc2
            go_wp2
            go_roundw
            case rel => exact ⟨j + 1, _, by omega, rfl, by go_num, R4.out, B4.out⟩
            case measure => simp [intOf]; omega
          | some p =>
            have hok := HG.out i j p hzz
            have hin : (p.2 : Int) < b := (HF.out.2.2.1 p (.inl ⟨i, j, h8, by have := EM.out; omega, hzz⟩)).2
            obtain ⟨q, eq⟩ : ∃ q, q = p.1 * b + p.2 := ⟨_, rfl⟩
            have hq : q < 400 := by
              have : p.1 * b ≤ 23 * 16 := Nat.mul_le_mul (by have : p.1 < 24 := hok.1; omega) hb2.2
              omega
            have HZ : Hid (codeOf b (Z i j) = q + 1) := Lib.hid (by rw [hzz, eq]; rfl)
            have FL : Hid (∀ W, Calls Tryz.prog 41 #[.complex .f64 (fl p.1) (fl p.2), .int .i64 (b : Int)] W fun e w' => e = .returned (.tuple #[.int .i64 (q : Int), .int .i64 0]) ∧ w' = W) := Lib.hid fun W => by
              have := refFlat_some p.1 p.2 b W hok.1 hok.2 (by omega) (by omega) hin
              rw [show ((q : Nat) : Int) = (p.1 : Int) * b + p.2 by rw [eq]; simp]
              exact this.mono fun _ _ h => ⟨h.1, h.2.symm⟩
            rw [hzz] at hc
            have hc2 : wr.cell? (ad.add j) = some (Value.complex .f64 (fl p.1) (fl p.2)) := hc
            have o1 := order_some_none p.1 (by have : p.1 < 24 := hok.1; omega)
            have l8 : (i : Int) < 8 := by omega
            have l8' : ¬ (8 : Int) ≤ (i : Int) := by omega
            clear hc hzz eq hok hin
            go_wp2
            go_quiet ((go_at_call 41; exact Calls.quiet_of_same (FL.out _)))
            go_wp2_with fail
            refine (put_any v _ _ 2 (q + 1) _ (by omega) (by omega) (by omega) (HT.out.below (below_drewN (Below.refl _ _) nq)) (by omega)).mono ?_
            rintro e w4 ⟨g4, c6, rfl, hc6, hm6, ho4, hb4⟩
            have R4 : Hid (Reads w4 (.slice (some ⟨g4, 0, none⟩) (n + 2 + 2 * j + 2) c6) (n + 2 + 2 * (j + 1)) (behind g (n + 2) (rowB (fun t => codeOf b (Z i t)) 2))) := Lib.hid ((ho4.reads (behind_lt BL.out fun _ _ => dig_lt _ _ _)).congr fun t ht => by rw [← HZ.out]; exact code_bytes (fun _ _ => rfl) t (by omega))
            have B4 := Lib.hid (HB.out.trans ((below_drewN (Below.refl _ _) nq).trans (hb4.mono (Nat.le_refl _)) |>.mono HB.out.size))
            clear ho4 hb4 c4 c5 hc2 o1 FL
            go_wp2
            go_roundw
            case rel => exact ⟨j + 1, _, by omega, rfl, by go_num, R4.out, B4.out⟩
            case measure => simp [intOf]; omega
        · obtain rfl : j = m := by omega
          have FIN : Hid (Reads wr v (tx b K S M Z (i + 1)).1 (tx b K S M Z (i + 1)).2) := Lib.hid (by rw [NX.out, Nat.mul_comm j 2]; exact HT.out)
          go_wp2
          go_roundw
          case rel => exact ⟨i + 1, _, by omega, rfl, by go_num, FIN.out, HB.out⟩
          case measure => simp [intOf]; omega
    · obtain rfl : i = 8 := by omega
      obtain ⟨N, eN⟩ : ∃ N, N = (tx b K S M Z 8).1 := ⟨_, rfl⟩
      obtain ⟨f, ef⟩ : ∃ f, f = (tx b K S M Z 8).2 := ⟨_, rfl⟩
      have TXI := TX.out 8 (by omega)
      rw [← eN, ← ef] at HT TXI
      have EN := Lib.hid eN
      have EF := Lib.hid ef
      have hN528 := TXI.1
      have FS := Lib.hid TXI.2
      obtain ⟨A, c, rfl, t1, t2, t3, t4⟩ := id HT.out
      obtain ⟨pc, epc⟩ : ∃ pc, pc = pcount N := ⟨_, rfl⟩
      have hpc : ((N : Int) + 51) / 52 = (pc : Int) := by rw [epc]; unfold pcount; omega
      have hpc2 : IntKind.i64.wrap (((N : Int) + 51).tdiv 52) = (pc : Int) := by rw [Int.tdiv_eq_ediv_of_nonneg (by omega), hpc]; exact IntWalk.i64_in _ (by omega)
      have hpc11 : pc ≤ 11 := by omega
      have EPC := Lib.hid epc
      have F0 := Lib.hid (cell_later HB.out E0.out)
      have F1 := Lib.hid (cell_later HB.out E1.out)
      clear eN ef TXI epc t4
      go_wp2
      clear hpc hpc2
      refine wp_region_noPanic ?_
      refine wp_region_held_drew (S := fun w' => Below wr.heap.size wr w') (by kernel_rfl) ((Below.refl _ _).drew) (fun hH => ?_)
      refine wpAnyH_take (i := 2) (v := .int .i64 (seq : Int)) rfl (by kernel_rfl) (by kernel_rfl) (by kernel_rfl) (fun _ _ _ h => h) (Or.inl ⟨by rfl, fun w' hS => by go_simp⟩) hH ?_
      simp only [Act.put, List.setIfInBounds_toArray]
      refine wpAnyH_take (i := 4) (v := .pointer (some ⟨w.heap.size + 1, 0, none⟩)) rfl (by kernel_rfl) (by kernel_rfl) (by kernel_rfl) (fun _ _ _ h => h) (Or.inl ⟨by rfl, fun w' hS => by go_simp⟩) hH ?_
      simp only [Act.put]
      refine wpAnyH_take (i := 5) (v := .int .i64 (s : Int)) rfl (by kernel_rfl) (by kernel_rfl) (by kernel_rfl) (fun _ _ _ h => h) (Or.inl ⟨by rfl, fun w' hS => by have s1 := cell_later hS F0.out; go_simp⟩) hH ?_
      simp only [Act.put]
      refine wpAnyH_take (i := 7) (v := .pointer (some ⟨w.heap.size + 1, 1, none⟩)) rfl (by kernel_rfl) (by kernel_rfl) (by kernel_rfl) (fun _ _ _ h => h) (Or.inl ⟨by rfl, fun w' hS => by go_simp⟩) hH ?_
      simp only [Act.put]
      refine wpAnyH_take (i := 8) (v := .int .i64 (b : Int)) rfl (by kernel_rfl) (by kernel_rfl) (by kernel_rfl) (fun _ _ _ h => h) (Or.inl ⟨by rfl, fun w' hS => by have s1 := cell_later hS F1.out; go_simp⟩) hH ?_
      simp only [Act.put]
      refine wpAnyH_take (i := 10) (v := .int .i64 (pc : Int)) rfl (by kernel_rfl) (by kernel_rfl) (by kernel_rfl) (fun _ _ _ h => h) (Or.inl ⟨by rfl, fun w' hS => by go_simp⟩) hH ?_
      simp only [Act.put]
      refine wpAnyH_ready (rs := [0]) (by kernel_rfl) (by simp) ?_
      refine AllReadyH.cons rfl (fun K_ hK_ => ?_) AllReadyH.nil
      rw [if_pos (by rfl)]
      obtain ⟨v4, w4, r4, o4, b4⟩ := run_slat wr.drew
      have BA : Below wr.heap.size wr (wr.drew.alloc (.cells #[] 5)) := hH.alloc hH.size _
      go_simp
      refine hK_.out _ _ BA (fun hH2 => ?_)
      clear hK_ K_ BA
      refine wpAnyH_ready (rs := [1]) (by kernel_rfl) (by simp) ?_
      refine AllReadyH.cons rfl (fun K_ hK_ => ?_) AllReadyH.nil
      rw [if_pos (by rfl)]
      have B4 : Below wr.heap.size wr w4 := hH.trans (b4.mono hH.size)
      have R4 := Lib.hid (o4.reads (fun i _ => magic_lt i))
      refine Lib.wp_append_run _ (.tmp 91) (.const (.string { data := #[83, 76, 65, 84] })) _ _ rfl _ _ rfl rfl _ _ r4 ?_
      clear r4 o4 b4 hH2
      refine hK_.out _ _ B4 (fun hH => ?_)
      clear hK_ K_ B4
      have L5 : Hid (∀ i, i < 4 → magic i < 256) := Lib.hid fun i _ => magic_lt i
      refine wpAnyH_ready (rs := [3]) (by kernel_rfl) (by simp) ?_
      refine AllReadyH.cons rfl (fun K_ hK_ => ?_) AllReadyH.nil
      rw [if_pos (by rfl)]
      go_simp
      refine (put_any _ 4 magic 4 seq _ (by omega) (by omega) (by omega) R4.out (by omega)).mono ?_
      rintro e w5 ⟨g5, c5, rfl, _, _, ho5, hb5⟩
      have B5 : Below wr.heap.size wr w5 := hH.trans (hb5.mono hH.size)
      have R5 := Lib.hid (ho5.reads (behind_lt L5.out fun _ _ => dig_lt _ _ _))
      clear ho5 hb5 R4
      refine hK_.out _ _ B5 (fun hH => ?_)
      clear hK_ K_ B5
      have L6 := Lib.hid (behind_lt L5.out fun (i : Nat) (_ : i < 4) => dig_lt seq 4 i)
      refine wpAnyH_ready (rs := [6]) (by kernel_rfl) (by simp) ?_
      refine AllReadyH.cons rfl (fun K_ hK_ => ?_) AllReadyH.nil
      rw [if_pos (by rfl)]
      go_simp
      refine (put_any _ 8 (behind magic 4 (dig seq 4)) 1 s _ (by omega) (by omega) (by omega) R5.out (by omega)).mono ?_
      rintro e w6 ⟨g6, c6, rfl, _, _, ho6, hb6⟩
      have B6 : Below wr.heap.size wr w6 := hH.trans (hb6.mono hH.size)
      have R6 := Lib.hid (ho6.reads (behind_lt L6.out fun _ _ => dig_lt _ _ _))
      clear ho6 hb6 R5
      refine hK_.out _ _ B6 (fun hH => ?_)
      clear hK_ K_ B6
      have L7 := Lib.hid (behind_lt L6.out fun (i : Nat) (_ : i < 1) => dig_lt s 1 i)
      refine wpAnyH_ready (rs := [9]) (by kernel_rfl) (by simp) ?_
      refine AllReadyH.cons rfl (fun K_ hK_ => ?_) AllReadyH.nil
      rw [if_pos (by rfl)]
      go_simp
      refine (put_any _ 9 (behind (behind magic 4 (dig seq 4)) 8 (dig s 1)) 1 b _ (by omega) (by omega) (by omega) R6.out (by omega)).mono ?_
      rintro e w7 ⟨g7, c7, rfl, _, _, ho7, hb7⟩
      have B7 : Below wr.heap.size wr w7 := hH.trans (hb7.mono hH.size)
      have R7 := Lib.hid (ho7.reads (behind_lt L7.out fun _ _ => dig_lt _ _ _))
      clear ho7 hb7 R6
      refine hK_.out _ _ B7 (fun hH => ?_)
      clear hK_ K_ B7
      have L8 := Lib.hid (behind_lt L7.out fun (i : Nat) (_ : i < 1) => dig_lt b 1 i)
      refine wpAnyH_ready (rs := [11]) (by kernel_rfl) (by simp) ?_
      refine AllReadyH.cons rfl (fun K_ hK_ => ?_) AllReadyH.nil
      rw [if_pos (by rfl)]
      go_simp
      refine (put_any _ 10 (behind (behind (behind magic 4 (dig seq 4)) 8 (dig s 1)) 9 (dig b 1)) 1 pc _ (by omega) (by omega) (by omega) R7.out (by omega)).mono ?_
      rintro e w8 ⟨g8, c8, rfl, _, _, ho8, hb8⟩
      have B8 : Below wr.heap.size wr w8 := hH.trans (hb8.mono hH.size)
      have R8 := Lib.hid (ho8.reads (behind_lt L8.out fun _ _ => dig_lt _ _ _))
      clear ho8 hb8 R7
      refine hK_.out _ _ B8 (fun hH => ?_)
      clear hK_ K_ B8
      refine wpAnyH_take (i := 12) (v := .slice (some ⟨g8, 0, none⟩) 11 c8) rfl (by kernel_rfl) (by kernel_rfl) (by kernel_rfl) (fun _ _ _ h => h) (Or.inl ⟨by rfl, fun w' hS => by go_simp⟩) hH ?_
      simp only [Act.put]
      refine wpAnyH_done (by kernel_rfl) ?_ _
      refine NoPanic.normal ?_
      have B8 := Lib.hid hH
      have L9 := Lib.hid (behind_lt L8.out fun (i : Nat) (_ : i < 1) => dig_lt pc 1 i)
      clear hH L5 L6 L7 L8
      go_wp2_with fail
      refine (put_any _ 11 (behind (behind (behind (behind magic 4 (dig seq 4)) 8 (dig s 1)) 9 (dig b 1)) 10 (dig pc 1)) 2 N _ (by omega) (by omega) (by omega) R8.out (by omega)).mono ?_
      rintro e w9 ⟨g9, c9, rfl, _, _, ho9, hb9⟩
      have B9 := Lib.hid (B8.out.trans (hb9.mono B8.out.size))
      have R9 := Lib.hid (ho9.reads (behind_lt L9.out fun _ _ => dig_lt _ _ _))
      have L10 := Lib.hid (behind_lt L9.out fun (i : Nat) (_ : i < 2) => dig_lt N 2 i)
      have T9 := Lib.hid (HT.out.below B9.out)
      clear ho9 hb9 R8 B8 L9
      obtain ⟨sm, es⟩ : ∃ sm, sm = (crc f N).toNat := ⟨_, rfl⟩
      have hsm : sm < 4294967296 := by rw [es]; exact (crc f N).isLt
      have SUM : Hid (∀ W, Below wr.heap.size wr W → Calls Tryz.prog 42 #[.slice A N c] W fun e w' => e = .returned (.int .u32 (sm : Int)) ∧ W = w') := Lib.hid fun W hW => by
        obtain ⟨A', c', e', _, _, _, q⟩ := HT.out.below hW
        injection e' with x1 x2 x3
        subst x1 x3
        rw [es]
        exact refSum_any _ _ _ _ _ (by omega) q
      have ES := Lib.hid es
      clear es
      go_wp2_with fail
      with_reducible refine (SUM.out w9 B9.out).mono ?_
      rintro e w' ⟨rfl, rfl⟩
      go_wp2_with fail
      refine (put_any _ 13 (behind (behind (behind (behind (behind magic 4 (dig seq 4)) 8 (dig s 1)) 9 (dig b 1)) 10 (dig pc 1)) 11 (dig N 2)) 4 sm _ (by omega) (by omega) (by omega) R9.out (by omega)).mono ?_
      rintro e w10 ⟨g10, c10, rfl, hc10, hm10, ho10, hb10⟩
      have B10 := Lib.hid (B9.out.trans (hb10.mono B9.out.size))
      have R10 : Hid (Reads w10 (.slice (some ⟨g10, 0, none⟩) 17 c10) 17 (headB s b seq pc N (crc f N))) := Lib.hid ((ho10.reads (behind_lt L10.out fun _ _ => dig_lt _ _ _)).congr fun i hi => by rw [ES.out]; exact head_bytes s b seq pc N (crc f N) i hi)
      clear ho10 hb10 R9 B9 L10 SUM
      obtain ⟨A', c', e', _, _, _, q10⟩ := id R10.out
      injection e' with x1 x2 x3
      subst x1 x3
      have CL := Lib.hid (refClose_any _ 17 c10 _ w10 (by omega) q10 (by intro e; cases e))
      clear q10 x2 T9
      go_wp2_with fail
      with_reducible refine CL.out.mono ?_
      rintro e w11 ⟨u11', rfl, ho11, hb11⟩
      have B11 := Lib.hid (B10.out.trans (hb11.mono B10.out.size))
      obtain ⟨gp, cp, _, eu, -⟩ := id ho11
      subst eu
      have OP : Hid (OwnP (w11.alloc (.cells #[.slice (some ⟨gp, 0, none⟩) 64 cp] 44)) w10.heap.size (.slice (some ⟨w11.heap.size, 0, none⟩) 1 1) (0 + 1) (fun _ => 64) (encF s b seq N f)) := Lib.hid (ownP_one (L := fun _ => 64) (F := encF s b seq N f) (by
        rw [encF_head, ← EPC.out]
        unfold headF
        exact ho11) hb11.size)
      have B12 : Hid (Below w10.heap.size w10 (w11.alloc (.cells #[.slice (some ⟨gp, 0, none⟩) 64 cp] 44))) := Lib.hid (hb11.alloc hb11.size _)
      have HTT := Lib.hid (HT.out.below B10.out)
      have BX : Hid (w.heap.size ≤ w10.heap.size ∧ Below w.heap.size w w10) := Lib.hid ⟨Nat.le_trans B1.out.size (Nat.le_trans HB.out.size B10.out.size), B1.out.trans ((HB.out.trans (B10.out.mono HB.out.size)).mono B1.out.size)⟩
      obtain ⟨w12, hw12⟩ : ∃ w12, w12 = w11.alloc (.cells #[.slice (some ⟨gp, 0, none⟩) 64 cp] 44) := ⟨_, rfl⟩
      rw [← hw12] at OP B12
      clear ho11 hb11 CL R10 B10 B11
      go_wp2
      rw [← hw12]
      clear hw12
      go_loopw [17, 18] (fun u x wq => ∃ (k : Nat) (v : Value), k ≤ pc ∧ v = u ∧ x = .int .i64 (k : Int) ∧ OwnP wq w10.heap.size v (k + 1) (fun _ => 64) (encF s b seq N f) ∧ Below w10.heap.size w10 wq) (fun _ x _ => pc - (intOf x).toNat)
      case atStart => exact ⟨0, _, by omega, rfl, rfl, OP.out, B12.out⟩
      case round =>
        clear OP B12
        obtain ⟨k, v, hk, rfl, rfl, ho, hb⟩ := hrel
        have HO := Lib.hid ho
        have HBB := Lib.hid hb
        clear ho hb
        by_cases hlt : k < pc
        · have hkN : k * 52 < N := pcount_lt.1 (by rw [← EPC.out]; exact hlt)
          obtain ⟨ad, rfl⟩ : ∃ ad, A = some ad := by
            obtain ⟨_, _, e, _, _, _, q⟩ := HT.out
            injection e with e1 _ _
            obtain ⟨ad, h⟩ := q.addr (by omega)
            exact ⟨ad, e1.trans h⟩
          obtain ⟨p, hp⟩ : ∃ p : Nat, p = k * 52 := ⟨_, rfl⟩
          have hp2 : (52 : Int) * (k : Int) = (p : Int) := by omega
          have hcp : ¬ c = p := by omega
          have hpN : p < N := by omega
          have HP := Lib.hid hp
          clear hp
          obtain ⟨q, hq⟩ : ∃ q, q = plen N k := ⟨_, rfl⟩
          have PT : Hid (Reads wr (.slice (some (ad.add p)) q (c - p)) q (fun j => f (k * 52 + j))) := Lib.hid (by
            obtain ⟨_, _, e', _, _, _, q0⟩ := HTT.out.below HBB.out
            injection e' with x1 x2 x3
            subst x1 x3
            refine ⟨_, _, rfl, by rw [hq]; unfold plen; omega, by omega, (by intro e; cases e), ?_⟩
            have := BytesAt.from_ (t := p) (k := q) q0 (by rw [hq]; unfold plen; omega)
            rw [HP.out] at this ⊢
            exact this)
          have L1 : Hid (∀ i, i < 0 + 4 → behind z0 0 (dig seq 4) i < 256) := Lib.hid (behind_lt (fun i hi => absurd hi (Nat.not_lt_zero _)) fun _ _ => dig_lt _ _ _)
          have L2 := Lib.hid (behind_lt L1.out fun (i : Nat) (_ : i < 1) => dig_lt k 1 i)
          have LB : Hid (∀ i, i < 6 + q → behind (behind (behind (behind z0 0 (dig seq 4)) 4 (dig k 1)) 5 (dig q 1)) 6 (fun j => f (k * 52 + j)) i = leafB seq N f k i) := Lib.hid (by rw [hq]; exact leaf_bytes z0 seq N k f)
          have hq52 : q ≤ 52 := by rw [hq]; exact plen_le _ _
          have PG : Hid (∀ i, sec (behind (behind (behind (behind z0 0 (dig seq 4)) 4 (dig k 1)) 5 (dig q 1)) 6 (fun j => f (k * 52 + j))) (6 + q) i = encF s b seq N f (k + 1) i) := Lib.hid fun i => by
            rw [encF_leaf]
            unfold leafF
            rw [← hq]
            refine sec_congr (fun j hj => ?_) i
            unfold pad
            by_cases c : j < 6 + q
            · rw [if_pos c, if_pos c, LB.out j c]
            · rw [if_neg c, if_neg c]
          have hcase : (p + 52 < N ∧ q = 52) ∨ (¬ p + 52 < N ∧ q = N - p) := by
            rw [hq, HP.out]
            unfold plen
            omega
          clear hq LB
          rcases hcase with ⟨h52, rfl⟩ | ⟨h52, rfl⟩
          · go_wp2_with fail
            refine (put_any (.slice none 0 0) 0 z0 4 seq _ (by omega) (by omega) (by omega) (reads_none _ _) (by omega)).mono ?_
            rintro e w4 ⟨g4, c4, rfl, _, _, ho4, hb4⟩
            have R4 := Lib.hid (ho4.reads L1.out)
            have B4 := Lib.hid hb4
            clear ho4 hb4
            go_wp2_with fail
            refine (put_any _ 4 (behind z0 0 (dig seq 4)) 1 k w4 (by omega) (by omega) (by omega) R4.out (by omega)).mono ?_
            rintro e w5 ⟨g5, c5, rfl, _, _, ho5, hb5⟩
            have R5 := Lib.hid (ho5.reads L2.out)
            have B5 := Lib.hid (B4.out.trans (hb5.mono B4.out.size))
            clear ho5 hb5 R4 B4
            go_wp2_with fail
            refine (put_any _ 5 (behind (behind z0 0 (dig seq 4)) 4 (dig k 1)) 1 52 w5 (by omega) (by omega) (by omega) R5.out (by omega)).mono ?_
            rintro e w6 ⟨g6, c6, rfl, _, _, ho6, hb6⟩
            have B6 := Lib.hid (B5.out.trans (hb6.mono B5.out.size))
            obtain ⟨_, _, e7, _, _, bare7, q7⟩ := PT.out.below B6.out
            injection e7 with x1 x2 x3
            subst x1 x3
            obtain ⟨v7, w7, r7, o7, hg7, gr7⟩ := run_bytes2 (c := c - p) 44 ho6 (by intro e; cases e) q7 bare7 (by omega) hb6.size
            have B7 := Lib.hid (ho6.grown_below B6.out B5.out.size B6.out.size gr7)
            obtain ⟨g7, c7, ev7, _, hc7, hm7⟩ := o7.form hg7
            subst ev7
            have R7 := Lib.hid r7
            have s7 := o7.bytes (behind_lt (behind_lt L2.out fun _ _ => dig_lt _ _ _) fun i hi => q7.small i hi)
            have CL := Lib.hid (refClose_any _ _ c7 _ w7 (by omega) s7 (fun e => nomatch e))
            clear ho6 hb6 r7 o7 hg7 gr7 s7 q7 bare7 R5 B5 x2
            go_wp2_with (at_builtin; refine Lib.wpList_append_run _ rfl (.tmp 139) (.tmp 140) _ _ rfl _ _ rfl rfl _ _ R7.out ?_)
            with_reducible refine CL.out.mono ?_
            rintro e w8 ⟨u8, rfl, ho8, hb8⟩
            obtain ⟨gp, cp, _, eu, -⟩ := id ho8
            subst eu
            have B8 : Below wr.heap.size wr w8 := B7.out.trans (hb8.mono B7.out.size)
            have hrow : Row w10.heap.size w8 (.slice (some ⟨gp, 0, none⟩) 64 cp) 64 (encF s b seq N f (k + 1)) := (ho8.base (Nat.le_trans HBB.out.size B7.out.size)).congr fun i _ => PG.out i
            obtain ⟨v9, w9', r9, o9, ⟨g9', c9', ev9⟩, gr9⟩ := run_page 22 (L := fun _ => 64) (F := encF s b seq N f) (HO.out.below_ B8) hrow rfl (by omega) (Nat.le_trans HBB.out.size B8.size)
            subst ev9
            have sa : (w8.alloc (.cells #[.slice (some ⟨gp, 0, none⟩) 64 cp] 44)).heap.size = w8.heap.size + 1 := World.size_alloc _ _
            have b9 : Below w10.heap.size w10 w9' := ((HBB.out.trans (B8.mono HBB.out.size)).alloc (Nat.le_trans HBB.out.size B8.size) _).grown gr9 (by rw [sa]; have := HBB.out.size; have := B8.size; omega) fun j hj => (HO.out.not_other hj).1
            have O9 := Lib.hid o9
            have B9' := Lib.hid b9
            have R9' := Lib.hid r9
            obtain ⟨A0, c0, ev0⟩ := HO.out.shape
            subst ev0
            clear ho8 hb8 hrow r9 o9 gr9 sa b9 B8 CL R7 B7 PG PT
            go_wp2_with (at_builtin; refine Lib.wpList_append_run _ rfl (.tmp 145) (.tmp 147) _ _ rfl _ _ rfl rfl _ _ R9'.out ?_)
            go_roundw
            case rel => exact ⟨k + 1, _, by omega, rfl, by go_num, O9.out, B9'.out⟩
            case measure => simp [intOf]; omega
          · go_wp2_with fail
            refine (put_any (.slice none 0 0) 0 z0 4 seq _ (by omega) (by omega) (by omega) (reads_none _ _) (by omega)).mono ?_
            rintro e w4 ⟨g4, c4, rfl, _, _, ho4, hb4⟩
            have R4 := Lib.hid (ho4.reads L1.out)
            have B4 := Lib.hid hb4
            clear ho4 hb4
            go_wp2_with fail
            refine (put_any _ 4 (behind z0 0 (dig seq 4)) 1 k w4 (by omega) (by omega) (by omega) R4.out (by omega)).mono ?_
            rintro e w5 ⟨g5, c5, rfl, _, _, ho5, hb5⟩
            have R5 := Lib.hid (ho5.reads L2.out)
            have B5 := Lib.hid (B4.out.trans (hb5.mono B4.out.size))
            clear ho5 hb5 R4 B4
            go_wp2_with fail
            refine (put_any _ 5 (behind (behind z0 0 (dig seq 4)) 4 (dig k 1)) 1 (N - p) w5 (by omega) (by omega) (by omega) R5.out (by omega)).mono ?_
            rintro e w6 ⟨g6, c6, rfl, _, _, ho6, hb6⟩
            have B6 := Lib.hid (B5.out.trans (hb6.mono B5.out.size))
            obtain ⟨_, _, e7, _, _, bare7, q7⟩ := PT.out.below B6.out
            injection e7 with x1 x2 x3
            subst x1 x3
            obtain ⟨v7, w7, r7, o7, hg7, gr7⟩ := run_bytes2 (c := c - p) 44 ho6 (by intro e; cases e) q7 bare7 (by omega) hb6.size
            have B7 := Lib.hid (ho6.grown_below B6.out B5.out.size B6.out.size gr7)
            obtain ⟨g7, c7, ev7, _, hc7, hm7⟩ := o7.form hg7
            subst ev7
            have R7 := Lib.hid r7
            have s7 := o7.bytes (behind_lt (behind_lt L2.out fun _ _ => dig_lt _ _ _) fun i hi => q7.small i hi)
            have CL := Lib.hid (refClose_any _ _ c7 _ w7 (by omega) s7 (fun e => nomatch e))
            clear ho6 hb6 r7 o7 hg7 gr7 s7 q7 bare7 R5 B5 x2
            go_wp2_with (at_builtin; refine Lib.wpList_append_run _ rfl (.tmp 139) (.tmp 140) _ _ rfl _ _ rfl rfl _ _ R7.out ?_)
            with_reducible refine CL.out.mono ?_
            rintro e w8 ⟨u8, rfl, ho8, hb8⟩
            obtain ⟨gp, cp, _, eu, -⟩ := id ho8
            subst eu
            have B8 : Below wr.heap.size wr w8 := B7.out.trans (hb8.mono B7.out.size)
            have hrow : Row w10.heap.size w8 (.slice (some ⟨gp, 0, none⟩) 64 cp) 64 (encF s b seq N f (k + 1)) := (ho8.base (Nat.le_trans HBB.out.size B7.out.size)).congr fun i _ => PG.out i
            obtain ⟨v9, w9', r9, o9, ⟨g9', c9', ev9⟩, gr9⟩ := run_page 22 (L := fun _ => 64) (F := encF s b seq N f) (HO.out.below_ B8) hrow rfl (by omega) (Nat.le_trans HBB.out.size B8.size)
            subst ev9
            have sa : (w8.alloc (.cells #[.slice (some ⟨gp, 0, none⟩) 64 cp] 44)).heap.size = w8.heap.size + 1 := World.size_alloc _ _
            have b9 : Below w10.heap.size w10 w9' := ((HBB.out.trans (B8.mono HBB.out.size)).alloc (Nat.le_trans HBB.out.size B8.size) _).grown gr9 (by rw [sa]; have := HBB.out.size; have := B8.size; omega) fun j hj => (HO.out.not_other hj).1
            have O9 := Lib.hid o9
            have B9' := Lib.hid b9
            have R9' := Lib.hid r9
            obtain ⟨A0, c0, ev0⟩ := HO.out.shape
            subst ev0
            clear ho8 hb8 hrow r9 o9 gr9 sa b9 B8 CL R7 B7 PG PT
            go_wp2_with (at_builtin; refine Lib.wpList_append_run _ rfl (.tmp 145) (.tmp 147) _ _ rfl _ _ rfl rfl _ _ R9'.out ?_)
            go_roundw
            case rel => exact ⟨k + 1, _, by omega, rfl, by go_num, O9.out, B9'.out⟩
            case measure => simp [intOf]; omega
        · obtain rfl : k = pc := by omega
          have FIN : Hid (OwnP wr w.heap.size v (pcount (tx b K S M Z 8).1 + 1) (fun _ => 64) (encF s b seq (tx b K S M Z 8).1 (tx b K S M Z 8).2)) := Lib.hid (by rw [← EN.out, ← EF.out, ← EPC.out]; exact HO.out.base BX.out.1)
          go_wp2
          go_ret2
          exact ⟨_, rfl, FIN.out, BX.out.2.trans (HBB.out.mono BX.out.1)⟩
end Go.Proofs.YtdocclkphffpkaaGreat

namespace Go.Proofs.YtdocclkphffpkaaGreat
open Go.RowKit

set_option maxRecDepth 20000 in
theorem refEncode_arg (K S : Nat → Nat) (V : Nat → Value) (s b seq : Int) (w : World) (hq : ¬ (1 ≤ seq ∧ seq ≤ 1073741824)) :
    Calls Tryz.prog 19 #[.agg (scells K S V).toArray, .agg #[.int .i64 s, .int .i64 b], .int .i64 seq] w fun e w' => e = .returned (.tuple #[.slice none 0 0, .int .i64 1]) ∧ Below w.heap.size w w' := by
  have B1 : Hid (Below w.heap.size w ((w.alloc (.cells (scells K S V).toArray 32)).alloc (.cells #[.int .i64 s, .int .i64 b] 34))) := Lib.hid (((Below.refl _ w).alloc (Nat.le_refl _) _).alloc (by simp) _)
  rcases (by omega : seq < 1 ∨ (¬ seq < 1 ∧ 1073741824 < seq)) with h | ⟨h, h2⟩
  all_goals
    clear hq
    go_enter Tryz.func19, Tryz.ntmps19
    go_wp2
    go_ret2
    exact ⟨rfl, B1.out⟩

set_option maxRecDepth 20000 in
theorem refEncode_unfit (K S M : Nat → Nat) (V : Nat → Value) (Z : Nat → Nat → Pl) (s b : Int) (seq : Nat) (w : World) (hr : ∀ i, i < 8 → ReadsZ w (V i) (M i) (Z i)) (hg : ∀ i j, Good (Z i j)) (h1 : 1 ≤ seq) (h2 : seq ≤ 1073741824) (hf : ¬ FitA s b K S M Z) :
    Calls Tryz.prog 19 #[.agg (scells K S V).toArray, .agg #[.int .i64 s, .int .i64 b], .int .i64 (seq : Int)] w fun e w' => (∃ x, e = .returned (.tuple #[.slice none 0 0, .int .i64 x]) ∧ x ≠ 0) ∧ Below w.heap.size w w' := by
  have ZB := Lib.hid ((st_new w K S V).below ((Below.refl _ _).alloc (Nat.le_refl _) (.cells #[.int .i64 s, .int .i64 b] 34)))
  have B0 : Hid (Below w.heap.size w ((w.alloc (.cells (scells K S V).toArray 32)).alloc (.cells #[.int .i64 s, .int .i64 b] 34))) := Lib.hid (((Below.refl _ w).alloc (Nat.le_refl _) _).alloc (by simp) _)
  obtain ⟨w0, hw0⟩ : ∃ w0, w0 = (w.alloc (.cells (scells K S V).toArray 32)).alloc (.cells #[.int .i64 s, .int .i64 b] 34) := ⟨_, rfl⟩
  have e0 : w0.cell? ⟨w.heap.size + 1, 0, none⟩ = some (.int .i64 s) := by rw [hw0, ← World.size_alloc w (.cells (scells K S V).toArray 32), World.cell?_alloc_mark]; rfl
  have e1 : w0.cell? ⟨w.heap.size + 1, 1, none⟩ = some (.int .i64 b) := by rw [hw0, ← World.size_alloc w (.cells (scells K S V).toArray 32), World.cell?_alloc_mark]; rfl
  rw [← hw0] at ZB B0
  have HR := Lib.hid hr
  have HG := Lib.hid hg
  have HF := Lib.hid hf
  clear hr hg hf
  go_enter Tryz.func19, Tryz.ntmps19
  go_wp2_with (rw [← hw0]; clear hw0; refine wpList_load_mid rfl 32 (.tmp 3) rfl w.heap.size 0 rfl (scells K S V) _ (StIs.whole ZB.out) Tryz.underlying32 rfl (state_len _ _ _) ?_)
  with_reducible refine (refFit_any s b K S M V Z w0 (fun i hi => (HR.out i hi).below B0.out) HG.out).mono ?_
  rintro e wf ⟨⟨x, rfl, hx⟩, hbf⟩
  have X0 : Hid (x ≠ 0) := Lib.hid fun h => HF.out (hx.1 h)
  have hne : (x != 0) = true := by simpa using X0.out
  have BF := Lib.hid (B0.out.trans (hbf.mono B0.out.size))
  clear hbf hx e0 e1
  go_wp2
  go_ret2
  exact ⟨⟨x, rfl, X0.out⟩, BF.out⟩
end Go.Proofs.YtdocclkphffpkaaGreat

namespace Go.Proofs.YtdocclkphffpkaaGreat
open Go.RowKit

def rstep (n : Nat) (f : Nat → Nat) (p : Nat) : Nat := 2 + 2 * min (f (p + 1)) ((n - p - 2) / 2)
def rpos (n : Nat) (f : Nat → Nat) : Nat → Nat
  | 0 => 0
  | k + 1 => rpos n f k + rstep n f (rpos n f k)
def RVols (n : Nat) (f : Nat → Nat) (k : Nat) : Prop := k ≤ 8 ∧ (∀ i, i < k → rpos n f i + 2 ≤ n) ∧ (k < 8 → ¬ rpos n f k + 2 ≤ n)
def rK (n : Nat) (f : Nat → Nat) (k i : Nat) : Nat := if i < k then f (rpos n f i) else 0
def rS (n : Nat) (f : Nat → Nat) (k i : Nat) : Nat := if i < k then f (rpos n f i + 1) else 0
def rM (n : Nat) (f : Nat → Nat) (k i : Nat) : Nat := if i < k then min (f (rpos n f i + 1)) ((n - rpos n f i - 2) / 2) else 0
def rCode (b c : Nat) : Pl := if c = 0 then none else refPl b (c - 1)
def rZ (b n : Nat) (f : Nat → Nat) (i j : Nat) : Pl := rCode b (rowN (fun t => f (rpos n f i + (2 + t))) 2 j)
theorem rCode_good (b c : Nat) : Good (rCode b c) := by
  unfold rCode
  split
  · exact good_none
  · exact refPl_good _ _
theorem rCode_code {b : Nat} {p : Pl} (h1 : 1 ≤ b) (hb : b ≤ 16) (h : ∀ q, p = some q → q.1 < 24 ∧ q.2 < b) : rCode b (codeOf b p) = p := by
  have h0 := plOf_code h1 hb h
  cases p with
  | none => rfl
  | some q =>
    obtain ⟨h2, h3⟩ := h q rfl
    have hm : q.1 * b ≤ 23 * b := Nat.mul_le_mul_right b (by omega)
    have e : codeOf b (some q) = q.1 * b + q.2 + 1 := rfl
    rw [e] at h0 ⊢
    unfold plOf at h0
    rw [if_pos ⟨⟨h1, hb⟩, by omega, by omega⟩] at h0
    unfold rCode refPl
    rw [if_neg (by omega), if_pos ⟨⟨h1, hb⟩, by omega⟩]
    exact h0

theorem rpos_le (n : Nat) (f : Nat → Nat) (k : Nat) (h : ∀ i, i < k → rpos n f i + 2 ≤ n) : rpos n f k ≤ n := by
  cases k with
  | zero => exact Nat.zero_le _
  | succ k =>
    have := h k (by omega)
    unfold rpos rstep
    omega
theorem rM_le {n : Nat} {f : Nat → Nat} (k i : Nat) (hn : n ≤ 660) : rM n f k i ≤ 1000 := by
  unfold rM
  split <;> omega

/-- What it reads of a text that is laid. -/
theorem rpos_tx {b n : Nat} {f : Nat → Nat} {K S M : Nat → Nat} {Z : Nat → Nat → Pl} (hM : ∀ i, i < 8 → M i = S i) (hn : n = (tx b K S M Z 8).1) (hf : ∀ j, j < n → f j = (tx b K S M Z 8).2 j) {i : Nat} (hi : i ≤ 8) : rpos n f i = (tx b K S M Z i).1 := by
  induction i with
  | zero => rfl
  | succ i ih =>
    have h0 := ih (by omega)
    have hl := tx_len_le b K S M Z (i := i + 1) (j := 8) hi
    rw [tx_next] at hl ⊢
    have hl : (tx b K S M Z i).1 + 2 + M i * 2 ≤ (tx b K S M Z 8).1 := hl
    show rpos n f i + rstep n f (rpos n f i) = (tx b K S M Z i).1 + 2 + M i * 2
    have hs : f ((tx b K S M Z i).1 + 1) = M i := by rw [hf _ (by omega), tx_size b K S M Z (show i < 8 by omega), hM i (by omega)]
    unfold rstep
    rw [h0, hs]
    omega

theorem Laid.refState {N : Nat} {L : Nat → Nat} {F : Nat → Nat → Nat} {s b seq : Nat} {K S M : Nat → Nat} {Z : Nat → Nat → Pl} (h : Laid N L F s b seq K S M Z) {n nv : Nat} {f : Nat → Nat} (hn : n = (tx b K S M Z 8).1) (hf : ∀ j, j < n → f j = (tx b K S M Z 8).2 j) (hv : RVols n f nv) :
    Alike (rK n f nv) (rS n f nv) (rM n f nv) K S M (rZ b n f) Z := by
  have hM : ∀ i, i < 8 → M i = S i := fun i hi => (fit_small h.1 hi).2.2
  have g := h.1.1
  have hp : ∀ i, i ≤ 8 → rpos n f i = (tx b K S M Z i).1 := fun i hi => rpos_tx hM hn hf hi
  have hl : ∀ i, i < 8 → (tx b K S M Z i).1 + 2 + M i * 2 ≤ n := fun i hi => by
    have hl := tx_len_le b K S M Z (i := i + 1) (j := 8) (by omega)
    rw [tx_next] at hl
    rw [hn]
    exact hl
  obtain rfl : nv = 8 := by
    rcases Nat.lt_or_ge nv 8 with c | c
    · refine absurd ?_ (hv.2.2 c)
      rw [hp nv (by omega)]
      have := hl nv c
      omega
    · have := hv.1
      omega
  intro i hi
  have h1 := hl i hi
  have e2 : f ((tx b K S M Z i).1 + 1) = S i := by rw [hf _ (by omega), tx_size b K S M Z hi]
  unfold rK rS rM rZ
  rw [if_pos hi, if_pos hi, if_pos hi, hp i (by omega)]
  refine ⟨by rw [hf _ (by omega), tx_kind b K S M Z hi], e2, by rw [e2, ← hM i hi]; omega, fun j hj => ?_⟩
  rw [e2, ← hM i hi] at hj
  have hj : j < M i := by omega
  have hin : ∀ q, Z i j = some q → q.1 < 24 ∧ q.2 < b := fun q hq => by
    have := h.1.2.2.1 q (.inl ⟨i, j, hi, hj, hq⟩)
    have := g.1
    omega
  have hc : rowN (fun t => f ((tx b K S M Z i).1 + (2 + t))) 2 j = rowN (rowB (fun j => codeOf b (Z i j)) 2) 2 j := by
    unfold rowN
    refine val_congr fun t ht => ?_
    show f ((tx b K S M Z i).1 + (2 + (j * 2 + t))) = _
    rw [hf _ (by omega)]
    exact tx_code b K S M Z hi (by omega)
  rw [hc, rowN_rowB (by have := code_lt (by have := g.2.2; omega) hin; show _ < 65536; exact this)]
  exact rCode_code (by have := g.2.1; omega) (by have := g.2.2; omega) hin

/-- What a leaf hands over to the document. -/
def rpart (F : Nat → Nat → Nat) (i : Nat) : Nat × (Nat → Nat) := if F i 5 ≤ 52 then (F i 5, fun j => F i (6 + j)) else (0, z0)
theorem Laid.refText {N : Nat} {L : Nat → Nat} {F : Nat → Nat → Nat} {s b seq : Nat} {K S M : Nat → Nat} {Z : Nat → Nat → Pl} (h : Laid N L F s b seq K S M Z) :
    (joinL ((List.range (N - 1)).map fun i => rpart F (i + 1))).1 = (tx b K S M Z 8).1 ∧ ∀ j, j < (joinL ((List.range (N - 1)).map fun i => rpart F (i + 1))).1 → (joinL ((List.range (N - 1)).map fun i => rpart F (i + 1))).2 j = (tx b K S M Z 8).2 j := by
  obtain ⟨_, _, _, _, _, _, _, _, _, h5, j1, j2⟩ := h.holds
  have jc := join_congr (k := N - 1) (G := fun i => rpart F (i + 1)) (H := dpart fun i => F (i + 1)) fun i hi => by
    have h52 := h5 i (by omega)
    unfold rpart
    rw [if_pos h52]
    exact ⟨by show F (i + 1) 5 = dlen (F (i + 1)); unfold dlen; omega, fun j hj => rfl⟩
  exact ⟨jc.1.trans j1, fun j hj => (jc.2 j hj).trans (j2 j (by rw [← j1, ← jc.1]; exact hj))⟩

/-- A state that grows where it lies: its rows are blocks behind it. -/
structure RowsJ (g : Nat) (K S : Nat → Nat) (V : Nat → Value) (M : Nat → Nat) (Z : Nat → Nat → Pl) (W : World) : Prop where
  st : StIs W g K S V
  row : ∀ i, i < 8 → OwnZ W (g + 1) (V i) (M i) (Z i)
  apt : Apt V
theorem RowsJ.size {g : Nat} {K S : Nat → Nat} {V : Nat → Value} {M : Nat → Nat} {Z : Nat → Nat → Pl} {W : World} (h : RowsJ g K S V M Z W) : g + 1 ≤ W.heap.size := RowIs.lt h.st
theorem RowsJ.congr {g : Nat} {K S K' S' : Nat → Nat} {V : Nat → Value} {M M' : Nat → Nat} {Z Z' : Nat → Nat → Pl} {W : World} (h : RowsJ g K S V M Z W) (he : Alike K S M K' S' M' Z Z') : RowsJ g K' S' V M' Z' W :=
  ⟨RowIs.congr h.st fun t ht => by
    unfold scell
    split
    · split
      · rw [(he (t / 2) (by omega)).1]
      · rw [(he (t / 2) (by omega)).2.1]
    · rfl, fun i hi => by
    have h1 := (h.row i hi).congr (he i hi).2.2.2
    rw [(he i hi).2.2.1] at h1
    exact h1, h.apt⟩
theorem RowsJ.later {g : Nat} {K S : Nat → Nat} {V : Nat → Value} {M : Nat → Nat} {Z : Nat → Nat → Pl} {W W' : World} (h : RowsJ g K S V M Z W) (hb : Below W.heap.size W W') : RowsJ g K S V M Z W' :=
  ⟨h.st.below hb, fun i hi => (h.row i hi).below_ hb, h.apt⟩

theorem row_push {g k : Nat} {K S : Nat → Nat} {V : Nat → Value} {M : Nat → Nat} {Z : Nat → Nat → Pl} {wr : World} {p : Pl} (h : RowsJ g K S V M Z wr) (h8 : k < 8) (hp : p = Z k (M k)) (hM : M k ≤ 1000000) :
    ∃ v' w', (Builtin.append_ #[29, 29] 29 #[V k, .slice (some ⟨wr.heap.size, 0, none⟩) 1 1]).run Tryz.prog (wr.alloc (.cells #[zval p] 55)) = .ok v' w' ∧ (∃ g cap, v' = .slice (some ⟨g, 0, none⟩) (M k + 1) cap) ∧
      w'.cell? ⟨g, 16 + k, none⟩ = some (V k) ∧ w'.frozen? ⟨g, 16 + k, none⟩ = false ∧
      RowsJ g K S (upd V k v') (upd M k (M k + 1)) Z (w'.setCell ⟨g, 16 + k, none⟩ v') ∧ Below g wr (w'.setCell ⟨g, 16 + k, none⟩ v') := by
  have ho := h.row k h8
  have hsz0 := h.size
  obtain ⟨v', w', r1, r2, r3, r4, r5⟩ := run_z_at 29 ho hp (by omega) hsz0
  have hnb : ∀ {g : Nat} {cs : Array Value} {T : TypeId} {fr : Nat × Nat}, wr.heap[g]? = some (.cells cs T fr) → T ≠ 55 → w'.heap[g]? = some (.cells cs T fr) := fun {g cs T fr} hg hT => by
    have hlt : g < wr.heap.size := (Array.getElem?_eq_some_iff.1 hg).1
    rw [r4.block g (by simp; omega) (OwnZ.not_block ho hg hT), Below.heap_alloc wr _ _ hlt]
    exact hg
  have st' : StIs w' g K S V := hnb h.st (by decide)
  have hfar : ∀ {j : Nat}, j ≠ g → (w'.setCell ⟨g, 16 + k, none⟩ v').heap[j]? = w'.heap[j]? := fun {j} hj => Below.heap_setCell _ _ _ _ hj
  refine ⟨v', w', r1, r3, (by have := RowIs.cell st' (i := 16 + k) (by omega); rw [scell_row] at this; exact this), RowIs.free st' _, ⟨StIs.put_row st', fun i hi => ?_, ?_⟩, ?_⟩
  · by_cases hik : i = k
    · subst hik
      rw [upd_here, upd_here]
      exact ownZ_cells r2 fun j cs fr hv hc => hfar (fun e => by subst e; have hx := (show w'.heap[j]? = _ from st').symm.trans hc; simp only [Option.some.injEq, Obj.cells.injEq] at hx; exact absurd hx.2.1 (by decide))
    · rw [upd_other hik, upd_other hik]
      refine ownZ_cells (h.row i hi) fun j cs fr hv hc => ?_
      have hlt : j < wr.heap.size := (Array.getElem?_eq_some_iff.1 hc).1
      rw [hfar (fun e => by subst e; have hx := (show wr.heap[j]? = _ from h.st).symm.trans hc; simp only [Option.some.injEq, Obj.cells.injEq] at hx; exact absurd hx.2.1 (by decide)),
        r4.block j (by simp; omega) (fun e => h.apt i k hi h8 hik j hv e.symm), Below.heap_alloc wr _ _ hlt]
  · intro i j hi hj hij q hgi hgj
    by_cases hik : i = k
    · subst hik
      rw [upd_here] at hgi
      rw [upd_other (Ne.symm hij)] at hgj
      rcases r5 with e | e
      · exact h.apt i j hi hj hij q (e ▸ hgi) hgj
      · have := ((h.row j hj).lt hgj).2.1
        rw [e] at hgi
        have := Option.some.inj hgi
        omega
    · rw [upd_other hik] at hgi
      by_cases hjk : j = k
      · subst hjk
        rw [upd_here] at hgj
        rcases r5 with e | e
        · exact h.apt i j hi hj hij q hgi (e ▸ hgj)
        · have := ((h.row i hi).lt hgi).2.1
          rw [e] at hgj
          have := Option.some.inj hgj
          omega
      · rw [upd_other hjk] at hgj
        exact h.apt i j hi hj hij q hgi hgj
  · have b2 : Below g wr (wr.alloc (.cells #[zval p] 55)) := (Below.refl g wr).alloc (by omega) _
    have b3 := b2.trans ((Below.refl g (wr.alloc (.cells #[zval p] 55))).grown r4 (by simp; omega) fun j hj => by have := (ho.lt hj).1; omega)
    exact b3.setCell (p := ⟨g, 16 + k, none⟩) (Nat.le_refl g) v'

/-- One entry is stored. -/
theorem entry_put {g k y0 y1 : Nat} {K S : Nat → Nat} {V : Nat → Value} {M : Nat → Nat} {Z : Nat → Nat → Pl} {W : World} (h : RowsJ g K S V M Z W) (h8 : k < 8) :
    RowsJ g (upd K k y0) (upd S k y1) V M Z ((W.setCell ⟨g, k * 2, none⟩ (.int .i64 (y0 : Int))).setCell ⟨g, k * 2 + 1, none⟩ (.int .i64 (y1 : Int))) ∧ Apart (fun j => j = g) W ((W.setCell ⟨g, k * 2, none⟩ (.int .i64 (y0 : Int))).setCell ⟨g, k * 2 + 1, none⟩ (.int .i64 (y1 : Int))) := by
  have ap4 : Apart (fun j => j = g) W ((W.setCell ⟨g, k * 2, none⟩ (.int .i64 (y0 : Int))).setCell ⟨g, k * 2 + 1, none⟩ (.int .i64 (y1 : Int))) :=
    ((Apart.refl (fun j => j = g) W).setCell (p := ⟨g, k * 2, none⟩) (fun _ => rfl) _).setCell (p := ⟨g, k * 2 + 1, none⟩) (fun _ => rfl) _
  refine ⟨⟨?_, fun i hi => ownZ_cells (h.row i hi) fun j cs fr hv hc => ap4.block j (Array.getElem?_eq_some_iff.1 hc).1 (fun e => ?_), h.apt⟩, ap4⟩
  · refine RowIs.set_ (C := fun t => if t = k * 2 then .int .i64 (y0 : Int) else scell K S V t) (RowIs.set_ (w := W) h.st (fun _ => by rw [if_pos rfl]) (fun t _ ht => by rw [if_neg ht])) (fun ht => ?_) (fun t ht hne => ?_)
    · rw [scell_size _ _ _ h8, upd_here]
    · by_cases htk : t = k * 2
      · subst htk
        rw [if_pos rfl, scell_kind _ _ _ h8, upd_here]
      · rw [if_neg htk]
        unfold scell
        split
        · split
          · rw [upd_other (by omega)]
          · rw [upd_other (by omega)]
        · rfl
  · have e' : j = g := e
    subst e'
    have hx := (show W.heap[j]? = _ from h.st).symm.trans hc
    simp only [Option.some.injEq, Obj.cells.injEq] at hx
    exact absurd hx.2.1 (by decide)
end Go.Proofs.YtdocclkphffpkaaGreat

