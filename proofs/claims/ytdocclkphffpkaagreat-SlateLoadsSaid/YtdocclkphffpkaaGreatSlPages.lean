/- What the statement reads of one area. -/
import Derived.Test.YtdocclkphffpkaaGreatMerge21
import Derived.Test.YtdocclkphffpkaaGreatMerge6
import Derived.Test.YtdocclkphffpkaaGreatRfDecode
namespace Go.Proofs.YtdocclkphffpkaaGreat
open Go.RowKit

theorem area_of (q : Nat) (w : World) (hq : q ≤ 1073741824) :
    Calls Tryz.prog 21 #[.int .i64 (q : Int)] w fun e w' => e = .returned (.int .i64 ((q % 2 * 12 : Nat) : Int)) ∧ w = w' := by
  obtain ⟨z, hz⟩ : ∃ z : Nat, z = q % 2 * 12 := ⟨_, rfl⟩
  have e : (q : Int) % 2 * 12 = (z : Int) := by omega
  rw [← hz]
  clear hz
  go_enter Tryz.func21, Tryz.ntmps21
  go_wp2
  go_ret
  exact ⟨by first | rfl | go_num | (congr 2; omega), rfl⟩

/-- The pages that the header of an area says, or none. -/
def PagesA (D : Dev) (k : Nat) (w : World) (e : Ending) (w' : World) : Prop :=
  Below w.heap.size w w' ∧ ((12 * k + (D.area k 0 10 + 1) ≤ D.size ∧ seqIn (D.area k 0) % 2 = k ∧ ∃ v, e = .returned v ∧ SecP w' w.heap.size v (D.area k 0 10 + 1) (D.area k)) ∨ (Lacks D k ∧ e = .returned (.slice none 0 0)))

theorem area_nil {D : Dev} {k : Nat} {L : Nat → Nat} {F : Nat → Nat → Nat} {w w1 w' : World} {e : Ending} (hb : Below w.heap.size w w1) (hl : Lacks D k) (h : DecA 0 L F w1 e w') : AreaB D k w1.heap.size w e w' := by
  obtain ⟨h, hb2⟩ := h
  have hB := hb.trans (hb2.mono hb.size)
  rcases h with ⟨s, b, q, K, S, M, Z, V, hd, _⟩ | ⟨_, rfl⟩
  · have := hd.holds.2.2.2.2.2.2.1
    omega
  · exact ⟨hB, 0, 0, 0, 11, z0, z0, z0, fun _ _ => none, zV, rfl, fun _ _ => ownZ_none _ _ _, .inr ⟨by omega, hl⟩⟩

set_option maxRecDepth 100000 in
set_option maxHeartbeats 1000000 in
theorem pages_any {w : World} {base g h : Nat} {L : Value} {D : Dev} (d : IsDev w base g h L D) (ho : D.off = false) (k : Nat) (hk : k < 2) (t : Nat) (ht : t = 12 * k) :
    Calls Tryz.prog 8 #[.pointer (some ⟨g, 0, none⟩), .int .i64 (t : Int)] w (PagesA D k w) := by
  have DW := Lib.hid d
  have HO := Lib.hid ho
  have TH := Lib.hid ht
  have tb : t ≤ 12 := by omega
  clear d ho ht
  by_cases hin : t < D.size
  · have IN := Lib.hid hin
    clear hin
    go_enter Tryz.func8, Tryz.ntmps8
    go_wp2_with fail
    with_reducible refine (dev_get_ok DW.out HO.out IN.out).mono ?_
    rintro e w2 ⟨kb, rfl, hkb, hkw, hb2⟩
    have B2 : Hid (Below w.heap.size w w2) := Lib.hid hb2
    have P2 : Hid (PageB w2 w.heap.size (.slice (some ⟨kb, 0, none⟩) 64 64) (D.area k 0)) := Lib.hid ⟨kb, rfl, by unfold Dev.area; rw [Nat.add_zero, ← TH.out]; exact hkb, hkw⟩
    have R2 : Hid (Reads w2 (.slice (some ⟨kb, 0, none⟩) 64 64) 64 (D.area k 0)) := Lib.hid (P2.out.reads fun j hj => DW.out.small (t := 12 * k + 0) (by have := IN.out; have := TH.out; omega) j hj)
    clear hkb hkw hb2
    go_wp2_with fail
    with_reducible refine (refCount_any _ 64 (D.area k 0) w2 R2.out).mono ?_
    rintro e w3 ⟨hcase, hb3⟩
    have B3 : Hid (Below w.heap.size w w3) := Lib.hid (B2.out.trans (hb3.mono B2.out.size))
    have P3 := Lib.hid (P2.out.below_ hb3)
    clear hb3 R2 P2 B2
    rcases hcase with ⟨hh, rfl⟩ | ⟨hno, rfl⟩
    · have HH := Lib.hid hh
      obtain ⟨m, hm⟩ : ∃ m, m = D.area k 0 10 := ⟨_, rfl⟩
      obtain ⟨q, hqq⟩ : ∃ q, q = seqIn (D.area k 0) := ⟨_, rfl⟩
      rw [← hm, ← hqq]
      have M1 := Lib.hid hm
      have Q1 := Lib.hid hqq
      have A1 := Lib.hid fun w => area_of q w (by rw [hqq]; exact hh.2.2.1.2)
      obtain ⟨z, hz⟩ : ∃ z, z = q % 2 * 12 := ⟨_, rfl⟩
      rw [← hz] at A1
      have m11 : m ≤ 11 := by rw [hm]; exact hh.2.2.2
      by_cases hq : q % 2 = k
      · have HQ := Lib.hid hq
        have e1 : ((z : Int) != (t : Int)) = false := by have := TH.out; simp; omega
        clear hh hm hqq hz hq
        go_wp2_with fail
        with_reducible refine (A1.out w3).mono ?_
        rintro e w4 ⟨rfl, rfl⟩
        have s0 := Lib.hid (sec_new (F := D.area k) P3.out B3.out.size)
        have b0 : Hid (Below w.heap.size w (w3.alloc (.cells #[.slice (some ⟨kb, 0, none⟩) 64 64] 44))) := Lib.hid (B3.out.alloc B3.out.size _)
        clear A1 P3 B3
        go_wp2
        clear e1
        go_loopw [10, 11] (fun v x wr => ∃ i : Nat, i ≤ m ∧ x = .int .i64 ((i : Int) + 1) ∧ SecP wr w.heap.size v (i + 1) (D.area k) ∧ (i = 0 ∨ t + i < D.size) ∧ Below w.heap.size w wr) (fun _ x _ => m + 1 - (intOf x).toNat)
        case atStart => exact ⟨0, Nat.zero_le _, rfl, s0.out, .inl rfl, b0.out⟩
        case round =>
          clear s0 b0
          obtain ⟨i, hi, rfl, hs, hle, hb⟩ := hrel
          have HS := Lib.hid hs
          have HB := Lib.hid hb
          have HL := Lib.hid hle
          clear hs hb hle
          by_cases him : i < m
          · by_cases hti : t + (i + 1) < D.size
            · have G : Hid (Calls Tryz.prog 14 #[.pointer (some ⟨g, 0, none⟩), .int .i64 ((t : Int) + ((i : Int) + 1))] wr (Got (D.area k (i + 1)) wr)) :=
                Lib.hid (by have h := dev_get_ok (DW.out.below HB.out) (t := t + (i + 1)) HO.out hti; rw [Int.natCast_add, Int.natCast_add] at h; unfold Dev.area; rw [← TH.out]; exact h)
              have LT := Lib.hid hti
              clear hti
              go_wp2_with fail
              with_reducible refine G.out.mono ?_
              rintro e w4 ⟨kc, rfl, hk4, hkw4, hb4⟩
              have B4 : Hid (Below w.heap.size w w4) := Lib.hid (HB.out.trans (hb4.mono HB.out.size))
              have hp : PageB w4 w.heap.size (.slice (some ⟨kc, 0, none⟩) 64 64) (D.area k (i + 1)) := ⟨kc, rfl, hk4, Nat.le_trans HB.out.size hkw4⟩
              obtain ⟨v5, w5, r5, s5, g5⟩ := run_sec 22 (HS.out.below_ hb4) hp (by omega) B4.out.size
              have R5 := Lib.hid r5
              have S5 := Lib.hid s5
              have B5 : Hid (Below w.heap.size w w5) := Lib.hid (sec_grown (HS.out.below_ hb4) B4.out (Nat.le_refl _) g5)
              clear hk4 hkw4 hb4 hp r5 s5 g5 G
              go_wp2_with (at_builtin; refine Lib.wpList_append_run _ rfl (.tmp 55) (.tmp 57) _ _ rfl _ _ rfl rfl _ _ R5.out ?_)
              go_roundw
              case rel => exact ⟨i + 1, by omega, by go_num, S5.out, .inr LT.out, B5.out⟩
              case measure => simp [intOf]; omega
            · have G : Hid (Calls Tryz.prog 14 #[.pointer (some ⟨g, 0, none⟩), .int .i64 ((t : Int) + ((i : Int) + 1))] wr fun e w' => e = .returned (.tuple #[.slice none 0 0, .int .i64 5]) ∧ wr = w') :=
                Lib.hid (dev_get_range (DW.out.below HB.out) _ HO.out (hasB_no (by omega)))
              have LA : Hid (Lacks D k) := Lib.hid fun s b q' K S M Z hf => by
                have := hf.2.1
                rw [← M1.out, ← TH.out] at this
                omega
              clear hti
              go_wp2_with fail
              with_reducible refine G.out.mono ?_
              rintro e w4 ⟨rfl, rfl⟩
              go_wp2
              go_ret
              exact ⟨HB.out, .inr ⟨LA.out, rfl⟩⟩
          · obtain rfl : i = m := by omega
            go_wp2
            go_ret
            refine ⟨HB.out, .inl ⟨?_, by rw [← Q1.out]; exact HQ.out, _, rfl, ?_⟩⟩
            · rw [← M1.out, ← TH.out]
              have := HL.out
              have := IN.out
              omega
            · rw [← M1.out]
              exact HS.out
      · have LA : Hid (Lacks D k) := Lib.hid fun s b q' K S M Z hf => hq (by rw [hqq, hf.header.2]; exact hf.1)
        have e1 : ((z : Int) != (t : Int)) = true := by have := TH.out; simp; omega
        clear hh hm hqq hz hq
        go_wp2_with fail
        with_reducible refine (A1.out w3).mono ?_
        rintro e w4 ⟨rfl, rfl⟩
        go_wp2
        go_ret
        exact ⟨B3.out, .inr ⟨LA.out, rfl⟩⟩
    · have LA : Hid (Lacks D k) := Lib.hid fun s b q' K S M Z hf => hno hf.header.1
      clear hno
      go_wp2
      go_ret
      exact ⟨B3.out, .inr ⟨LA.out, rfl⟩⟩
  · have LA : Hid (Lacks D k) := Lib.hid fun s b q' K S M Z hf => by
      have := hf.2.1
      rw [← TH.out] at this
      omega
    have G := Lib.hid (dev_get_range DW.out (t : Int) HO.out (hasB_no (by omega)))
    clear hin
    go_enter Tryz.func8, Tryz.ntmps8
    go_wp2_with fail
    with_reducible refine G.out.mono ?_
    rintro e w2 ⟨rfl, rfl⟩
    go_wp2_with fail
    with_reducible refine (refCount_any _ 0 (fun _ => 0) w (reads_none _ _)).mono ?_
    rintro e w3 ⟨⟨hh, rfl⟩ | ⟨hno, rfl⟩, hb3⟩
    · exact absurd hh.1.1 (by omega)
    · have B3 := Lib.hid hb3
      clear hno hb3
      go_wp2
      go_ret
      exact ⟨B3.out, .inr ⟨LA.out, rfl⟩⟩
end Go.Proofs.YtdocclkphffpkaaGreat
