/- A crash of which all writes last leaves what a flush would; one of which none last, what there was behind the last flush. For every input. -/
import Derived.Test.YtcnoadikkfedaaaBasinAllWords
import Derived.Deep.CutBlock
import Derived.Deep.DeepCutAuto
namespace Go.Proofs.Ytcnoadikkfedaaa.basinAll
open Go.ChangeShapes Go.WideShapes Go.ChangeAt Go.RowKit

set_option maxHeartbeats 6400000 in
set_option maxRecDepth 100000 in
theorem text (A0 A1 : Option Addr) (n0 c0 n1 c1 : Nat) (f0 f1 : Nat → Nat) (w : World) (s0 : Reads w (.slice A0 n0 c0) n0 f0) (s1 : Reads w (.slice A1 n1 c1) n1 f1) :
    Calls Try.prog 7 #[.slice A0 n0 c0, .slice A1 n1 c1] w (Fresh (.bool true) w) := by
  obtain ⟨A0', c0', e0, p0, q0, -, r0⟩ := s0
  obtain ⟨rfl, -, rfl⟩ : A0 = A0' ∧ n0 = n0 ∧ c0 = c0' := by simpa using e0
  obtain ⟨A1', c1', e1, p1, q1, -, r1⟩ := s1
  obtain ⟨rfl, -, rfl⟩ : A1 = A1' ∧ n1 = n1 ∧ c1 = c1' := by simpa using e1
  have R0 := Lib.hid r0
  have R1 := Lib.hid r1
  clear e0 e1 r0 r1
  go_enter Try.func7, Try.ntmps7
  go_wp2_with fail
  refine (new_ok 10 w (by omega) (by omega)).mono ?_
  rintro e w1 ⟨ga, ha, rfl, hd, hb⟩
  have D1 : Hid (Devs w1 w.heap.size [⟨ga, ha, .slice none 0 0, fresh 10⟩]) := Lib.hid ⟨fun x hx => by rw [List.mem_singleton] at hx; subst hx; exact hd, List.pairwise_singleton _ _⟩
  have B1 := Lib.hid hb
  clear hd hb
  go_wp2_with fail
  refine (new_ok 10 w1 (by omega) (by omega)).mono ?_
  rintro e w2 ⟨gb, hb', rfl, hd, hb⟩
  have D2 := Lib.hid (D1.out.more hb hd (Nat.le_refl _) B1.out.size)
  have B2 := Lib.hid (B1.out.trans (hb.mono B1.out.size))
  clear hd hb
  go_wp2_with fail
  refine (new_ok 10 w2 (by omega) (by omega)).mono ?_
  rintro e w3 ⟨gc, hc, rfl, hd, hb⟩
  have D3 := Lib.hid (D2.out.more hb hd (Nat.le_refl _) B2.out.size)
  have B3 := Lib.hid (B2.out.trans (hb.mono B2.out.size))
  clear hd hb
  go_wp2_with fail
  refine (awake_any _).mono ?_
  rintro e w4 ⟨rfl, hb⟩
  have D4 : Hid (Devs w4 w.heap.size [⟨ga, ha, .slice none 0 0, fresh 10⟩, ⟨gb, hb', .slice none 0 0, fresh 10⟩, ⟨gc, hc, .slice none 0 0, fresh 10⟩]) := Lib.hid ((D3.out.below hb).perm (rev3 _ _ _))
  have B4 := Lib.hid (B3.out.trans (hb.mono B3.out.size))
  clear hb
  go_upto_block 0 with (fail)
  go_cut [] from 58 (fun wr => AllEnd w w.heap.size ga ha gb hb' gc hc wr)
  case first =>
    go_wp2
    go_loopg [11] 40 (fun gst v wr => Alling w w.heap.size ga ha gb hb' gc hc n0 gst v wr)
    case atStart => exact ⟨0, fresh 10, _, _, _, Nat.zero_le _, by omega, rfl, rfl, D4.out, ⟨rfl, rfl, rfl, Nat.le_refl _⟩, B4.out⟩
    case round =>
      obtain ⟨i, D, La, Lb, Lc, hi, hi4, rfl, rfl, hd, hca, hb⟩ := hrel
      have D5 := Lib.hid hd
      have C5 := Lib.hid hca
      have B5 := Lib.hid hb
      clear hd hca hb
      by_cases h0 : i < n0 ∧ i < 40
      · obtain ⟨h1, h2⟩ := h0
        obtain ⟨ad, rfl⟩ := R0.out.addr (by omega)
        obtain ⟨z, hz⟩ : ∃ z, z = f0 i := ⟨_, rfl⟩
        have hc0 := cell_later B5.out (R0.out.at_ h1)
        have hz256 := R0.out.small i h1
        rw [← hz] at hc0 hz256
        obtain ⟨t, ht⟩ : ∃ t, t = z % 10 := ⟨_, rfl⟩
        have ht10 : t < 10 := by omega
        have m1 : ((z : Int)).tmod 10 = (t : Int) := by rw [Int.tmod_eq_emod_of_nonneg (by omega)]; omega
        have i0 : (i : Int) < (n0 : Int) := by omega
        have i1 : (0 : Int) ≤ (i : Int) := by omega
        have a3 : IntKind.i64.wrap (t : Int) = (t : Int) := IntWalk.i64_in _ (by omega)
        have HC := Lib.hid hc0
        have PB : Hid ((ad.add i).block < wr.heap.size) := Lib.hid (World.block_lt_of_cell? wr _ hc0)
        clear hz ht
        go_upto_region 9 with (fail)
        go_cut [12] (fun s12 wx => Laid (fun _ => z) t wr s12 wx)
        case first =>
          go_region_held3 (fun w' => w'.cell? (ad.add i) = some (.int .u8 (z : Int)) ∧ Below wr.heap.size wr w')
            (first
              | exact ⟨hc0, (Below.refl _ _).drew⟩
              | exact held_again (by assumption) (by have h9 := hb5.size; exact h9) PB.out
              | exact held_store (by assumption) (Nat.le_refl _) PB.out
              | exact held_alloc (by assumption) _
              | exact held_call (by assumption) hb5)
            (first
              | (go_at_call 22; refine (fill_any z _).mono ?_; rintro e w5 ⟨b, rfl, hly, hbw, hb5⟩
                 try (have kq := box2_later hb5; obtain ⟨kq0, kq1, kf0, kf1⟩ := kq)))
          all_goals go_wp2
          all_goals go_meet
          · exact laid_behind hb5 hly hbw
          · exact laid_ahead hb5 hly hbw
        case rest =>
          obtain ⟨q, b, rfl, hq, hly, hqw, hbw, hb5⟩ := hcut
          have HQ := Lib.hid hq
          have HL := Lib.hid hly
          have B6 := Lib.hid (B5.out.trans (hb5.mono B5.out.size))
          have D6 := Lib.hid (D5.out.below hb5)
          have k0 : wc.cell? ⟨q, 0, none⟩ = some (.int .i64 (t : Int)) := by rw [cell_of_row _ _ _ _ _ _ hq]; rfl
          have k1 : wc.cell? ⟨q, 1, none⟩ = some (.slice (some ⟨b, 0, none⟩) 64 64) := by rw [cell_of_row _ _ _ _ _ _ hq]; rfl
          have NF : Hid (∀ x ∈ [(⟨ga, ha, La, D⟩ : DevAt), ⟨gb, hb', Lb, D⟩, ⟨gc, hc, Lc, D⟩], ¬ x.foot q ∧ ¬ x.foot b) := Lib.hid (fun x hx => ⟨fun hf => by have := (IsDev.lt (D5.out.is x hx) q hf).2; omega, fun hf => by have := (IsDev.lt (D5.out.is x hx) b hf).2; omega⟩)
          clear hq hly hc0 m1 a3
          have hlo : D.loose.length ≤ 100000000000 := Nat.le_trans C5.out.loose (by omega)
          have HLO := Lib.hid hlo
          have HT := Lib.hid ht10
          have LQ := Lib.hid (show q < wc.heap.size from (Array.getElem?_eq_some_iff.1 HQ.out).1)
          clear hlo
          go_wp2_with fail
          refine (puts_there (b := b) (t := t) (f := fun _ => z) D6.out (HL.out.bytes (Nat.le_refl _) (fun _ _ => hz256)) (NF.out _ (by simp)).2 (by rw [C5.out.size]; exact HT.out) HLO.out C5.out.off C5.out.limited).mono ?_
          rintro e w7 ⟨La', rfl, hd, ha7, ho7⟩
          have D7 := Lib.hid (hd.perm (rot3 _ _ _))
          have A7 := Lib.hid ha7
          have B7 := Lib.hid (B6.out.trans (D6.out.below_of ha7 B6.out.size))
          have L7 := Lib.hid (HL.out.apart ha7 (NF.out _ (by simp)).2)
          have k2 := cell_apart ha7 k0 (NF.out _ (by simp)).1
          have k3 := cell_apart ha7 k1 (NF.out _ (by simp)).1
          clear hd ha7 ho7 k0 k1
          go_wp2_with fail
          refine (puts_there (b := b) (t := t) (f := fun _ => z) D7.out (L7.out.bytes (Nat.le_refl _) (fun _ _ => hz256)) (NF.out _ (by simp)).2 (by rw [C5.out.size]; exact HT.out) HLO.out C5.out.off C5.out.limited).mono ?_
          rintro e w8 ⟨Lb', rfl, hd, ha8, ho8⟩
          have D8 := Lib.hid (hd.perm (rot3 _ _ _))
          have B8 := Lib.hid (B7.out.trans (D7.out.below_of ha8 B7.out.size))
          have L8 := Lib.hid (L7.out.apart ha8 (NF.out _ (by simp)).2)
          have k4 := cell_apart ha8 k2 (NF.out _ (by simp)).1
          have k5 := cell_apart ha8 k3 (NF.out _ (by simp)).1
          clear hd ha8 ho8 k2 k3
          go_wp2_with fail
          refine (puts_there (b := b) (t := t) (f := fun _ => z) D8.out (L8.out.bytes (Nat.le_refl _) (fun _ _ => hz256)) (NF.out _ (by simp)).2 (by rw [C5.out.size]; exact HT.out) HLO.out C5.out.off C5.out.limited).mono ?_
          rintro e w9 ⟨Lc', rfl, hd, ha9, ho9⟩
          have D9 := Lib.hid (hd.perm (rot3 _ _ _))
          have B9 := Lib.hid (B8.out.trans (D8.out.below_of ha9 B8.out.size))
          clear hd ha9 ho9 k4 k5
          go_wp2
          go_roundg (40 - (i + 1))
          case measure => omega
          case rel => exact ⟨i + 1, _, La', Lb', Lc', by omega, by omega, rfl, by go_num, D9.out, C5.out.next _, B9.out⟩
      · by_cases h1 : i < n0
        · obtain rfl : i = 40 := by omega
          go_wp2
          go_meet
          case rel => exact ⟨D, La, Lb, Lc, D5.out, C5.out, B5.out⟩
        · obtain rfl : i = n0 := by omega
          go_wp2
          go_meet
          case rel => exact ⟨D, La, Lb, Lc, D5.out, ⟨C5.out.size, C5.out.off, C5.out.limited, by have := C5.out.loose; omega⟩, B5.out⟩
  case rest =>
    obtain ⟨D, La, Lb, Lc, hd, hca, hb⟩ := hcut
    have D5 := Lib.hid hd
    have C5 := Lib.hid hca
    have B5 := Lib.hid hb
    clear hd hca hb
    go_wp2_with fail
    refine (flushes D5.out C5.out.off C5.out.limited).mono ?_
    rintro e w6 ⟨rfl, hd, hap⟩
    have D6 := Lib.hid (hd.perm (rot3 _ _ _))
    have B6 := Lib.hid (B5.out.trans (D5.out.below_of hap B5.out.size))
    clear hd hap
    go_wp2_with fail
    refine (flushes D6.out C5.out.off C5.out.limited).mono ?_
    rintro e w7 ⟨rfl, hd, hap⟩
    have D7 := Lib.hid (hd.perm (rot3 _ _ _))
    have B7 := Lib.hid (B6.out.trans (D6.out.below_of hap B6.out.size))
    clear hd hap
    go_wp2_with fail
    refine (flushes D7.out C5.out.off C5.out.limited).mono ?_
    rintro e w8 ⟨rfl, hd, hap⟩
    obtain ⟨D1, hD1⟩ : ∃ D1, D1 = D.settle fun _ => true := ⟨_, rfl⟩
    have C8 : Hid (Late D1 D1 0) := Lib.hid (by rw [hD1]; exact ⟨C5.out.size, C5.out.off, C5.out.limited, rfl, rfl⟩)
    have D8 : Hid (Devs w8 w.heap.size [⟨ga, ha, .slice none 0 0, D1⟩, ⟨gb, hb', .slice none 0 0, D1⟩, ⟨gc, hc, .slice none 0 0, D1⟩]) := Lib.hid (by rw [hD1]; exact hd.perm (rot3 _ _ _))
    have B8 := Lib.hid (B7.out.trans (D7.out.below_of hap B7.out.size))
    clear hd hap hD1
    go_upto_block 2 with (fail)
    go_cut [13] from 113 (fun s13 wr => LateEnd w w.heap.size ga ha gb hb' gc hc D1 s13 wr)
    case first =>
      have K8 : Hid (Keep (w8.alloc (.cells #[] 3)) w.heap.size (.slice (some ⟨w8.heap.size, 0, none⟩) 0 0) 0 [⟨ga, ha, .slice none 0 0, D1⟩, ⟨gb, hb', .slice none 0 0, D1⟩, ⟨gc, hc, .slice none 0 0, D1⟩]) := Lib.hid ⟨_, _, rfl, by
          have h5 := owni_new w8 (fun j => (j : Int))
          refine ⟨h5.1, ?_⟩
          rcases h5.2 with ⟨h6, _⟩ | ⟨k, cap, cur, e, hb0, rest⟩
          · cases h6
          · exact .inr ⟨k, cap, cur, e, Nat.le_trans B8.out.size hb0, rest⟩, by simp, fun x hx hf => by have := (IsDev.lt (D8.out.is x hx) _ hf).2; omega⟩
      have D8a := Lib.hid (D8.out.below ((Below.refl _ _).alloc (Nat.le_refl _) (.cells #[] 3)))
      have B8a := Lib.hid (B8.out.alloc B8.out.size (.cells #[] 3))
      go_wp2
      go_loopg [13, 14] 40 (fun gst v13 v wr => Lating w w.heap.size ga ha gb hb' gc hc D1 n1 gst v13 v wr)
      case atStart => exact ⟨0, D1, _, _, Nat.zero_le _, by omega, rfl, rfl, D8a.out, C8.out, K8.out, B8a.out⟩
      case round =>
        obtain ⟨i, D, La, Lb, hi, hi4, rfl, rfl, hd, hca, hk, hb⟩ := hrel
        obtain ⟨gk, ck, rfl, _⟩ := id hk
        have D5 := Lib.hid hd
        have C5 := Lib.hid hca
        have K5 := Lib.hid hk
        have B5 := Lib.hid hb
        clear hd hca hb hk
        by_cases h0 : i < n1 ∧ i < 40
        · obtain ⟨h1, h2⟩ := h0
          obtain ⟨ad, rfl⟩ := R1.out.addr (by omega)
          obtain ⟨z, hz⟩ : ∃ z, z = f1 i := ⟨_, rfl⟩
          have hc0 := cell_later B5.out (R1.out.at_ h1)
          have hz256 := R1.out.small i h1
          rw [← hz] at hc0 hz256
          obtain ⟨t, ht⟩ : ∃ t, t = z % 10 := ⟨_, rfl⟩
          have ht10 : t < 10 := by omega
          have m1 : ((z : Int)).tmod 10 = (t : Int) := by rw [Int.tmod_eq_emod_of_nonneg (by omega)]; omega
          have i0 : (i : Int) < (n1 : Int) := by omega
          have i1 : (0 : Int) ≤ (i : Int) := by omega
          have a3 : IntKind.i64.wrap (t : Int) = (t : Int) := IntWalk.i64_in _ (by omega)
          have HC := Lib.hid hc0
          have PB : Hid ((ad.add i).block < wr.heap.size) := Lib.hid (World.block_lt_of_cell? wr _ hc0)
          clear hz ht
          go_upto_region 18 with (fail)
          go_cut [15] (fun s15 wx => Laid (fun _ => z) t wr s15 wx)
          case first =>
            go_region_held3 (fun w' => w'.cell? (ad.add i) = some (.int .u8 (z : Int)) ∧ Below wr.heap.size wr w')
              (first
                | exact ⟨hc0, (Below.refl _ _).drew⟩
                | exact held_again (by assumption) (by have h9 := hb5.size; exact h9) PB.out
                | exact held_store (by assumption) (Nat.le_refl _) PB.out
                | exact held_alloc (by assumption) _
                | exact held_call (by assumption) hb5)
              (first
                | (go_at_call 22; refine (fill_any z _).mono ?_; rintro e w5 ⟨b, rfl, hly, hbw, hb5⟩
                   try (have kq := box2_later hb5; obtain ⟨kq0, kq1, kf0, kf1⟩ := kq)))
            all_goals go_wp2
            all_goals go_meet
            · exact laid_behind hb5 hly hbw
            · exact laid_ahead hb5 hly hbw
          case rest =>
            obtain ⟨q, b, rfl, hq, hly, hqw, hbw, hb5⟩ := hcut
            have HQ := Lib.hid hq
            have HL := Lib.hid hly
            have B6 := Lib.hid (B5.out.trans (hb5.mono B5.out.size))
            have D6 := Lib.hid (D5.out.below hb5)
            have K6 := Lib.hid (K5.out.below hb5)
            have k0 : wc.cell? ⟨q, 0, none⟩ = some (.int .i64 (t : Int)) := by rw [cell_of_row _ _ _ _ _ _ hq]; rfl
            have k1 : wc.cell? ⟨q, 1, none⟩ = some (.slice (some ⟨b, 0, none⟩) 64 64) := by rw [cell_of_row _ _ _ _ _ _ hq]; rfl
            have NF : Hid (∀ x ∈ [(⟨ga, ha, La, D⟩ : DevAt), ⟨gb, hb', Lb, D⟩, ⟨gc, hc, .slice none 0 0, D1⟩], ¬ x.foot q ∧ ¬ x.foot b) := Lib.hid (fun x hx => ⟨fun hf => by have := (IsDev.lt (D5.out.is x hx) q hf).2; omega, fun hf => by have := (IsDev.lt (D5.out.is x hx) b hf).2; omega⟩)
            have hlo : D.loose.length ≤ 100000000000 := by have := C5.out.loose; omega
            have HLO := Lib.hid hlo
            have HT := Lib.hid ht10
            clear hq hly hc0 m1 a3 hlo
            go_wp2_with fail
            refine (puts_there (b := b) (t := t) (f := fun _ => z) D6.out (HL.out.bytes (Nat.le_refl _) (fun _ _ => hz256)) (NF.out _ (by simp)).2 (by rw [C5.out.size]; exact HT.out) HLO.out C5.out.off C5.out.limited).mono ?_
            rintro e w7 ⟨La', rfl, hd, ha7, ho7⟩
            have D7 := Lib.hid (hd.perm (rot3 _ _ _))
            have K7 := Lib.hid ((K6.out.turn (D' := { D with loose := D.loose ++ [⟨t, fun _ => z⟩] }) ha7 ho7).perm (rot3 _ _ _))
            have B7 := Lib.hid (B6.out.trans (D6.out.below_of ha7 B6.out.size))
            have L7 := Lib.hid (HL.out.apart ha7 (NF.out _ (by simp)).2)
            have k2 := cell_apart ha7 k0 (NF.out _ (by simp)).1
            have k3 := cell_apart ha7 k1 (NF.out _ (by simp)).1
            clear hd ha7 ho7 k0 k1
            go_wp2_with fail
            refine (puts_there (b := b) (t := t) (f := fun _ => z) D7.out (L7.out.bytes (Nat.le_refl _) (fun _ _ => hz256)) (NF.out _ (by simp)).2 (by rw [C5.out.size]; exact HT.out) HLO.out C5.out.off C5.out.limited).mono ?_
            rintro e w8b ⟨Lb', rfl, hd, ha8, ho8⟩
            have D9 := Lib.hid ((hd.perm (rot3 _ _ _)).perm (rot3 _ _ _))
            have K9 := Lib.hid (((K7.out.turn (D' := { D with loose := D.loose ++ [⟨t, fun _ => z⟩] }) ha8 ho8).perm (rot3 _ _ _)).perm (rot3 _ _ _))
            have B9 := Lib.hid (B7.out.trans (D7.out.below_of ha8 B7.out.size))
            clear hd ha8 ho8 k2 k3
            obtain ⟨v', w10, hr, hk, hd, hb10⟩ := run_keep K9.out D9.out B9.out.size (by omega)
            have R10 := Lib.hid hr
            have K10 := Lib.hid hk
            have D10 := Lib.hid hd
            have B10 := Lib.hid (B9.out.trans hb10)
            clear hr hk hd hb10
            go_wp2_with (at_builtin; refine Lib.wpList_append_run _ rfl (.tmp 147) (.tmp 149) _ _ rfl _ _ rfl rfl _ _ R10.out ?_)
            go_roundg (40 - (i + 1))
            case measure => omega
            case rel => exact ⟨i + 1, _, La', Lb', by omega, by omega, rfl, by go_num, D10.out, C5.out.next _, K10.out, B10.out⟩
        · by_cases h1 : i < n1
          · obtain rfl : i = 40 := by omega
            go_wp2
            go_meet
            case rel => exact ⟨40, D, La, Lb, Nat.le_refl _, D5.out, C5.out, K5.out, B5.out⟩
          · obtain rfl : i = n1 := by omega
            go_wp2
            go_meet
            case rel => exact ⟨i, D, La, Lb, hi4, D5.out, C5.out, K5.out, B5.out⟩
    case rest =>
      obtain ⟨m, D, La, Lb, hm, hd, hca, hk, hb⟩ := hcut
      obtain ⟨gk, ck, rfl, _⟩ := id hk
      have D5 := Lib.hid hd
      have C5 := Lib.hid hca
      have K5 := Lib.hid hk
      have B5 := Lib.hid hb
      clear hd hca hk hb
      go_wp2_with fail
      refine (new_ok 10 wc (by omega) (by omega)).mono ?_
      rintro e w9 ⟨gd, hdd, rfl, hd, hb⟩
      have D9 := Lib.hid (D5.out.more hb hd (Nat.le_refl _) B5.out.size)
      have K9 := Lib.hid (K5.out.more hb hd)
      have B9 := Lib.hid (B5.out.trans (hb.mono B5.out.size))
      clear hd hb
      go_wp2
      go_loopw [18] (fun v wr => Filling w w.heap.size gd hdd [⟨ga, ha, La, D⟩, ⟨gb, hb', Lb, D⟩, ⟨gc, hc, .slice none 0 0, D1⟩] D1 (.slice (some ⟨gk, 0, none⟩) m ck) m v wr) (fun v _ => 10 - (intOf v).toNat)
      case atStart => exact ⟨0, fresh 10, _, Nat.zero_le _, rfl, D9.out, K9.out, ⟨rfl, rfl, rfl, Nat.le_refl _⟩, fun s hs => absurd hs (by omega), B9.out⟩
      case round =>
        obtain ⟨i, Dd, Ld, hi, rfl, hd, hk, hca, hv, hb⟩ := hrel
        have D10 := Lib.hid hd
        have K10 := Lib.hid hk
        have C10 := Lib.hid hca
        have V10 := Lib.hid hv
        have B10 := Lib.hid hb
        clear hd hk hca hv hb
        by_cases h0 : i < 10
        · go_wp2_with fail
          refine (get_ok (base := w.heap.size) (g := gc) (h := hc) (L := .slice none 0 0) (D := D1) (t := i) (D10.out.is ⟨gc, hc, .slice none 0 0, D1⟩ (by simp)) C8.out.off (by rw [C8.out.size]; exact h0)).mono ?_
          rintro e w11 ⟨k, rfl, hk, hkw, hb11⟩
          have hsm := IsDev.small (D10.out.is ⟨gc, hc, .slice none 0 0, D1⟩ (by simp)) (t := i) (by show i < D1.size; rw [C8.out.size]; exact h0)
          have Y11 : Hid (BytesAt w11 (some ⟨k, 0, none⟩) 64 (D1.sure i)) := Lib.hid (by rw [← C8.out.view0]; exact got_bytes hk hsm)
          have D11 := Lib.hid (D10.out.below hb11)
          have K11 := Lib.hid (K10.out.below hb11)
          have B11 := Lib.hid (B10.out.trans (hb11.mono B10.out.size))
          have NB : Hid (¬ foot gd hdd Ld k) := Lib.hid (fun hf => by have := (IsDev.lt D10.out.head k hf).2; omega)
          have HI := Lib.hid h0
          clear hk hkw hb11 hsm
          go_wp2_with fail
          refine (puts_there (b := k) (t := i) (f := D1.sure i) D11.out Y11.out NB.out (by rw [C10.out.size]; exact HI.out) (Nat.le_trans C10.out.loose (by omega)) C10.out.off C10.out.limited).mono ?_
          rintro e w12 ⟨Ld', rfl, hd, ha12, ho12⟩
          have D12 := Lib.hid hd
          have K12 := Lib.hid (K11.out.turn (D' := { Dd with loose := Dd.loose ++ [⟨i, D1.sure i⟩] }) ha12 ho12)
          have B12 := Lib.hid (B11.out.trans (D11.out.below_of ha12 B11.out.size))
          clear hd ha12 ho12
          go_wp2
          go_roundw
          case rel => exact ⟨i + 1, _, Ld', by omega, by go_num, D12.out, K12.out, C10.out.next _, view_next V10.out, B12.out⟩
          case measure => simp [intOf]; omega
        · obtain rfl : i = 10 := by omega
          have D11 := Lib.hid (D10.out.perm (rot4 _ _ _ _))
          have HM := Lib.hid C5.out.loose
          go_wp2_with fail
          refine (loose_any D11.out.head).mono ?_
          rintro e w' ⟨rfl, rfl⟩
          simp only []
          rw [HM.out]
          obtain ⟨A, c, hAc, hints⟩ := K10.out.ints (by omega)
          obtain ⟨rfl, -, rfl⟩ : some ⟨gk, 0, none⟩ = A ∧ m = m ∧ ck = c := by simpa using hAc
          have HN := Lib.hid hints
          clear hAc hints
          go_wp2_with fail
          refine (crashes D11.out HN.out (by show D.loose.length ≤ _; rw [HM.out]; omega)).mono ?_
          rintro e w13 ⟨rfl, hd, hap⟩
          have D13 := Lib.hid hd
          have B13 := Lib.hid (B10.out.trans (D11.out.below_of hap B10.out.size))
          clear hd hap
          go_wp2
          go_loopw [22] (fun v wr => ∃ i : Nat, i ≤ 10 ∧ v = .int .i64 (i : Int) ∧ Below w13.heap.size w13 wr) (fun v _ => 10 - (intOf v).toNat)
          case atStart => exact ⟨0, Nat.zero_le _, rfl, Below.refl _ _⟩
          case round =>
            obtain ⟨i, hi, rfl, hb⟩ := hrel
            have B14 := Lib.hid hb
            clear hb
            by_cases h0 : i < 10
            · go_wp2_with fail
              refine (get_ok (base := w.heap.size) (t := i) ((D13.out.below B14.out).is ⟨ga, ha, .slice none 0 0, D.crash (upto m)⟩ (by simp)) rfl (by show i < D.size; rw [C5.out.size]; exact h0)).mono ?_
              rintro e w15 ⟨k, rfl, hk, hkw, hb15⟩
              rw [crash_all HM.out] at hk
              have D15 := D13.out.below (B14.out.trans (hb15.mono B14.out.size))
              have hsm := IsDev.small (D15.is ⟨gb, hb', Lb, D⟩ (by simp)) (t := i) (by show i < D.size; rw [C5.out.size]; exact h0)
              have Y15 := Lib.hid (got_bytes hk hsm)
              have B15 := Lib.hid (B14.out.trans (hb15.mono B14.out.size))
              have HSM := Lib.hid hsm
              clear hk hkw hb15 hsm D15
              go_wp2_with fail
              refine (get_ok (base := w.heap.size) (t := i) ((D13.out.below B15.out).is ⟨gb, hb', Lb, D⟩ (by simp)) C5.out.off (by show i < D.size; rw [C5.out.size]; exact h0)).mono ?_
              rintro e w16 ⟨k2, rfl, hk, hkw, hb16⟩
              obtain ⟨S, hS⟩ : ∃ S, S = str (D.view i) 64 := ⟨_, rfl⟩
              have kc1 : (convert 37 9 (.slice (some ⟨k, 0, none⟩) 64 64)).run Try.prog w16 = .ok (.string S) w16 := by rw [hS]; exact conv_str 64 (Y15.out.below hb16)
              have kc2 : (convert 37 9 (.slice (some ⟨k2, 0, none⟩) 64 64)).run Try.prog w16 = .ok (.string S) w16 := by rw [hS]; exact conv_str 64 (got_bytes hk HSM.out)
              have B16 := Lib.hid (B15.out.trans (hb16.mono B15.out.size))
              have HSS := Lib.hid hS
              clear hk hkw hb16 hS
              go_wp2
              clear kc1 kc2
              go_roundw
              case rel => exact ⟨i + 1, by omega, by go_num, B16.out⟩
              case measure => simp [intOf]; omega
            · obtain rfl : i = 10 := by omega
              have D14 := Lib.hid ((D13.out.below B14.out).perm (rot4 _ _ _ _))
              have BW := Lib.hid (B13.out.trans (B14.out.mono B13.out.size))
              go_wp2_with fail
              refine (crashes D14.out (ints_none _ .i64) (by show D.loose.length ≤ _; rw [HM.out]; omega)).mono ?_
              rintro e w17 ⟨rfl, hd, hap⟩
              have D17 := Lib.hid hd
              have B17 := Lib.hid (BW.out.trans (D14.out.below_of hap BW.out.size))
              clear hd hap
              go_wp2
              go_loopw [27] (fun v wr => ∃ i : Nat, i ≤ 10 ∧ v = .int .i64 (i : Int) ∧ Below w17.heap.size w17 wr) (fun v _ => 10 - (intOf v).toNat)
              case atStart => exact ⟨0, Nat.zero_le _, rfl, Below.refl _ _⟩
              case round =>
                obtain ⟨i, hi, rfl, hb⟩ := hrel
                have B18 := Lib.hid hb
                clear hb
                by_cases h0 : i < 10
                · go_wp2_with fail
                  refine (get_ok (base := w.heap.size) (t := i) ((D17.out.below B18.out).is ⟨gb, hb', .slice none 0 0, D.crash []⟩ (by simp)) rfl (by show i < D.size; rw [C5.out.size]; exact h0)).mono ?_
                  rintro e w15 ⟨k, rfl, hk, hkw, hb15⟩
                  rw [crash_none, C5.out.sure] at hk
                  have D15 := D17.out.below (B18.out.trans (hb15.mono B18.out.size))
                  have hsm := IsDev.small (D15.is ⟨gd, hdd, Ld, Dd⟩ (by simp)) (t := i) (by show i < Dd.size; rw [C10.out.size]; exact h0)
                  have hvi := V10.out i h0
                  simp only [] at hsm
                  rw [hvi] at hsm
                  have Y15 := Lib.hid (got_bytes hk hsm)
                  have B15 := Lib.hid (B18.out.trans (hb15.mono B18.out.size))
                  have HSM := Lib.hid hsm
                  clear hk hkw hb15 hsm D15 hvi
                  go_wp2_with fail
                  refine (get_ok (base := w.heap.size) (t := i) ((D17.out.below B15.out).is ⟨gd, hdd, Ld, Dd⟩ (by simp)) C10.out.off (by show i < Dd.size; rw [C10.out.size]; exact h0)).mono ?_
                  rintro e w16 ⟨k2, rfl, hk, hkw, hb16⟩
                  simp only [] at hk
                  rw [V10.out i h0] at hk
                  obtain ⟨S, hS⟩ : ∃ S, S = str (D1.sure i) 64 := ⟨_, rfl⟩
                  have kc1 : (convert 37 9 (.slice (some ⟨k, 0, none⟩) 64 64)).run Try.prog w16 = .ok (.string S) w16 := by rw [hS]; exact conv_str 64 (Y15.out.below hb16)
                  have kc2 : (convert 37 9 (.slice (some ⟨k2, 0, none⟩) 64 64)).run Try.prog w16 = .ok (.string S) w16 := by rw [hS]; exact conv_str 64 (got_bytes hk HSM.out)
                  have B16 := Lib.hid (B15.out.trans (hb16.mono B15.out.size))
                  have HSS := Lib.hid hS
                  clear hk hkw hb16 hS
                  go_wp2
                  clear kc1 kc2
                  go_roundw
                  case rel => exact ⟨i + 1, by omega, by go_num, B16.out⟩
                  case measure => simp [intOf]; omega
                · obtain rfl : i = 10 := by omega
                  go_wp2_with fail
                  refine (loose_any ((D17.out.below B18.out).is ⟨ga, ha, .slice none 0 0, D.crash (upto m)⟩ (by simp))).mono ?_
                  rintro e w' ⟨rfl, rfl⟩
                  rw [show (D.crash (upto m)).loose.length = 0 from rfl]
                  go_wp2
                  go_ret
                  exact ⟨rfl, B17.out.trans (B18.out.mono B17.out.size)⟩

set_option linter.unusedVariables false in
theorem walk (w : World) (A0 : Option Addr) (n0 c0 : Nat) (Z0 : List Int) (s0 : IntsIn w .u8 A0 n0 c0 Z0) (r0 : n0 * 1 ≤ 140737488351232) (A1 : Option Addr) (n1 c1 : Nat) (Z1 : List Int) (s1 : IntsIn w .u8 A1 n1 c1 Z1) (r1 : n1 * 1 ≤ 140737488351232) :
    Calls Try.prog 7 #[.slice A0 n0 c0, .slice A1 n1 c1] w (Fresh (.bool true) w) := by
  exact text A0 A1 n0 c0 n1 c1 _ _ w (reads_in s0) (reads_in s1)
/-! ### the law's end -/
set_option linter.unusedVariables false
theorem own : ownKnob Try.prog.godebug = none := by kernel_rfl
theorem laidOut : laidOutB Try.prog = true := by kernel_rfl
set_option maxRecDepth 100000 in

theorem lifted (os : Os) (started : os.Started) (H : Type) (enc : TypeId × Value → H) :
    ReturnsInHanded {} Try.checked os 7 .any (Rows.basinAllSpec.pre6 enc Try.prog Try.f7 Rows.basinAllRow.domain false) (Rows.basinAllSpec.post enc Try.prog Try.f7 false true false false) := by
  refine returnsInHanded_of_change_sized (C := Try.checked) own started (by kernel_rfl) Try.func7
    (ChangeSpec.witness6 (enc := enc) (C := Try.checked) false ⟨#[], #[.slice none 0 0, .slice none 0 0], []⟩ 8 (by kernel_rfl) (by kernel_rfl) (by kernel_rfl) (by kernel_rfl)) ?_
  intro W base args ds gs before hval0 hW _ hsz0 _
  have hsz : (DataW.weightsEach Try.prog (Try.f7.params.toList ++ Rows.basinAllSpec.plain.varTypes Try.prog) (ds ++ gs)).all (· ≤ reachBytes) = true := hsz0
  clear hsz0
  have hval : ∀ (j : Nat) t v, Try.f7.params[j]? = some t → args[j]? = some v → Value.okWide Try.prog W .any base t v := hval0
  have hW' := hW
  obtain ⟨p, q, hA0, hV, rfl, _, _⟩ := hW
  have hA : DataW.TrodAll enc Try.prog W 0 (fun _ => true) true Try.f7.params.toList args.toList ds p := hA0
  rw [Try.params7] at hA hval hsz
  obtain ⟨v0, vs0, d0, ds0, p0, q0, hargs, rfl, rfl, h0, u0⟩ := trodAll_cons hA
  obtain ⟨v1, vs1, d1, ds1, p1, q1, rfl, rfl, rfl, h1, u1⟩ := trodAll_cons u0
  obtain ⟨rfl, rfl, rfl⟩ := trodAll_nil u1
  obtain rfl : args = #[v0, v1] := by cases args; simp_all
  obtain ⟨rfl, rfl⟩ := trodVars_none hV
  clear hA0 hval0
  obtain ⟨A0, n0, c0, rfl⟩ := okWide_slice Try.underlying37 (hval 0 37 v0 rfl rfl)
  have k0 := h0
  obtain ⟨Z0, s0, z0⟩ := view_ints Try.underlying37 Try.underlying5 (by kernel_rfl) h0
  have r0 := reach_of (b := 1) hsz (j := 0) (t := 37) (e := 5) rfl rfl Try.underlying37 (by kernel_rfl) z0
  obtain ⟨A1, n1, c1, rfl⟩ := okWide_slice Try.underlying37 (hval 1 37 v1 rfl rfl)
  have k1 := h1
  obtain ⟨Z1, s1, z1⟩ := view_ints Try.underlying37 Try.underlying5 (by kernel_rfl) h1
  have r1 := reach_of (b := 1) hsz (j := 1) (t := 37) (e := 5) rfl rfl Try.underlying37 (by kernel_rfl) z1
  simp only [List.append_nil] at hW'
  have hlt : ∀ x ∈ p0 ++ p1, x.block < W.heap.size := fun x hx => by simpa using hW'.lt x (by simpa using hx)
  refine (walk W A0 n0 c0 Z0 s0 r0 A1 n1 c1 Z1 s1 r1).mono fun e W' ⟨he, hb⟩ => ?_
  subst he
  exact ⟨_, rfl, _, _, _, [], _, [], hW', (trodAll_cons_mk (shut_bool Try.underlying4 _) trodAll_mk0), (trodAll_cons_mk (Below.trod laidOut (by kernel_rfl) (of_decide_eq_true (by kernel_rfl)) k0 hb (fun x hx => hlt x (by simp [hx]))) (trodAll_cons_mk (Below.trod laidOut (by kernel_rfl) (of_decide_eq_true (by kernel_rfl)) k1 hb (fun x hx => hlt x (by simp [hx]))) trodAll_mk0)), rfl, hb.frame _, fun h => by cases h⟩

theorem over : Rows.basinAllRow.holds Try.pinned (OpenSpec.ofChange Rows.basinAllSpec) :=
  OpenClaim.holds_of_wide 7 Try.f7 rfl rfl rfl rfl rfl rfl rfl ⟨rfl, rfl, rfl, rfl, rfl⟩ rfl rfl rfl rfl rfl (by kernel_rfl) Try.func7 (by kernel_rfl)
    (of_decide_eq_true (by kernel_rfl)) (by unfold Func.isWrapper; first | (rw [if_pos (by decide +kernel)]; kernel_rfl) | (rw [if_neg (by decide +kernel)]; exact ⟨rfl, rfl⟩))
    (fun os started H enc _ => lifted os started H enc)

theorem proved : Rows.BasinAllSaid := over
#print axioms proved
end Go.Proofs.Ytcnoadikkfedaaa.basinAll
