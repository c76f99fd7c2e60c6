/- Ids are the least that are nothing, all of them, and there are no more. For every input, no condition. -/
import Derived.Test.YtokklimfncljnaaRollAwake
namespace Go.Proofs.Ytokklimfncljnaa.rollIds
open Go.ChangeShapes Go.WideShapes Go.ChangeAt Go.RowKit

theorem bool_info : (Try.prog.info? 4).map (fun i => (i.zero, i.size, i.bytes)) = some (some (.bool false), 1, 1) := by kernel_rfl
theorem make_bools (u : World) :
    ∃ w', (Instr.makeSlice 26 (.int .i64 8) (.int .i64 8)).run Try.prog u = .ok (.slice (some ⟨u.heap.size, 0, none⟩) 8 8) w' ∧ RowIs w' u.heap.size 4 (fun _ => .bool false) 8 ∧ Below u.heap.size u w' ∧ u.heap.size < w'.heap.size := by
  refine ⟨u.alloc (.cells #[.bool false, .bool false, .bool false, .bool false, .bool false, .bool false, .bool false, .bool false] 4), by kernel_rfl, ?_, (Below.refl _ _).alloc (Nat.le_refl _) _, by simp⟩
  unfold RowIs
  rw [heap_alloc_new]
  rfl

/-- A roll and the row of what is there. -/
structure Both (w wr : World) (g q : Nat) (B : Nat → Bool) : Prop where
  ex : ∃ (K S : Nat → Nat) (T : Nat → Option Addr), RollIs wr g K S T ∧ ∀ i, i < 8 → (B i = true ↔ K i ≠ 0)
  row : RowIs wr q 4 (fun i => .bool (B i)) 8
  below : Below w.heap.size w wr
  bg : w.heap.size ≤ g
  bq : w.heap.size ≤ q

theorem Both.later {w wr W : World} {g q : Nat} {B : Nat → Bool} (h : Both w wr g q B) (b : Below wr.heap.size wr W) : Both w W g q B := by
  obtain ⟨K, S, T, h1, h2⟩ := h.ex
  exact ⟨⟨K, S, T, RowIs.below h1 b, h2⟩, h.row.below b, h.below.trans (b.mono h.below.size), h.bg, h.bq⟩
/-- One more id, or one less. -/
theorem Both.turn {w wr W : World} {g q : Nat} {B : Nat → Bool} {K' S' : Nat → Nat} {T' : Nat → Option Addr} (h : Both w wr g q B) (hr : RollIs W g K' S' T') (a : Apart (fun k => k = g) wr W) {i : Nat} {b : Bool}
    (hk : ∀ j, j < 8 → ((at_ B i b) j = true ↔ K' j ≠ 0)) : Both w (W.setCell ⟨q, i, none⟩ (.bool b)) g q (at_ B i b) := by
  obtain ⟨K, S, T, h1, h2⟩ := h.ex
  have hne : g ≠ q := RowIs.unlike h1 h.row (by decide)
  have ha := apart_set W q i (.bool b)
  have hrow := h.row.apart a (fun e => hne e.symm)
  refine ⟨⟨K', S', T', RowIs.apart hr ha (fun e => hne e), hk⟩, RowIs.set_ hrow (fun _ => ?_) (fun j _ hj => ?_), (Apart.fresh a h.below h.bg).setCell h.bq _, h.bg, h.bq⟩
  · unfold at_; rw [if_pos rfl]
  · unfold at_; rw [if_neg hj]

theorem Both.congr {w wr : World} {g q : Nat} {B B' : Nat → Bool} (h : Both w wr g q B) (he : ∀ j, j < 8 → B j = B' j) : Both w wr g q B' := by
  obtain ⟨K, S, T, h1, h2⟩ := h.ex
  exact ⟨⟨K, S, T, h1, fun i hi => by rw [← he i hi]; exact h2 i hi⟩, h.row.congr fun i hi => by rw [he i hi], h.below, h.bg, h.bq⟩
/-- One more id is there. -/
theorem one_more {B : Nat → Bool} {K : Nat → Nat} (h : ∀ j, j < 8 → (B j = true ↔ K j ≠ 0)) (i : Nat) : ∀ j, j < 8 → ((at_ B i true) j = true ↔ (at_ K i 1) j ≠ 0) := fun j hj => by
  unfold at_
  by_cases e : j = i
  · rw [if_pos e, if_pos e]; simp
  · rw [if_neg e, if_neg e]; exact h j hj
theorem one_less {B : Nat → Bool} {K : Nat → Nat} (h : ∀ j, j < 8 → (B j = true ↔ K j ≠ 0)) (i : Nat) : ∀ j, j < 8 → ((at_ B i false) j = true ↔ (at_ K i 0) j ≠ 0) := fun j hj => by
  unfold at_
  by_cases e : j = i
  · rw [if_pos e, if_pos e]; simp
  · rw [if_neg e, if_neg e]; exact h j hj
theorem less_none {B : Nat → Bool} {K : Nat → Nat} (h : ∀ j, j < 8 → (B j = true ↔ K j ≠ 0)) {i : Nat} (h0 : B i = false) : ∀ j, j < 8 → ((at_ B i false) j = true ↔ K j ≠ 0) := fun j hj => by
  unfold at_
  by_cases e : j = i
  · rw [if_pos e, ← h j hj, e, h0]
  · rw [if_neg e]; exact h j hj

/-- Behind a call of Delete. -/
def Gone (wr : World) (g : Nat) (B : Nat → Bool) (k : Nat) (x : Int) (e : Ending) (w' : World) : Prop :=
  e = .returned (.int .i64 x) ∧ Apart (fun b => b = g) wr w' ∧ ∃ K S T, RollIs w' g K S T ∧ ∀ j, j < 8 → ((at_ B k false) j = true ↔ K j ≠ 0)
theorem del_there {w wr : World} {g q k : Nat} {B : Nat → Bool} (h : Both w wr g q B) (hk : k < 8) (hb : B k = true) : Calls Try.prog 8 #[.pointer (some ⟨g, 0, none⟩), .int .i64 (k : Int)] wr (Gone wr g B k 0) := by
  obtain ⟨K, S, T, h1, h2⟩ := h.ex
  exact (delete_ok h1 hk ((h2 k hk).1 hb)).mono fun e w' ⟨he, hr, ha⟩ => ⟨he, ha, _, _, _, hr, one_less h2 k⟩
theorem del_none {w wr : World} {g q k : Nat} {B : Nat → Bool} (h : Both w wr g q B) (hk : k < 8) (hb : B k = false) : Calls Try.prog 8 #[.pointer (some ⟨g, 0, none⟩), .int .i64 (k : Int)] wr (Gone wr g B k 4) := by
  obtain ⟨K, S, T, h1, h2⟩ := h.ex
  have h0 : K k = 0 := Decidable.byContradiction fun e => by
    have := (h2 k hk).2 e
    rw [hb] at this
    cases this
  exact (delete_none h1 hk h0).mono fun e w' ⟨he, hb1⟩ => ⟨he, Apart.of_below hb1, K, S, T, RowIs.below h1 hb1, less_none h2 hb⟩
/-- Behind a call of Create. -/
def Come (wr : World) (g : Nat) (B : Nat → Bool) (k : Nat) (e : Ending) (w' : World) : Prop :=
  e = .returned (.tuple #[.int .i64 (k : Int), .int .i64 0]) ∧ Apart (fun b => b = g) wr w' ∧ ∃ K S T, RollIs w' g K S T ∧ ∀ j, j < 8 → ((at_ B k true) j = true ↔ K j ≠ 0)
theorem come {w wr : World} {g q k : Nat} {B : Nat → Bool} (h : Both w wr g q B) (hk : k < 8) (hb : B k = false) (hl : ∀ j, j < k → B j = true) {n : Nat} {z : Int} (hz : z = (n : Int)) (h1 : 1 ≤ n) (h2 : n ≤ 32) :
    Calls Try.prog 6 #[.pointer (some ⟨g, 0, none⟩), .int .i64 z] wr (Come wr g B k) := by
  subst hz
  obtain ⟨K, S, T, k1, k2⟩ := h.ex
  have h0 : K k = 0 := Decidable.byContradiction fun e => by
    have := (k2 k hk).2 e
    rw [hb] at this
    cases this
  exact (create_ok k1 hk h0 (fun j hj => (k2 j (by omega)).1 (hl j hj)) n h1 h2).mono fun e w' ⟨t, he, hr, _, ha⟩ => ⟨he, ha, _, _, _, hr, one_more k2 k⟩
theorem come_full {w wr : World} {g q : Nat} {B : Nat → Bool} (h : Both w wr g q B) (hl : ∀ j, j < 8 → B j = true) :
    Calls Try.prog 6 #[.pointer (some ⟨g, 0, none⟩), .int .i64 1] wr (Fresh (.tuple #[.int .i64 0, .int .i64 7]) wr) := by
  obtain ⟨K, S, T, k1, k2⟩ := h.ex
  exact create_full k1 (fun j hj => (k2 j hj).1 (hl j hj)) 1 (by omega) (by omega)
theorem snap_no {w wr : World} {g q : Nat} {B : Nat → Bool} (h : Both w wr g q B) (hl : ∀ j, j < 8 → B j = true) :
    Calls Try.prog 7 #[.pointer (some ⟨g, 0, none⟩), .int .i64 3] wr (Fresh (.tuple #[.int .i64 0, .int .i64 7]) wr) := by
  obtain ⟨K, S, T, k1, k2⟩ := h.ex
  exact snap_full k1 (v := 3) (by omega) (fun j hj => (k2 j hj).1 (hl j hj))
theorem Both.keeps {w wr W : World} {g q : Nat} {B : Nat → Bool} (h : Both w wr g q B) (a : Apart (fun k => k = g) wr W) : RowIs W q 4 (fun i => .bool (B i)) 8 := by
  obtain ⟨K, S, T, h1, h2⟩ := h.ex
  exact h.row.apart a (fun e => RowIs.unlike h1 h.row (by decide) e.symm)

/-- Behind the first eight. -/
def Filling (w : World) (g q : Nat) (v : Value) (wr : World) : Prop := ∃ i : Nat, i ≤ 8 ∧ v = .int .i64 (i : Int) ∧ Both w wr g q (fun j => decide (j < i))

theorem byte_in {a : Int} (h : (Lit.int .u8 a).wf = true) : 0 ≤ a ∧ a ≤ 255 := by
  simpa [Lit.wf, IntKind.min, IntKind.max, IntKind.signed, IntKind.bits] using h
/-- Behind some deletions. -/
def Playing (w : World) (g q n : Nat) (v : Value) (wr : World) : Prop := ∃ (i : Nat) (B : Nat → Bool), i ≤ n ∧ i ≤ 40 ∧ v = .int .i64 (i : Int) ∧ Both w wr g q B

set_option maxRecDepth 20000 in
set_option linter.unusedVariables false in
theorem walk (w : World) (A0 : Option Addr) (n0 c0 : Nat) (Z0 : List Int) (s0 : IntsIn w .u8 A0 n0 c0 Z0) (r0 : n0 * 1 ≤ 140737488351232) :
    Calls Try.prog 3 #[.slice A0 n0 c0] w (Fresh (.bool true) w) := by
  go_enter Try.func3, Try.ntmps3
  go_wp2_with fail
  refine (rnew_any _).mono ?_
  rintro e w1 ⟨g, rfl, hr, hg, hb⟩
  have R1 := Lib.hid hr
  have G := Lib.hid hg
  have B1 := Lib.hid hb
  clear hr hg hb
  go_wp2_with fail
  refine (awake_any _).mono ?_
  rintro e w2 ⟨rfl, hb⟩
  have R2 := Lib.hid (RowIs.below R1.out hb)
  have B2 := Lib.hid (B1.out.trans (hb.mono B1.out.size))
  obtain ⟨w3, hmk, hrow, hb3, hlt⟩ := make_bools w2
  have Q3 : Hid (Both w w3 g w2.heap.size (fun j => decide (j < 0))) := Lib.hid ⟨⟨_, _, _, RowIs.below R2.out hb3, fun i _ => by simp⟩, hrow.congr fun i _ => by simp, B2.out.trans (hb3.mono B2.out.size), G.out, B2.out.size⟩
  clear hb hrow hb3 hlt
  go_wp2
  clear hmk
  go_loopw [5] (fun v wr => Filling w g w2.heap.size v wr) (fun v _ => 8 - (intOf v).toNat)
  case atStart => exact ⟨0, by omega, rfl, Q3.out⟩
  case round =>
    obtain ⟨i, hi, rfl, hb⟩ := hrel
    have HB := Lib.hid hb
    clear hb
    by_cases h0 : i < 8
    · go_wp2_with fail
      refine (come HB.out h0 (by simp) (fun j hj => by simpa using hj) (n := 1 + i) (by omega) (by omega) (by omega)).mono ?_
      rintro e w4 ⟨rfl, ha, K, S, T, hr, hk⟩
      have A4 := Lib.hid ha
      have R4 := Lib.hid hr
      have K4 := Lib.hid hk
      have hrow := HB.out.keeps ha
      have c0 := hrow.cell h0
      have c1 := hrow.free i
      clear ha hr hk hrow
      go_wp2
      clear c0 c1
      go_roundw
      case rel =>
        refine ⟨i + 1, by omega, by go_num, (HB.out.turn R4.out A4.out K4.out).congr fun j hj => ?_⟩
        unfold at_
        by_cases e : j = i
        · rw [if_pos e]; simp; omega
        · rw [if_neg e]
          by_cases e2 : j < i
          · simp; omega
          · have : ¬ j < i + 1 := by omega
            simp [e2, this]
      case measure => simp [intOf]; omega
    · obtain rfl : i = 8 := by omega
      have HB1 : Hid (Both w wr g w2.heap.size (fun _ => true)) := Lib.hid (HB.out.congr fun j hj => by simpa using hj)
      clear HB
      go_wp2_with fail
      refine (come_full HB1.out fun _ _ => rfl).mono ?_
      rintro e w4 ⟨rfl, hb4⟩
      have HB4 := Lib.hid (HB1.out.later hb4)
      clear hb4 HB1
      go_wp2_with fail
      refine (snap_no HB4.out fun _ _ => rfl).mono ?_
      rintro e w5 ⟨rfl, hb5⟩
      have HB5 := Lib.hid (HB4.out.later hb5)
      clear hb5 HB4
      go_wp2
      have S0 := Lib.hid s0
      have HQ := Lib.hid B2.out.size
      obtain ⟨q, hq⟩ : ∃ q, q = w2.heap.size := ⟨_, rfl⟩
      rw [← hq] at HB5 ⊢
      clear s0 R1 R2 B1 B2 Q3 hq HQ
      go_loopw [12] (fun v wr => Playing w g q n0 v wr) (fun v _ => 40 - (intOf v).toNat)
      case atStart => exact ⟨0, _, by omega, by omega, rfl, HB5.out⟩
      case round =>
        obtain ⟨i, B, hi, h40, rfl, hb⟩ := hrel
        have HB := Lib.hid hb
        clear hb HB5
        by_cases hn : i < n0
        · by_cases hl : i < 40
          · obtain ⟨ad, rfl⟩ := S0.out.addr (by omega)
            have hZ : i < Z0.length := by have := S0.out.len; omega
            have hwf := byte_in (S0.out.wf _ (List.getElem_mem hZ))
            obtain ⟨x, hx⟩ := Int.eq_ofNat_of_zero_le hwf.1
            have hx2 : x ≤ 255 := by omega
            have hz : w.cell? (ad.add i) = some (.int .u8 (x : Int)) := by
              have h8 := S0.out.cell ad rfl i hn
              rw [List.getD_eq_getElem?_getD, List.getElem?_eq_getElem hZ] at h8
              rw [← hx]
              exact h8
            have HZ := Lib.hid hz
            have hz2 := cell_later HB.out.below hz
            obtain ⟨k, hk⟩ : ∃ k, k = x % 8 := ⟨_, rfl⟩
            have hk8 : k < 8 := by omega
            have hm : (x : Int) % 8 = (k : Int) := by omega
            clear hx hwf hZ hk hz
            cases hbk : B k
            · go_wp2_with fail
              refine (del_none HB.out hk8 hbk).mono ?_
              rintro e w6 ⟨rfl, ha, K, S, T, hr, hk⟩
              have H7 := Lib.hid (HB.out.turn hr ha hk)
              have hrow := HB.out.keeps ha
              have c0 := hrow.cell hk8
              have c1 := hrow.free k
              have c2 := cell_later H7.out.below HZ.out
              rw [hbk] at c0
              clear ha hr hk hrow hz2 hm hbk
              by_cases h100 : (x : Int) < 100
              · have d100 : decide ((x : Int) < 100) = true := by simpa using h100
                clear h100
                go_wp2
                clear c0 c1 c2 d100
                go_roundw
                case rel => exact ⟨i + 1, at_ B k false, by omega, by omega, by go_num, H7.out⟩
                case measure => simp [intOf]; omega
              · have d100 : decide ((x : Int) < 100) = false := by simpa using h100
                clear h100
                go_wp2
                clear c0 c1 c2 d100
                generalize hw : World.setCell _ _ _ = w7
                have H8 : Hid (Both w w7 g q (at_ B k false)) := Lib.hid (by rw [← hw]; exact H7.out)
                clear hw H7
                have hbk : at_ B k false k = false := by unfold at_; rw [if_pos rfl]
                obtain ⟨C, hC⟩ : ∃ C, C = at_ B k false := ⟨_, rfl⟩
                rw [← hC] at H8 hbk
                clear hC HB
                go_loop [15] (fun v => ∃ l : Nat, l ≤ k ∧ v = .int .i64 (l : Int) ∧ ∀ j, j < l → C j = true) (fun v => k - (intOf v).toNat)
                case atStart => exact ⟨0, by omega, rfl, fun j hj => by omega⟩
                case round =>
                  obtain ⟨l, hlk, rfl, hall⟩ := hrel
                  have HA := Lib.hid hall
                  have e0 := H8.out.row.cell (i := l) (by omega)
                  clear hall
                  cases hc : C l
                  · rw [hc] at e0
                    have HC := Lib.hid hc
                    clear hc
                    go_wp2_with fail
                    refine (come H8.out (by omega) HC.out HA.out (n := 5) (by rfl) (by omega) (by omega)).mono ?_
                    rintro e w8 ⟨rfl, ha, K, S, T, hr, hk⟩
                    have H9 := Lib.hid (H8.out.turn hr ha hk)
                    have hrow := H8.out.keeps ha
                    have c0 := hrow.cell (i := l) (by omega)
                    have c1 := hrow.free l
                    clear ha hr hk hrow e0
                    go_wp2
                    clear c0 c1
                    go_roundw
                    case rel => exact ⟨i + 1, at_ C l true, by omega, by omega, by go_num, H9.out⟩
                    case measure => simp [intOf]; omega
                  · rw [hc] at e0
                    have HC := Lib.hid hc
                    have hne : l ≠ k := fun e => by
                      rw [e, hbk] at hc
                      cases hc
                    clear hc
                    go_wp2
                    clear e0
                    go_round
                    case rel => exact ⟨l + 1, by omega, by go_num, fun j hj => by
                      rcases Nat.lt_succ_iff_lt_or_eq.1 hj with h5 | rfl
                      · exact HA.out j h5
                      · exact HC.out⟩
                    case measure => simp [intOf]; omega
            · go_wp2_with fail
              refine (del_there HB.out hk8 hbk).mono ?_
              rintro e w6 ⟨rfl, ha, K, S, T, hr, hk⟩
              have H7 := Lib.hid (HB.out.turn hr ha hk)
              have hrow := HB.out.keeps ha
              have c0 := hrow.cell hk8
              have c1 := hrow.free k
              have c2 := cell_later H7.out.below HZ.out
              rw [hbk] at c0
              clear ha hr hk hrow hz2 hm hbk
              by_cases h100 : (x : Int) < 100
              · have d100 : decide ((x : Int) < 100) = true := by simpa using h100
                clear h100
                go_wp2
                clear c0 c1 c2 d100
                go_roundw
                case rel => exact ⟨i + 1, at_ B k false, by omega, by omega, by go_num, H7.out⟩
                case measure => simp [intOf]; omega
              · have d100 : decide ((x : Int) < 100) = false := by simpa using h100
                clear h100
                go_wp2
                clear c0 c1 c2 d100
                generalize hw : World.setCell _ _ _ = w7
                have H8 : Hid (Both w w7 g q (at_ B k false)) := Lib.hid (by rw [← hw]; exact H7.out)
                clear hw H7
                have hbk : at_ B k false k = false := by unfold at_; rw [if_pos rfl]
                obtain ⟨C, hC⟩ : ∃ C, C = at_ B k false := ⟨_, rfl⟩
                rw [← hC] at H8 hbk
                clear hC HB
                go_loop [15] (fun v => ∃ l : Nat, l ≤ k ∧ v = .int .i64 (l : Int) ∧ ∀ j, j < l → C j = true) (fun v => k - (intOf v).toNat)
                case atStart => exact ⟨0, by omega, rfl, fun j hj => by omega⟩
                case round =>
                  obtain ⟨l, hlk, rfl, hall⟩ := hrel
                  have HA := Lib.hid hall
                  have e0 := H8.out.row.cell (i := l) (by omega)
                  clear hall
                  cases hc : C l
                  · rw [hc] at e0
                    have HC := Lib.hid hc
                    clear hc
                    go_wp2_with fail
                    refine (come H8.out (by omega) HC.out HA.out (n := 5) (by rfl) (by omega) (by omega)).mono ?_
                    rintro e w8 ⟨rfl, ha, K, S, T, hr, hk⟩
                    have H9 := Lib.hid (H8.out.turn hr ha hk)
                    have hrow := H8.out.keeps ha
                    have c0 := hrow.cell (i := l) (by omega)
                    have c1 := hrow.free l
                    clear ha hr hk hrow e0
                    go_wp2
                    clear c0 c1
                    go_roundw
                    case rel => exact ⟨i + 1, at_ C l true, by omega, by omega, by go_num, H9.out⟩
                    case measure => simp [intOf]; omega
                  · rw [hc] at e0
                    have HC := Lib.hid hc
                    have hne : l ≠ k := fun e => by
                      rw [e, hbk] at hc
                      cases hc
                    clear hc
                    go_wp2
                    clear e0
                    go_round
                    case rel => exact ⟨l + 1, by omega, by go_num, fun j hj => by
                      rcases Nat.lt_succ_iff_lt_or_eq.1 hj with h5 | rfl
                      · exact HA.out j h5
                      · exact HC.out⟩
                    case measure => simp [intOf]; omega
          · obtain rfl : i = 40 := by omega
            go_wp2
            go_ret
            exact ⟨rfl, HB.out.below⟩
        · obtain rfl : i = n0 := by omega
          go_wp2
          go_ret
          exact ⟨rfl, HB.out.below⟩
/-! ### the law's end -/
set_option linter.unusedVariables false
theorem own : ownKnob Try.prog.godebug = none := by kernel_rfl
theorem laidOut : laidOutB Try.prog = true := by kernel_rfl
set_option maxRecDepth 100000 in

theorem lifted (os : Os) (started : os.Started) (H : Type) (enc : TypeId × Value → H) :
    ReturnsInHanded {} Try.checked os 3 .any (Rows.rollIdsSpec.pre6 enc Try.prog Try.f3 Rows.rollIdsRow.domain false) (Rows.rollIdsSpec.post enc Try.prog Try.f3 false true false false) := by
  refine returnsInHanded_of_change_sized (C := Try.checked) own started (by kernel_rfl) Try.func3
    (ChangeSpec.witness6 (enc := enc) (C := Try.checked) false ⟨#[], #[.slice none 0 0], []⟩ 8 (by kernel_rfl) (by kernel_rfl) (by kernel_rfl) (by kernel_rfl)) ?_
  intro W base args ds gs before hval0 hW _ hsz0 _
  have hsz : (DataW.weightsEach Try.prog (Try.f3.params.toList ++ Rows.rollIdsSpec.plain.varTypes Try.prog) (ds ++ gs)).all (· ≤ reachBytes) = true := hsz0
  clear hsz0
  have hval : ∀ (j : Nat) t v, Try.f3.params[j]? = some t → args[j]? = some v → Value.okWide Try.prog W .any base t v := hval0
  have hW' := hW
  obtain ⟨p, q, hA0, hV, rfl, _, _⟩ := hW
  have hA : DataW.TrodAll enc Try.prog W 0 (fun _ => true) true Try.f3.params.toList args.toList ds p := hA0
  rw [Try.params3] at hA hval hsz
  obtain ⟨v0, vs0, d0, ds0, p0, q0, hargs, rfl, rfl, h0, u0⟩ := trodAll_cons hA
  obtain ⟨rfl, rfl, rfl⟩ := trodAll_nil u0
  obtain rfl : args = #[v0] := by cases args; simp_all
  obtain ⟨rfl, rfl⟩ := trodVars_none hV
  clear hA0 hval0
  obtain ⟨A0, n0, c0, rfl⟩ := okWide_slice Try.underlying22 (hval 0 22 v0 rfl rfl)
  have k0 := h0
  obtain ⟨Z0, s0, z0⟩ := view_ints Try.underlying22 Try.underlying5 (by kernel_rfl) h0
  have r0 := reach_of (b := 1) hsz (j := 0) (t := 22) (e := 5) rfl rfl Try.underlying22 (by kernel_rfl) z0
  simp only [List.append_nil] at hW'
  have hlt : ∀ x ∈ p0, x.block < W.heap.size := fun x hx => by simpa using hW'.lt x (by simpa using hx)
  refine (walk W A0 n0 c0 Z0 s0 r0).mono fun e W' ⟨he, hb⟩ => ?_
  subst he
  exact ⟨_, rfl, _, _, _, [], _, [], hW', (trodAll_cons_mk (shut_bool Try.underlying4 _) trodAll_mk0), (trodAll_cons_mk (Below.trod laidOut (by kernel_rfl) (of_decide_eq_true (by kernel_rfl)) k0 hb (fun x hx => hlt x (by simp [hx]))) trodAll_mk0), rfl, hb.frame _, fun h => by cases h⟩

theorem over : Rows.rollIdsRow.holds Try.pinned (OpenSpec.ofChange Rows.rollIdsSpec) :=
  OpenClaim.holds_of_wide 3 Try.f3 rfl rfl rfl rfl rfl rfl rfl ⟨rfl, rfl, rfl, rfl, rfl⟩ rfl rfl rfl rfl rfl (by kernel_rfl) Try.func3 (by kernel_rfl)
    (of_decide_eq_true (by kernel_rfl)) (by unfold Func.isWrapper; first | (rw [if_pos (by decide +kernel)]; kernel_rfl) | (rw [if_neg (by decide +kernel)]; exact ⟨rfl, rfl⟩))
    (fun os started H enc _ => lifted os started H enc)

theorem proved : Rows.RollIdsSaid := over
#print axioms proved
end Go.Proofs.Ytokklimfncljnaa.rollIds
