/- What was flushed is there behind any crash, where nothing was written on it since; of what was written since each is there, or not. For every input. -/
import Derived.Test.YtcnoadikkfedaaaBasinOne
import Derived.Deep.CutBlock
namespace Go.Proofs.Ytcnoadikkfedaaa.basinLasts
open Go.ChangeShapes Go.WideShapes Go.ChangeAt Go.RowKit

/-- The device while the first writes come: sector s holds the byte W s throughout. -/
structure First (D : Dev) (W : Nat → Nat) (i : Nat) : Prop where
  size : D.size = 20
  off : D.off = false
  limited : D.limited = false
  loose : D.loose.length ≤ i
  view : ∀ s, D.view s = fun _ => W s
  small : ∀ s, W s ≤ 50

def upd (W : Nat → Nat) (t x : Nat) (s : Nat) : Nat := if s = t then x else W s

theorem First.next {D : Dev} {W : Nat → Nat} {i t : Nat} (h : First D W i) (hi : i < 50) : First { D with loose := D.loose ++ [⟨t, fun _ => i + 1⟩] } (upd W t (i + 1)) (i + 1) where
  size := h.size
  off := h.off
  limited := h.limited
  loose := by have := h.loose; show (D.loose ++ [_]).length ≤ _; simp; omega
  view := fun s => by
    show lays D.sure (D.loose ++ [⟨t, fun _ => i + 1⟩]) s = _
    rw [lays_snoc]
    unfold lay upd
    by_cases e : s = t
    · rw [if_pos e, if_pos e]
    · rw [if_neg e, if_neg e]; exact h.view s
  small := fun s => by unfold upd; split; omega; exact h.small s

def Firsting (w : World) (g h gw n : Nat) (v : Value) (wr : World) : Prop :=
  ∃ i D L W, i ≤ n ∧ i ≤ 50 ∧ v = .int .i64 (i : Int) ∧ IsDev wr w.heap.size g h L D ∧ First D W i ∧ Lies wr gw W 20 ∧ ¬ foot g h L gw ∧ Below w.heap.size w wr

def FirstEnd (w : World) (g h gw : Nat) (wr : World) : Prop :=
  ∃ D L W, IsDev wr w.heap.size g h L D ∧ First D W 50 ∧ Lies wr gw W 20 ∧ ¬ foot g h L gw ∧ Below w.heap.size w wr
theorem First.last {D : Dev} {W : Nat → Nat} {i : Nat} (h : First D W i) (hi : i ≤ 50) : First D W 50 := ⟨h.size, h.off, h.limited, by have := h.loose; omega, h.view, h.small⟩

/-- The device while the later writes come. -/
structure Second (D : Dev) (W : Nat → Nat) (M : Nat → Bool) (i : Nat) : Prop where
  size : D.size = 20
  off : D.off = false
  limited : D.limited = false
  length : D.loose.length ≤ i
  sure : ∀ s, D.sure s = fun _ => W s
  loose : ∀ x ∈ D.loose, ∃ c, 100 ≤ c ∧ c ≤ 149 ∧ x.data = (fun _ => c) ∧ M x.at_ = true
def mark (M : Nat → Bool) (t s : Nat) : Bool := if s = t then true else M s
theorem Second.next {D : Dev} {W : Nat → Nat} {M : Nat → Bool} {i t : Nat} (h : Second D W M i) (hi : i < 50) : Second { D with loose := D.loose ++ [⟨t, fun _ => 100 + i⟩] } W (mark M t) (i + 1) where
  size := h.size
  off := h.off
  limited := h.limited
  length := by have := h.length; show (D.loose ++ [_]).length ≤ _; simp; omega
  sure := h.sure
  loose := fun x hx => by
    rcases List.mem_append.1 hx with hx | hx
    · obtain ⟨c, h1, h2, h3, h4⟩ := h.loose x hx
      exact ⟨c, h1, h2, h3, by unfold mark; split; rfl; exact h4⟩
    · rw [List.mem_singleton] at hx
      subst hx
      exact ⟨100 + i, by omega, by omega, rfl, by unfold mark; rw [if_pos rfl]⟩
theorem Second.last {D : Dev} {W : Nat → Nat} {M : Nat → Bool} {i : Nat} (h : Second D W M i) (hi : i ≤ 50) : Second D W M 50 := ⟨h.size, h.off, h.limited, by have := h.length; omega, h.sure, h.loose⟩
theorem First.flushed {D : Dev} {W : Nat → Nat} (h : First D W 50) : Second (D.settle fun _ => true) W (fun _ => false) 0 where
  size := h.size
  off := h.off
  limited := h.limited
  length := Nat.le_refl _
  sure := fun s => by
    show lays D.sure (keptTo D.loose (fun _ => true) D.loose.length) s = _
    rw [keptTo_all _ _ (Nat.le_refl _), List.take_length]
    exact h.view s
  loose := fun x hx => by cases hx
/-- What there is behind the crash. -/
theorem Second.crashed {D : Dev} {W : Nat → Nat} {M : Nat → Bool} (h : Second D W M 50) (hw : ∀ s, W s ≤ 50) (Z : List Int) (s : Nat) : ∃ c, c < 256 ∧ (D.crash Z).view s = (fun _ => c) ∧ (c = W s ∨ (c ≠ W s ∧ M s = true ∧ 100 ≤ c)) := by
  have e : (D.crash Z).view s = lays D.sure (keptTo D.loose (fun t => named Z Z.length t) D.loose.length) s := rfl
  rcases lays_cases D.sure (keptTo D.loose (fun t => named Z Z.length t) D.loose.length) s with h1 | ⟨x, hx, hxs, h1⟩
  · exact ⟨W s, by have := hw s; omega, by rw [e, h1, h.sure s], .inl rfl⟩
  · obtain ⟨c, c1, c2, c3, c4⟩ := h.loose x (keptTo_sub hx)
    rw [hxs] at c4
    exact ⟨c, by omega, by rw [e, h1, c3], .inr ⟨by have := hw s; omega, c4, c1⟩⟩

def Seconding (w : World) (g h gw gm n : Nat) (W : Nat → Nat) (v : Value) (wr : World) : Prop :=
  ∃ i D L M, i ≤ n ∧ i ≤ 50 ∧ v = .int .i64 (i : Int) ∧ IsDev wr w.heap.size g h L D ∧ Second D W M i ∧ Lies wr gw W 20 ∧ ¬ foot g h L gw ∧ RowIs wr gm 4 (fun s => .bool (M s)) 20 ∧ ¬ foot g h L gm ∧ Below w.heap.size w wr
def SecondEnd (w : World) (g h gw gm : Nat) (W : Nat → Nat) (wr : World) : Prop :=
  ∃ D L M, IsDev wr w.heap.size g h L D ∧ Second D W M 50 ∧ Lies wr gw W 20 ∧ ¬ foot g h L gw ∧ RowIs wr gm 4 (fun s => .bool (M s)) 20 ∧ ¬ foot g h L gm ∧ Below w.heap.size w wr

set_option maxHeartbeats 1600000 in
set_option maxRecDepth 100000 in
theorem text (A0 A1 A2 : Option Addr) (n0 c0 n1 c1 n2 c2 : Nat) (Z2 : List Int) (f0 f1 : Nat → Nat) (w : World) (s0 : Reads w (.slice A0 n0 c0) n0 f0) (s1 : Reads w (.slice A1 n1 c1) n1 f1) (s2 : IntsIn w .i64 A2 n2 c2 Z2) :
    Calls Try.prog 4 #[.slice A0 n0 c0, .slice A1 n1 c1, .slice A2 n2 c2] w (Fresh (.bool true) w) := by
  have HR0 := Lib.hid s0
  have HR1 := Lib.hid s1
  have HS2 := Lib.hid s2
  obtain ⟨A0', c0', e0, p0, q0, -, r0⟩ := s0
  obtain ⟨rfl, -, rfl⟩ : A0 = A0' ∧ n0 = n0 ∧ c0 = c0' := by simpa using e0
  obtain ⟨A1', c1', e1, p1, q1, -, r1⟩ := s1
  obtain ⟨rfl, -, rfl⟩ : A1 = A1' ∧ n1 = n1 ∧ c1 = c1' := by simpa using e1
  have R0 := Lib.hid r0
  have R1 := Lib.hid r1
  clear e0 e1 r0 r1 s2
  have hmk : ∀ u : World, (Instr.makeSlice 37 (.int .i64 20) (.int .i64 20)).run Try.prog u = .ok (.slice (some ⟨u.heap.size, 0, none⟩) 20 20) (u.alloc (.cells (cellsOf (fun _ => 0) 20).toArray 5)) := fun u => make_bytes 20 (by omega) u
  go_enter Try.func4, Try.ntmps4
  go_wp2_with fail
  refine (new_ok 20 w (by omega) (by omega)).mono ?_
  rintro e w1 ⟨g, h, rfl, hd, hb⟩
  have D1 := Lib.hid hd
  have B1 := Lib.hid hb
  clear hd hb
  go_wp2_with fail
  refine (awake_any _).mono ?_
  rintro e w2 ⟨rfl, hb⟩
  have D2 := Lib.hid (D1.out.below hb)
  have B2 := Lib.hid (B1.out.trans (hb.mono B1.out.size))
  clear hb
  go_upto_block 0 with (fail)
  clear hmk
  go_cut [] from 31 (fun wr => FirstEnd w g h w2.heap.size wr)
  case first =>
   go_wp2
   go_loopw [10] (fun v wr => Firsting w g h w2.heap.size n0 v wr) (fun v _ => 50 - (intOf v).toNat)
   case atStart =>
     exact ⟨0, _, _, fun _ => 0, Nat.zero_le _, by omega, rfl, D2.out.below ((Below.refl _ _).alloc (Nat.le_refl _) _), ⟨rfl, rfl, rfl, Nat.le_refl _, fun _ => rfl, fun _ => by omega⟩, made_lies w2 20, fun hf => by have := (D2.out.lt _ hf).2; omega, B2.out.alloc B2.out.size _⟩
   case round =>
     obtain ⟨i, D, L, W, hi, hi5, rfl, hd, hf, hw, hnf, hb⟩ := hrel
     have D4 := Lib.hid hd
     have HF := Lib.hid hf
     have HW := Lib.hid hw
     have NF := Lib.hid hnf
     have B4 := Lib.hid hb
     clear hd hf hw hnf hb
     by_cases h0 : i < n0 ∧ i < 50
     · obtain ⟨h1, h2⟩ := h0
       obtain ⟨ad, rfl⟩ := R0.out.addr (by omega)
       obtain ⟨z, hz⟩ : ∃ z, z = f0 i := ⟨_, rfl⟩
       have hc0 := cell_later B4.out (R0.out.at_ h1)
       have hz256 := R0.out.small i h1
       rw [← hz] at hc0 hz256
       obtain ⟨t, ht⟩ : ∃ t, t = z % 20 := ⟨_, rfl⟩
       have ht20 : t < 20 := by omega
       have m1 : ((z : Int)).tmod 20 = (t : Int) := by rw [Int.tmod_eq_emod_of_nonneg (by omega)]; omega
       have i0 : (i : Int) < (n0 : Int) := by omega
       have i1 : (0 : Int) ≤ (i : Int) := by omega
       have a1 : IntKind.i64.wrap ((i : Int) + 1) = (i : Int) + 1 := IntWalk.i64_in _ (by omega)
       have a2 : Hid (IntKind.u8.wrap ((i : Int) + 1) = ((i + 1 : Nat) : Int)) := Lib.hid (by simp [IntKind.wrap, IntKind.bits, IntKind.signed]; omega)
       have a3 : IntKind.i64.wrap (t : Int) = (t : Int) := IntWalk.i64_in _ (by omega)
       have HZ := Lib.hid hz
       have HT := Lib.hid ht
       have HA := Lib.hid (HF.out.size)
       have DR : Hid (IsDev wr.drew w.heap.size g h L D) := Lib.hid (D4.out.below ((Below.refl _ _).drew))
       have HC := Lib.hid hc0
       have AB : Hid (¬ foot g h L ad.block) := Lib.hid (fun hf => by
         have h5 := (D4.out.lt _ hf).1
         have h6 := World.block_lt_of_cell? w _ (R0.out.at_ (i := 0) (by omega))
         rw [show ad.add 0 = ad from rfl] at h6
         omega)
       have ABI : Hid ((ad.add i).block = ad.block) := Lib.hid (by unfold Addr.add; split <;> rfl)
       clear hz ht
       go_wp2
       go_region_held3 (fun w' => w'.cell? (ad.add i) = some (.int .u8 (z : Int)))
         (first
           | exact hc0
           | exact cell_apart ha6 HC.out (by rw [ABI.out]; exact AB.out)
           | exact cell_later ((Below.refl _ _).alloc (Nat.le_refl _) _) (cell_later hb5 HC.out)
           | exact cell_later hb5 HC.out)
         (first
           | (go_at_call 22; rw [a2.out]; refine (fill_any (i + 1) _).mono ?_; rintro e w5 ⟨b, rfl, hly, hbw, hb5⟩)
           | (go_at_call 12; refine (put_free (base := w.heap.size) (t := t) (f := fun _ => i + 1) DR.out hb5 hly hbw (fun _ _ => by omega) (by rw [HA.out]; exact ht20) (by have := HF.out.loose; omega) HF.out.off HF.out.limited).mono ?_; rintro e w6 ⟨L6, rfl, hd6, ha6, ho6⟩))
       have D6 := Lib.hid hd6
       have A6 := Lib.hid ha6
       have hw6 := (HW.out.below ((Below.refl _ _).drew) (by have := HW.out.lt; exact this)).apart ha6 NF.out
       have W6 := Lib.hid hw6
       have k0 : w6.cell? (ad.add i) = some (.int .u8 (z : Int)) := cell_apart (w := wr.drew) ha6 HC.out (by rw [ABI.out]; exact AB.out)
       have k1 := hw6.cell ht20
       have k2 := hw6.free t
       have m2 : (z : Int) % 20 = (t : Int) := by have := HT.out; omega
       have NF6 : Hid (¬ foot g h L6 w2.heap.size) := Lib.hid (fun hf => by
         rcases hf with e | e | e
         · exact NF.out (.inl e)
         · exact NF.out (.inr (.inl e))
         · rcases ho6 _ e with e | e
           · exact NF.out (.inr (.inr e))
           · have := HW.out.lt; have h9 : wr.heap.size ≤ w2.heap.size := e; omega)
       have DB6 : Hid (Below w.heap.size wr w6) := Lib.hid (((Below.refl w.heap.size wr).drew).trans (ha6.below (by have := B4.out.size; exact this) fun k hk hf => by have := (D4.out.lt k hf).1; omega))
       clear ho6 hd6 ha6 hb5 hly hbw a1 a3 m1 hc0 hw6
       go_wp2
       clear k0 k1 k2 m2
       go_roundw
       case rel =>
         refine ⟨i + 1, _, L6, upd W t (i + 1), by omega, by omega, by go_num, ?_, HF.out.next (t := t) (by omega), ?_, ?_, ?_⟩
         · refine D6.out.apart (apart_set w6 w2.heap.size t _) fun k hk e => ?_
           subst e
           exact NF6.out hk
         · refine W6.out.set_ ht20 ?_ fun j hj => ?_
           · unfold upd; rw [if_pos rfl]; omega
           · unfold upd; rw [if_neg hj]
         · exact NF6.out
         · exact (B4.out.trans (DB6.out)).trans ((Below.refl _ _).setCell (by exact B2.out.size) _)
       case measure => simp [intOf]; omega
     · by_cases h1 : i < n0
       · obtain rfl : i = 50 := by omega
         go_wp2
         go_meet
         case rel => exact ⟨D, L, W, D4.out, HF.out, HW.out, NF.out, B4.out⟩
       · obtain rfl : i = n0 := by omega
         go_wp2
         go_meet
         case rel => exact ⟨D, L, W, D4.out, HF.out.last hi5, HW.out, NF.out, B4.out⟩
  case rest =>
    obtain ⟨D, L, W, hd, hf, hw, hnf, hb⟩ := hcut
    have D4 := Lib.hid hd
    have F4 := Lib.hid hf
    have W4 := Lib.hid hw
    have N4 := Lib.hid hnf
    have B4 := Lib.hid hb
    clear hd hf hw hnf hb
    go_wp2_with fail
    refine (flush_any D4.out).mono ?_
    rintro e w5 ⟨ha, hr⟩
    have hfl : e = .returned (.int .i64 0) ∧ IsDev w5 w.heap.size g h (.slice none 0 0) (D.settle fun _ => true) := by
      have hpw := power_free F4.out.off F4.out.limited
      rcases hr with ⟨-, he, hd⟩ | ⟨hp, -, -⟩
      · rw [hpw] at hd; exact ⟨he, hd⟩
      · rw [hpw] at hp; cases hp
    obtain ⟨rfl, hd5⟩ := hfl
    have D5 := Lib.hid hd5
    have W5 := Lib.hid (W4.out.apart ha (fun hh => N4.out (by rcases hh with e | e; exact .inl e; exact .inr (.inl e))))
    have F5 := Lib.hid F4.out.flushed
    have B5 : Hid (Below w.heap.size w w5) := Lib.hid (B4.out.trans (ha.below B4.out.size fun k hk hh => by
      rcases hh with rfl | rfl
      · have := D4.out.bg; omega
      · have := D4.out.bh; omega))
    clear ha hr hd5
    obtain ⟨w6, hmk0, hr6, hb6, hs6⟩ := make_marks 20 (by omega) w5
    have hmk : (Instr.makeSlice 54 (.int .i64 20) (.int .i64 20)).run Try.prog w5 = .ok (.slice (some ⟨w5.heap.size, 0, none⟩) 20 20) w6 := hmk0
    have D6 := Lib.hid (D5.out.below hb6)
    have W6 := Lib.hid (W5.out.below hb6 W5.out.lt)
    have R6 := Lib.hid hr6
    have B6 := Lib.hid (B5.out.trans (hb6.mono B5.out.size))
    have N6 : Hid (¬ foot g h (.slice none 0 0) w2.heap.size) := Lib.hid (fun hh => N4.out (by
      rcases hh with e | e | e
      · exact .inl e
      · exact .inr (.inl e)
      · cases e))
    have M6 : Hid (¬ foot g h (.slice none 0 0) w5.heap.size) := Lib.hid (fun hh => by have := (D5.out.lt _ hh).2; omega)
    have SW := Lib.hid F4.out.small
    clear hmk0 hr6 hb6 hs6
    go_upto_block 2 with (fail)
    clear hmk
    go_cut [] from 70 (fun wr => SecondEnd w g h w2.heap.size w5.heap.size W wr)
    case first =>
      go_wp2
      go_loopw [12] (fun v wr => Seconding w g h w2.heap.size w5.heap.size n1 W v wr) (fun v _ => 50 - (intOf v).toNat)
      case atStart => exact ⟨0, _, _, _, Nat.zero_le _, by omega, rfl, D6.out, F5.out, W6.out, N6.out, R6.out, M6.out, B6.out⟩
      case round =>
        obtain ⟨i, D, L, M, hi, hi5, rfl, hd, hf, hw, hnf, hm, hmf, hb⟩ := hrel
        have D4 := Lib.hid hd
        have HF := Lib.hid hf
        have HW := Lib.hid hw
        have NF := Lib.hid hnf
        have HM := Lib.hid hm
        have MF := Lib.hid hmf
        have B4 := Lib.hid hb
        clear hd hf hw hnf hm hmf hb
        by_cases h0 : i < n1 ∧ i < 50
        · obtain ⟨h1, h2⟩ := h0
          obtain ⟨ad, rfl⟩ := R1.out.addr (by omega)
          obtain ⟨z, hz⟩ : ∃ z, z = f1 i := ⟨_, rfl⟩
          have hc0 := cell_later B4.out (R1.out.at_ h1)
          have hz256 := R1.out.small i h1
          rw [← hz] at hc0 hz256
          obtain ⟨t, ht⟩ : ∃ t, t = z % 20 := ⟨_, rfl⟩
          have ht20 : t < 20 := by omega
          have m1 : ((z : Int)).tmod 20 = (t : Int) := by rw [Int.tmod_eq_emod_of_nonneg (by omega)]; omega
          have i0 : (i : Int) < (n1 : Int) := by omega
          have i1 : (0 : Int) ≤ (i : Int) := by omega
          have a1 : IntKind.i64.wrap (100 + (i : Int)) = 100 + (i : Int) := IntWalk.i64_in _ (by omega)
          have a2 : Hid (IntKind.u8.wrap (100 + (i : Int)) = ((100 + i : Nat) : Int)) := Lib.hid (by simp [IntKind.wrap, IntKind.bits, IntKind.signed]; omega)
          have a3 : IntKind.i64.wrap (t : Int) = (t : Int) := IntWalk.i64_in _ (by omega)
          have HT := Lib.hid ht
          have HA := Lib.hid (HF.out.size)
          have DR : Hid (IsDev wr.drew w.heap.size g h L D) := Lib.hid (D4.out.below ((Below.refl _ _).drew))
          have HC := Lib.hid hc0
          have AB : Hid (¬ foot g h L ad.block) := Lib.hid (fun hf => by
            have h5 := (D4.out.lt _ hf).1
            have h6 := World.block_lt_of_cell? w _ (R1.out.at_ (i := 0) (by omega))
            rw [show ad.add 0 = ad from rfl] at h6
            omega)
          have ABI : Hid ((ad.add i).block = ad.block) := Lib.hid (by unfold Addr.add; split <;> rfl)
          clear hz ht
          go_wp2
          go_region_held3 (fun w' => w'.cell? (ad.add i) = some (.int .u8 (z : Int)))
            (first
              | exact hc0
              | exact cell_apart ha6 HC.out (by rw [ABI.out]; exact AB.out)
              | exact cell_later ((Below.refl _ _).alloc (Nat.le_refl _) _) (cell_later hb5 HC.out)
              | exact cell_later hb5 HC.out)
            (first
              | (go_at_call 22; rw [a2.out]; refine (fill_any (100 + i) _).mono ?_; rintro e w5a ⟨b, rfl, hly, hbw, hb5⟩)
              | (go_at_call 12; refine (put_free (base := w.heap.size) (t := t) (f := fun _ => 100 + i) DR.out hb5 hly hbw (fun _ _ => by omega) (by rw [HA.out]; exact ht20) (by have := HF.out.length; omega) HF.out.off HF.out.limited).mono ?_; rintro e w6a ⟨L6, rfl, hd6, ha6, ho6⟩))
          have D7 := Lib.hid hd6
          have hw7 := (HW.out.below ((Below.refl _ _).drew) (by have := HW.out.lt; exact this)).apart ha6 NF.out
          have W7 := Lib.hid hw7
          have hm7 := (HM.out.below ((Below.refl _ _).drew)).apart ha6 MF.out
          have M7 := Lib.hid hm7
          have k0 : w6a.cell? (ad.add i) = some (.int .u8 (z : Int)) := cell_apart (w := wr.drew) ha6 HC.out (by rw [ABI.out]; exact AB.out)
          have k1 := hm7.cell ht20
          have k2 := hm7.free t
          have m2 : (z : Int) % 20 = (t : Int) := by have := HT.out; omega
          have NF7 : Hid (¬ foot g h L6 w2.heap.size) := Lib.hid (fun hf => by
            rcases hf with e | e | e
            · exact NF.out (.inl e)
            · exact NF.out (.inr (.inl e))
            · rcases ho6 _ e with e | e
              · exact NF.out (.inr (.inr e))
              · have := HW.out.lt; have h9 : wr.heap.size ≤ w2.heap.size := e; omega)
          have MF7 : Hid (¬ foot g h L6 w5.heap.size) := Lib.hid (fun hf => by
            rcases hf with e | e | e
            · exact MF.out (.inl e)
            · exact MF.out (.inr (.inl e))
            · rcases ho6 _ e with e | e
              · exact MF.out (.inr (.inr e))
              · have := HM.out.lt; have h9 : wr.heap.size ≤ w5.heap.size := e; omega)
          have DB7 : Hid (Below w.heap.size wr w6a) := Lib.hid (((Below.refl w.heap.size wr).drew).trans (ha6.below (by have := B4.out.size; exact this) fun k hk hf => by have := (D4.out.lt k hf).1; omega))
          have NE : Hid (w2.heap.size ≠ w5.heap.size) := Lib.hid (by have := W5.out.lt; omega)
          clear ho6 hd6 ha6 hb5 hly hbw a1 a3 m1 hc0 hw7 hm7
          go_wp2
          clear k0 k1 k2 m2
          go_roundw
          case rel =>
            refine ⟨i + 1, _, L6, mark M t, by omega, by omega, by go_num, ?_, HF.out.next (t := t) (by omega), ?_, NF7.out, ?_, MF7.out, ?_⟩
            · refine D7.out.apart (apart_set w6a w5.heap.size t _) fun k hk e => ?_
              subst e
              exact MF7.out hk
            · exact W7.out.apart (apart_set w6a w5.heap.size t _) NE.out
            · refine M7.out.set_ (fun _ => by unfold mark; rw [if_pos rfl]) fun j hj hne => ?_
              unfold mark; rw [if_neg hne]
            · exact (B4.out.trans (DB7.out)).trans ((Below.refl _ _).setCell (by exact B5.out.size) _)
          case measure => simp [intOf]; omega
        · by_cases h1 : i < n1
          · obtain rfl : i = 50 := by omega
            go_wp2
            go_meet
            case rel => exact ⟨D, L, M, D4.out, HF.out, HW.out, NF.out, HM.out, MF.out, B4.out⟩
          · obtain rfl : i = n1 := by omega
            go_wp2
            go_meet
            case rel => exact ⟨D, L, M, D4.out, HF.out.last hi5, HW.out, NF.out, HM.out, MF.out, B4.out⟩
    case rest =>
      obtain ⟨D, L, M, hd, hf, hw, hnf, hm, hmf, hb⟩ := hcut
      have D7 := Lib.hid hd
      have F7 := Lib.hid hf
      have W7 := Lib.hid hw
      have N7 := Lib.hid hnf
      have M7 := Lib.hid hm
      have MF7 := Lib.hid hmf
      have B7 := Lib.hid hb
      clear hd hf hw hnf hm hmf hb
      go_wp2_with fail
      refine (crash_any D7.out (HS2.out.below B7.out) (by have := F7.out.length; omega)).mono ?_
      rintro e w8 ⟨rfl, hd, ha⟩
      have D8 := Lib.hid hd
      have W8 := Lib.hid (W7.out.apart ha (fun hh => N7.out (by rcases hh with e | e; exact .inl e; exact .inr (.inl e))))
      have M8 := Lib.hid (M7.out.apart ha (fun hh => MF7.out (by rcases hh with e | e; exact .inl e; exact .inr (.inl e))))
      have B8 : Hid (Below w.heap.size w w8) := Lib.hid (B7.out.trans (ha.below B7.out.size fun k hk hh => by
        rcases hh with rfl | rfl
        · have := D7.out.bg; omega
        · have := D7.out.bh; omega))
      have V8 := Lib.hid (F7.out.crashed SW.out Z2)
      have S8 : Hid ((D.crash Z2).size = 20) := Lib.hid F7.out.size
      clear hd ha
      go_wp2
      go_loopw [13] (fun v wr => ∃ i : Nat, i ≤ 20 ∧ v = .int .i64 (i : Int) ∧ Below w8.heap.size w8 wr) (fun v _ => 20 - (intOf v).toNat)
      case atStart => exact ⟨0, Nat.zero_le _, rfl, Below.refl _ _⟩
      case round =>
        obtain ⟨i, hi, rfl, hb⟩ := hrel
        have B9 := Lib.hid hb
        clear hb
        by_cases h0 : i < 20
        · go_wp2_with fail
          refine (get_ok (t := i) (D8.out.below B9.out) rfl (by rw [S8.out]; exact h0)).mono ?_
          rintro e w10 ⟨k, rfl, hk, hkw, hb10⟩
          obtain ⟨c, c256, hv, hc⟩ := V8.out i
          rw [hv] at hk
          have k0 : w10.cell? ⟨k, 0, none⟩ = some (.int .u8 (c : Int)) := hk.cell (i := 0) (by omega)
          have k63 : w10.cell? ⟨k, 63, none⟩ = some (.int .u8 (c : Int)) := hk.cell (i := 63) (by omega)
          have B10 := Lib.hid (B9.out.trans (hb10.mono B9.out.size))
          have kw := (W8.out.below B10.out W8.out.lt).cell h0
          have km := (M8.out.below B10.out).cell h0
          have i0 : (i : Int) < 20 := by omega
          have i1 : (0 : Int) ≤ (i : Int) := by omega
          have e63 : ((c : Int) != (c : Int)) = false := by simp
          obtain ⟨x, hx⟩ : ∃ x, x = W i := ⟨_, rfl⟩
          obtain ⟨y, hy⟩ : ∃ y, y = M i := ⟨_, rfl⟩
          rw [← hx] at kw hc
          rw [← hy] at km hc
          have HXY := Lib.hid (And.intro hx hy)
          clear hv hk hkw hb10 hx hy
          rcases hc with hc | ⟨hc, hyt, hc100⟩
          · subst hc
            clear km
            go_wp2_with fail
            go_quiet (fail)
            go_wp2
            go_roundw
            case rel => exact ⟨i + 1, by omega, by go_num, below_drewN B10.out _⟩
            case measure => simp [intOf]; omega
          · rw [hyt] at km
            have e1 : ((c : Int) != (x : Int)) = true := by simp; omega
            have e2 : decide ((100 : Int) ≤ (c : Int)) = true := by simp; omega
            go_wp2_with fail
            go_quiet (fail)
            go_wp2
            go_roundw
            case rel => exact ⟨i + 1, by omega, by go_num, below_drewN B10.out _⟩
            case measure => simp [intOf]; omega
        · obtain rfl : i = 20 := by omega
          go_wp2_with fail
          refine (loose_any (D8.out.below B9.out)).mono ?_
          rintro e w10 ⟨rfl, rfl⟩
          rw [show (D.crash Z2).loose.length = 0 from rfl]
          go_wp2
          go_ret
          exact ⟨rfl, B8.out.trans (B9.out.mono B8.out.size)⟩

set_option linter.unusedVariables false in
theorem walk (w : World) (A0 : Option Addr) (n0 c0 : Nat) (Z0 : List Int) (s0 : IntsIn w .u8 A0 n0 c0 Z0) (r0 : n0 * 1 ≤ 140737488351232) (A1 : Option Addr) (n1 c1 : Nat) (Z1 : List Int) (s1 : IntsIn w .u8 A1 n1 c1 Z1) (r1 : n1 * 1 ≤ 140737488351232) (A2 : Option Addr) (n2 c2 : Nat) (Z2 : List Int) (s2 : IntsIn w .i64 A2 n2 c2 Z2) (r2 : n2 * 8 ≤ 140737488351232) :
    Calls Try.prog 4 #[.slice A0 n0 c0, .slice A1 n1 c1, .slice A2 n2 c2] w (Fresh (.bool true) w) := by
  exact text A0 A1 A2 n0 c0 n1 c1 n2 c2 Z2 _ _ w (reads_in s0) (reads_in s1) s2
/-! ### the law's end -/
set_option linter.unusedVariables false
theorem own : ownKnob Try.prog.godebug = none := by kernel_rfl
theorem laidOut : laidOutB Try.prog = true := by kernel_rfl
set_option maxRecDepth 100000 in

theorem lifted (os : Os) (started : os.Started) (H : Type) (enc : TypeId × Value → H) :
    ReturnsInHanded {} Try.checked os 4 .any (Rows.basinLastsSpec.pre6 enc Try.prog Try.f4 Rows.basinLastsRow.domain false) (Rows.basinLastsSpec.post enc Try.prog Try.f4 false true false false) := by
  refine returnsInHanded_of_change_sized (C := Try.checked) own started (by kernel_rfl) Try.func4
    (ChangeSpec.witness6 (enc := enc) (C := Try.checked) false ⟨#[], #[.slice none 0 0, .slice none 0 0, .slice none 0 0], []⟩ 8 (by kernel_rfl) (by kernel_rfl) (by kernel_rfl) (by kernel_rfl)) ?_
  intro W base args ds gs before hval0 hW _ hsz0 _
  have hsz : (DataW.weightsEach Try.prog (Try.f4.params.toList ++ Rows.basinLastsSpec.plain.varTypes Try.prog) (ds ++ gs)).all (· ≤ reachBytes) = true := hsz0
  clear hsz0
  have hval : ∀ (j : Nat) t v, Try.f4.params[j]? = some t → args[j]? = some v → Value.okWide Try.prog W .any base t v := hval0
  have hW' := hW
  obtain ⟨p, q, hA0, hV, rfl, _, _⟩ := hW
  have hA : DataW.TrodAll enc Try.prog W 0 (fun _ => true) true Try.f4.params.toList args.toList ds p := hA0
  rw [Try.params4] at hA hval hsz
  obtain ⟨v0, vs0, d0, ds0, p0, q0, hargs, rfl, rfl, h0, u0⟩ := trodAll_cons hA
  obtain ⟨v1, vs1, d1, ds1, p1, q1, rfl, rfl, rfl, h1, u1⟩ := trodAll_cons u0
  obtain ⟨v2, vs2, d2, ds2, p2, q2, rfl, rfl, rfl, h2, u2⟩ := trodAll_cons u1
  obtain ⟨rfl, rfl, rfl⟩ := trodAll_nil u2
  obtain rfl : args = #[v0, v1, v2] := by cases args; simp_all
  obtain ⟨rfl, rfl⟩ := trodVars_none hV
  clear hA0 hval0
  obtain ⟨A0, n0, c0, rfl⟩ := okWide_slice Try.underlying37 (hval 0 37 v0 rfl rfl)
  have k0 := h0
  obtain ⟨Z0, s0, z0⟩ := view_ints Try.underlying37 Try.underlying5 (by kernel_rfl) h0
  have r0 := reach_of (b := 1) hsz (j := 0) (t := 37) (e := 5) rfl rfl Try.underlying37 (by kernel_rfl) z0
  obtain ⟨A1, n1, c1, rfl⟩ := okWide_slice Try.underlying37 (hval 1 37 v1 rfl rfl)
  have k1 := h1
  obtain ⟨Z1, s1, z1⟩ := view_ints Try.underlying37 Try.underlying5 (by kernel_rfl) h1
  have r1 := reach_of (b := 1) hsz (j := 1) (t := 37) (e := 5) rfl rfl Try.underlying37 (by kernel_rfl) z1
  obtain ⟨A2, n2, c2, rfl⟩ := okWide_slice Try.underlying32 (hval 2 32 v2 rfl rfl)
  have k2 := h2
  obtain ⟨Z2, s2, z2⟩ := view_ints Try.underlying32 Try.underlying3 (by kernel_rfl) h2
  have r2 := reach_of (b := 8) hsz (j := 2) (t := 32) (e := 3) rfl rfl Try.underlying32 (by kernel_rfl) z2
  simp only [List.append_nil] at hW'
  have hlt : ∀ x ∈ p0 ++ p1 ++ p2, x.block < W.heap.size := fun x hx => by simpa using hW'.lt x (by simpa using hx)
  refine (walk W A0 n0 c0 Z0 s0 r0 A1 n1 c1 Z1 s1 r1 A2 n2 c2 Z2 s2 r2).mono fun e W' ⟨he, hb⟩ => ?_
  subst he
  exact ⟨_, rfl, _, _, _, [], _, [], hW', (trodAll_cons_mk (shut_bool Try.underlying4 _) trodAll_mk0), (trodAll_cons_mk (Below.trod laidOut (by kernel_rfl) (of_decide_eq_true (by kernel_rfl)) k0 hb (fun x hx => hlt x (by simp [hx]))) (trodAll_cons_mk (Below.trod laidOut (by kernel_rfl) (of_decide_eq_true (by kernel_rfl)) k1 hb (fun x hx => hlt x (by simp [hx]))) (trodAll_cons_mk (Below.trod laidOut (by kernel_rfl) (of_decide_eq_true (by kernel_rfl)) k2 hb (fun x hx => hlt x (by simp [hx]))) trodAll_mk0))), rfl, hb.frame _, fun h => by cases h⟩

theorem over : Rows.basinLastsRow.holds Try.pinned (OpenSpec.ofChange Rows.basinLastsSpec) :=
  OpenClaim.holds_of_wide 4 Try.f4 rfl rfl rfl rfl rfl rfl rfl ⟨rfl, rfl, rfl, rfl, rfl⟩ rfl rfl rfl rfl rfl (by kernel_rfl) Try.func4 (by kernel_rfl)
    (of_decide_eq_true (by kernel_rfl)) (by unfold Func.isWrapper; first | (rw [if_pos (by decide +kernel)]; kernel_rfl) | (rw [if_neg (by decide +kernel)]; exact ⟨rfl, rfl⟩))
    (fun os started H enc _ => lifted os started H enc)

theorem proved : Rows.BasinLastsSaid := over
#print axioms proved
end Go.Proofs.Ytcnoadikkfedaaa.basinLasts
