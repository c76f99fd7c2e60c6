
/- The document's own answers for sealed sectors: a contract each, over any bytes. -/
import Derived.Test.YtmgeifolgdgapaaSeOpen
import Derived.OwnWalk
namespace Go.Proofs.Ytmgeifolgdgapaa
open Go.RowKit

def lenOf : Value → Nat
  | .slice _ n _ => n
  | _ => 0

theorem run_bytes2 {w : World} {base n m c : Nat} {v : Value} {f g : Nat → Nat} {A : Option Addr} (ty : TypeId) (h : Own w base v n f) (hv : v ≠ .slice none 0 0) (hs : BytesAt w A m g) (hbare : A = none → c = 0)
    (hm : n + m ≤ 140737488355328) (hb : base ≤ w.heap.size) :
    ∃ v' w', (Builtin.append_ #[28, 28] ty #[v, .slice A m c]).run Try.prog w = .ok v' w' ∧ Own w' base v' (n + m) (behind f n g) ∧ v' ≠ .slice none 0 0 ∧ w.grownBy w' v.ownBlock := by
  obtain ⟨v', w', h1, h2, h3, h4⟩ := run_bytes ty h hs hbare hm hb
  exact ⟨v', w', h1, h2, fun e => hv (h3 e).1, h4⟩
theorem Own.form {w : World} {base n : Nat} {v : Value} {f : Nat → Nat} (h : Own w base v n f) (hv : v ≠ .slice none 0 0) :
    ∃ g cap, v = .slice (some ⟨g, 0, none⟩) n cap ∧ g < w.heap.size ∧ n ≤ cap ∧ cap ≤ 9223372036854775807 := by
  rcases h.2 with ⟨rfl, _⟩ | ⟨g, cap, cur, rfl, _, hg, hnc, hm, _⟩
  · exact absurd rfl hv
  · exact ⟨g, cap, rfl, (Array.getElem?_eq_some_iff.1 hg).1, hnc, by unfold maxLen at hm; omega⟩
theorem Own.bytes {w : World} {base g n cap : Nat} {f : Nat → Nat} (h : Own w base (.slice (some ⟨g, 0, none⟩) n cap) n f) (hf : ∀ i, i < n → f i < 256) : BytesAt w (some ⟨g, 0, none⟩) n f :=
  ⟨hf, fun i hi => ⟨_, rfl, World.ownsRow.cells h (g := g) rfl i _ (cellsOf_at f hi)⟩⟩
theorem zero_new (w : World) : BytesAt (w.alloc (.cells #[.int .u8 0] 5)) (some ⟨w.heap.size, 0, none⟩) 1 (fun _ => 0) :=
  ⟨fun _ _ => by show 0 < 256; omega, fun i hi => ⟨_, rfl, by
    obtain rfl : i = 0 := by omega
    rw [add_nil, World.cell?_alloc_mark]; rfl⟩⟩
theorem four_new (w : World) (s : BitVec 32) : BytesAt (w.alloc (.cells #[.int .u8 (sumB s 0), .int .u8 (sumB s 1), .int .u8 (sumB s 2), .int .u8 (sumB s 3)] 5)) (some ⟨w.heap.size, 0, none⟩) 4 (sumB s) :=
  ⟨fun _ _ => sumB_lt _ _, fun i hi => ⟨_, rfl, by
    rcases (by omega : i = 0 ∨ i = 1 ∨ i = 2 ∨ i = 3) with rfl | rfl | rfl | rfl <;> (rw [add_nil, World.cell?_alloc_mark]; rfl)⟩⟩

theorem sum_0 (s : BitVec 32) : num s / 16777216 % 256 = (sumB s 0 : Int) := by unfold sumB num; simp
theorem sum_1 (s : BitVec 32) : num s / 65536 % 256 = (sumB s 1 : Int) := by unfold sumB num; simp
theorem sum_2 (s : BitVec 32) : num s / 256 % 256 = (sumB s 2 : Int) := by unfold sumB num; simp
theorem sum_3 (s : BitVec 32) : num s % 256 = (sumB s 3 : Int) := by unfold sumB num; simp

/-- How the document's loop stands: m bytes, those behind n being 0. -/
def PadLoop (f : Nat → Nat) (n : Nat) (w : World) (v : Value) (wr : World) : Prop :=
  ∃ m : Nat, n ≤ m ∧ m ≤ 60 ∧ (∃ g cap, v = .slice (some ⟨g, 0, none⟩) m cap ∧ m ≤ cap ∧ cap ≤ 9223372036854775807) ∧ Own wr w.heap.size v m (pad f n) ∧ Below w.heap.size w wr

theorem refClose_long (A : Option Addr) (n c : Nat) (w : World) (hn : n ≤ 9223372036854775807) (h : 60 < n) :
    Calls Try.prog 27 #[.slice A n c] w fun e w' => e = .returned (.tuple #[.slice none 0 0, .int .i64 6]) ∧ w = w' := by
  go_enter Try.func27, Try.ntmps27
  go_wp2
  go_ret2
  exact ⟨rfl, rfl⟩

set_option maxRecDepth 20000 in
theorem refClose_any (A : Option Addr) (n c : Nat) (f : Nat → Nat) (w : World) (hn : n ≤ 60) (h : BytesAt w A n f) (hbare : A = none → c = 0) :
    Calls Try.prog 27 #[.slice A n c] w (Gives 64 (sec f n) w) := by
  have F := Lib.hid h.small
  have hb0 : Below w.heap.size w (w.alloc (.cells #[] 5)) := (Below.refl _ _).alloc (Nat.le_refl _) _
  obtain ⟨v1, w1, r1, o1, n1, g1⟩ := run_bytes2 (c := c) 28 (own_new w f) (by intro e; cases e) (h.below hb0) hbare (by omega) hb0.size
  have hb1 : Below w.heap.size w w1 := (own_new w f).grown_below hb0 (Nat.le_refl _) hb0.size g1
  rw [Nat.zero_add] at o1
  have o1' : Own w1 w.heap.size v1 n (pad f n) := o1.congr fun i hi => by unfold behind pad; rw [if_pos hi, if_neg (by omega)]; rfl
  have hform : ∃ g cap, v1 = .slice (some ⟨g, 0, none⟩) n cap ∧ n ≤ cap ∧ cap ≤ 9223372036854775807 := by obtain ⟨g, cap, e, _, h1, h2⟩ := o1'.form n1; exact ⟨g, cap, e, h1, h2⟩
  have R1 := Lib.hid r1
  have O1 := Lib.hid o1'
  have B1 := Lib.hid hb1
  have V1 := Lib.hid hform
  clear r1 o1 o1' hb1 hb0 n1 g1 h hform
  have hlen : decide (60 < (n : Int)) = false := by simp; omega
  go_enter Try.func27, Try.ntmps27
  go_wp2_with (at_builtin; refine Lib.wpList_append_run _ rfl (.tmp 9) (.tmp 10) _ _ rfl _ _ rfl rfl _ _ R1.out ?_)
  go_loopw [4] (fun v wr => PadLoop f n w v wr) (fun v _ => 60 - lenOf v)
  case atStart => exact ⟨n, Nat.le_refl _, hn, V1.out, O1.out, B1.out⟩
  case round =>
    clear R1 O1 B1 V1
    obtain ⟨m, hnm, hm, ⟨g, cap, rfl, hcap, hcap2⟩, ho, hb⟩ := hrel
    have HB := Lib.hid hb
    have HO := Lib.hid ho
    clear ho hb
    by_cases h60 : m < 60
    · have hbx : Below w.heap.size w (wr.alloc (.cells #[.int .u8 0] 5)) := HB.out.alloc HB.out.size _
      obtain ⟨v2, w2, r2, o2, n2, g2⟩ := run_bytes2 (c := 1) 28 (HO.out.alloc (.cells #[.int .u8 0] 5)) (by intro e; cases e) (zero_new wr) (by intro e; cases e) (by omega) hbx.size
      have hb2 : Below w.heap.size w w2 := (HO.out.alloc (.cells #[.int .u8 0] 5)).grown_below hbx (Nat.le_refl _) hbx.size g2
      have o3 : Own w2 w.heap.size v2 (m + 1) (pad f n) := o2.congr fun i hi => by
        unfold behind
        by_cases him : i < m
        · rw [if_pos him]
        · rw [if_neg him]; unfold pad; rw [if_neg (by omega)]
      obtain ⟨g3, cap3, hv3, _, hcap3, hcap4⟩ := o3.form n2
      subst hv3
      have R2 := Lib.hid r2
      have O3 := Lib.hid o3
      have B2 := Lib.hid hb2
      clear r2 o2 o3 hb2 g2 n2 hbx
      go_wp2_with (at_builtin; refine Lib.wpList_append_run _ rfl (.tmp 15) (.tmp 16) _ _ rfl _ _ rfl rfl _ _ R2.out ?_)
      go_roundw
      case rel => exact ⟨m + 1, by omega, by omega, ⟨_, _, rfl, hcap3, hcap4⟩, O3.out, B2.out⟩
      case measure => simp [lenOf]; omega
    · obtain rfl : m = 60 := by omega
      have P := Lib.hid (fun i => pad_lt F.out i)
      obtain ⟨s, es⟩ : ∃ s, s = crc (pad f n) 60 := ⟨_, rfl⟩
      have ES := Lib.hid es
      have t0 := sum_0 s
      have t1 := sum_1 s
      have t2 := sum_2 s
      have t3 := sum_3 s
      clear es
      have hbx : Below w.heap.size w (wr.alloc (.cells #[.int .u8 (sumB s 0), .int .u8 (sumB s 1), .int .u8 (sumB s 2), .int .u8 (sumB s 3)] 5)) := HB.out.alloc HB.out.size _
      obtain ⟨v2, w2, r2, o2, n2, g2⟩ := run_bytes2 (c := 4) 28 (HO.out.alloc (.cells #[.int .u8 (sumB s 0), .int .u8 (sumB s 1), .int .u8 (sumB s 2), .int .u8 (sumB s 3)] 5)) (by intro e; cases e) (four_new wr s) (by intro e; cases e) (by omega) hbx.size
      have hb2 : Below w.heap.size w w2 := (HO.out.alloc (.cells #[.int .u8 (sumB s 0), .int .u8 (sumB s 1), .int .u8 (sumB s 2), .int .u8 (sumB s 3)] 5)).grown_below hbx (Nat.le_refl _) hbx.size g2
      have o3 : Own w2 w.heap.size v2 64 (sec f n) := Own.congr (n := 60 + 4) o2 fun i hi => by
        unfold behind sec
        by_cases h : i < 60
        · rw [if_pos h, if_pos h]
        · rw [if_neg h, if_neg h, ES.out]
      have R2 := Lib.hid r2
      have O3 := Lib.hid (o3.row n2)
      have B2 := Lib.hid hb2
      clear r2 o2 o3 hb2 g2 n2 hbx
      go_wp2_with fail
      with_reducible refine (refSum_any _ _ _ _ _ (by omega) (HO.out.bytes (fun i _ => P.out i))).mono ?_
      rintro e w' ⟨rfl, rfl⟩
      rw [← ES.out]
      go_wp2_with (at_builtin; refine Lib.wpList_append_run _ rfl (.tmp 20) (.tmp 32) _ _ rfl _ _ rfl rfl _ _ R2.out ?_)
      go_ret2
      exact ⟨_, rfl, O3.out, B2.out⟩

/-- Whether 64 bytes are a sealed sector: as the document says it, and as the four bytes say it. -/
theorem sealed_text {f : Nat → Nat} (hf : ∀ i, i < 64 → f i < 256) : ((str (sec f 60) 64).toList == (str f 64).toList) = true ↔ ∀ i, i < 4 → f (60 + i) = sumB (crc f 60) i := by
  have hp : crc (pad f 60) 60 = crc f 60 := crc_congr fun i hi => by unfold pad; rw [if_pos hi]
  constructor
  · intro h i hi
    have := str_inj (fun j _ => sec_lt (fun j hj => hf j (by omega)) j) hf h (60 + i) (by omega)
    rw [← this, sec_high, hp]
  · intro h
    refine str_same fun i hi => ?_
    by_cases h60 : i < 60
    · rw [sec_low h60]; unfold pad; rw [if_pos h60]
    · obtain ⟨j, rfl⟩ : ∃ j, i = 60 + j := ⟨i - 60, by omega⟩
      rw [sec_high, hp, h j (by omega)]

theorem refOpen_len (A : Option Addr) (n c : Nat) (w : World) (h : n ≠ 64) :
    Calls Try.prog 23 #[.slice A n c] w fun e w' => e = .returned (.tuple #[.slice none 0 0, .int .i64 6]) ∧ w = w' := by
  have h1 : ((n : Int) == 64) = false := by simp; omega
  have h2 : ((n : Int) != 64) = true := by simp; omega
  clear h
  go_enter Try.func23, Try.ntmps23
  go_wp2
  go_ret2
  exact ⟨rfl, rfl⟩

theorem refOpen_bad (ad : Addr) (c : Nat) (f : Nat → Nat) (w : World) (hc : 64 ≤ c) (hm : c ≤ 9223372036854775807) (h : BytesAt w (some ad) 64 f) (hno : ¬ ∀ i, i < 4 → f (60 + i) = sumB (crc f 60) i) :
    Calls Try.prog 23 #[.slice (some ad) 64 c] w fun e w' => e = .returned (.tuple #[.slice none 0 0, .int .i64 2]) ∧ Below w.heap.size w w' := by
  have HB := Lib.hid h
  obtain ⟨X, eX⟩ : ∃ X, X = str (sec f 60) 64 := ⟨_, rfl⟩
  obtain ⟨Y, eY⟩ : ∃ Y, Y = str f 64 := ⟨_, rfl⟩
  have ht : (X.toList == Y.toList) = false := by
    cases e : (X.toList == Y.toList) with
    | true => rw [eX, eY] at e; exact absurd ((sealed_text h.small).1 e) hno
    | false => rfl
  have F := Lib.hid (fun i => sec_lt (n := 60) (fun j hj => h.small j (by omega)) i)
  have EX := Lib.hid eX
  have EY := Lib.hid eY
  clear h hno eX eY
  go_enter Try.func23, Try.ntmps23
  go_wp2_with fail
  with_reducible refine (refClose_any (some ad) 60 _ f _ (by omega) (HB.out.first (by omega)) (by intro e; cases e)).mono ?_
  rintro e w1 ⟨v, rfl, hr, hb⟩
  obtain ⟨g, cap, rfl, _, _, hcap, hcap2, hy⟩ := hr.bytes (Nat.le_refl _) (fun i _ => F.out i)
  have c1 : (convert 28 9 (.slice (some ⟨g, 0, none⟩) 64 cap)).run Try.prog w1 = .ok (.string X) w1 := by rw [EX.out]; exact conv_str cap hy
  have c2 : (convert 28 9 (.slice (some ad) 64 c)).run Try.prog w1 = .ok (.string Y) w1 := by rw [EY.out]; exact conv_str c (HB.out.below hb)
  have B1 := Lib.hid hb
  clear hr hy hb
  go_wp2
  go_ret2
  exact ⟨rfl, B1.out⟩

theorem refOpen_ok (ad : Addr) (c : Nat) (f : Nat → Nat) (w : World) (hc : 64 ≤ c) (hm : c ≤ 9223372036854775807) (h : BytesAt w (some ad) 64 f) (hyes : ∀ i, i < 4 → f (60 + i) = sumB (crc f 60) i) :
    Calls Try.prog 23 #[.slice (some ad) 64 c] w (Gives 60 f w) := by
  have HB := Lib.hid h
  obtain ⟨X, eX⟩ : ∃ X, X = str (sec f 60) 64 := ⟨_, rfl⟩
  obtain ⟨Y, eY⟩ : ∃ Y, Y = str f 64 := ⟨_, rfl⟩
  have ht : (X.toList == Y.toList) = true := by rw [eX, eY]; exact (sealed_text h.small).2 hyes
  have F := Lib.hid (fun i => sec_lt (n := 60) (fun j hj => h.small j (by omega)) i)
  have EX := Lib.hid eX
  have EY := Lib.hid eY
  clear h hyes eX eY
  go_enter Try.func23, Try.ntmps23
  go_wp2_with fail
  with_reducible refine (refClose_any (some ad) 60 _ f _ (by omega) (HB.out.first (by omega)) (by intro e; cases e)).mono ?_
  rintro e w1 ⟨v, rfl, hr, hb⟩
  obtain ⟨g, cap, rfl, _, _, hcap, hcap2, hy⟩ := hr.bytes (Nat.le_refl _) (fun i _ => F.out i)
  have c1 : (convert 28 9 (.slice (some ⟨g, 0, none⟩) 64 cap)).run Try.prog w1 = .ok (.string X) w1 := by rw [EX.out]; exact conv_str cap hy
  have c2 : (convert 28 9 (.slice (some ad) 64 c)).run Try.prog w1 = .ok (.string Y) w1 := by rw [EY.out]; exact conv_str c (HB.out.below hb)
  have hbx : Below w1.heap.size w1 (w1.alloc (.cells #[] 5)) := (Below.refl _ _).alloc (Nat.le_refl _) _
  obtain ⟨v2, w2, r2, o2, n2, g2⟩ := run_bytes2 (c := c) 28 (own_new w1 f) (by intro e; cases e) (((HB.out.below hb).first (m := 60) (by omega)).below hbx) (by intro e; cases e) (by omega) hbx.size
  have hb2 : Below w1.heap.size w1 w2 := (own_new w1 f).grown_below hbx (Nat.le_refl _) hbx.size g2
  rw [Nat.zero_add] at o2
  have o3 : Own w2 w1.heap.size v2 60 f := o2.congr fun i _ => by unfold behind; rw [if_neg (by omega)]; rfl
  have R2 := Lib.hid r2
  have O3 := Lib.hid (o3.row n2)
  have B2 : Hid (Below w.heap.size w w2) := Lib.hid (hb.trans (hb2.mono hb.size))
  have S1 := Lib.hid hb.size
  clear hr hy hb hbx r2 o2 o3 n2 g2 hb2
  go_wp2_with (at_builtin; refine Lib.wpList_append_run _ rfl (.tmp 20) (.tmp 22) _ _ rfl _ _ rfl rfl _ _ R2.out ?_)
  go_ret2
  obtain ⟨g5, cap5, cur5, e5, h5, r5⟩ := O3.out
  exact ⟨_, rfl, ⟨g5, cap5, cur5, e5, Nat.le_trans S1.out h5, r5⟩, B2.out⟩

end Go.Proofs.Ytmgeifolgdgapaa
