/- Bytes with some 0 behind are sealed as without them; unlike bytes are sealed unlike. For every input, no condition. -/
import Derived.Test.YtodejfkbiefeoaaSealAppend
import Derived.OwnWalk
namespace Go.Proofs.Ytodejfkbiefeoaa.sealPads
open Go.ChangeShapes Go.WideShapes Go.ChangeAt Go.RowKit

theorem pad_behind (f : Nat → Nat) (n k i : Nat) : pad (behind f n fun _ => 0) (n + k) i = pad f n i := by
  unfold pad behind
  by_cases h : i < n
  · simp [h, show i < n + k by omega]
  · simp [h]
theorem sec_behind (f : Nat → Nat) (n k i : Nat) : sec (behind f n fun _ => 0) (n + k) i = sec f n i := sec_congr (fun i _ => pad_behind f n k i) i
theorem behind_lt {f : Nat → Nat} {n : Nat} (h : ∀ i, i < n → f i < 256) (i : Nat) : behind f n (fun _ => 0) i < 256 := by
  unfold behind
  split
  · exact h i (by assumption)
  · show 0 < 256
    omega

theorem alike (f g : Nat → Nat) (n m : Nat) (hf : ∀ i, sec f n i < 256) (hg : ∀ i, sec g m i < 256) :
    ((str (sec g m) 60).toList == (str (sec f n) 60).toList) = ((str (sec f n) 64).toList == (str (sec g m) 64).toList) := by
  cases h : ((str (sec f n) 64).toList == (str (sec g m) 64).toList) with
  | true => exact str_same fun i hi => (str_inj (fun i _ => hf i) (fun i _ => hg i) h i (by omega)).symm
  | false =>
    cases h2 : ((str (sec g m) 60).toList == (str (sec f n) 60).toList) with
    | false => rfl
    | true =>
      have h3 : ∀ i, i < 60 → pad f n i = pad g m i := fun i hi => by
        have := str_inj (fun i _ => hg i) (fun i _ => hf i) h2 i hi
        rw [sec_low hi, sec_low hi] at this
        exact this.symm
      rw [str_same fun i _ => sec_congr h3 i] at h
      cases h

/-- What Close answers of any bytes: a sector, or that they are too many. -/
def Closed (w : World) (e : Ending) (w' : World) : Prop :=
  ∃ (v : Value) (x : Int), e = .returned (.tuple #[v, .int .i64 x]) ∧ Below w.heap.size w w'
theorem close_some (A : Option Addr) (n c : Nat) (f : Nat → Nat) (w : World) (hn : n ≤ 9223372036854775807) (h : BytesAt w A n f) :
    Calls Try.prog 14 #[.slice A n c] w (Closed w) := by
  by_cases hl : 60 < n
  · exact (close_long A n c w hn hl).mono fun e w' ⟨he, hw⟩ => ⟨_, _, he, by rw [← hw]; exact Below.refl _ _⟩
  · exact (close_any A n c f w (by omega) h).mono fun e w' ⟨v, he, _, hb⟩ => ⟨v, 0, he, hb⟩

/-- The bytes, and k times 0 behind them: what the two appends leave. -/
theorem both_appends (w : World) (A : Option Addr) (n c k : Nat) (f : Nat → Nat) (h : BytesAt w A n f) (hbare : A = none → c = 0) (hn : n + k ≤ 140737488355328) :
    ∃ v1 w1 v2 w2, (Builtin.append_ #[23, 23] 23 #[.slice (some ⟨w.heap.size, 0, none⟩) 0 0, .slice A n c]).run Try.prog (w.alloc (.cells #[] 5)) = .ok v1 w1 ∧
      (Builtin.append_ #[23, 3] 23 #[v1, .int .i64 (k : Int)]).run Try.prog w1 = .ok v2 w2 ∧
      (∃ g cap, v2 = .slice (some ⟨g, 0, none⟩) (n + k) cap ∧ BytesAt w2 (some ⟨g, 0, none⟩) (n + k) (behind f n fun _ => 0)) ∧ Below w.heap.size w w2 := by
  have hb0 : Below w.heap.size w (w.alloc (.cells #[] 5)) := (Below.refl _ _).alloc (Nat.le_refl _) _
  obtain ⟨v1, w1, r1, o1, n1, g1⟩ := run_bytes (c := c) 23 (own_new w f) (by intro e; cases e) (h.below hb0) hbare (by omega) hb0.size
  have hb1 : Below w.heap.size w w1 := (own_new w f).grown_below hb0 (Nat.le_refl _) hb0.size g1
  obtain ⟨v2, w2, r2, o2, n2, g2⟩ := run_zeros (k := k) 23 o1 n1 (by omega) hb1.size
  have hb2 : Below w.heap.size w w2 := o1.grown_below hb1 (Nat.le_refl _) hb1.size g2
  have hlt : ∀ i, behind (behind f 0 f) (0 + n) (fun _ => 0) i = behind f n (fun _ => 0) i := fun i => by
    unfold behind
    rw [Nat.zero_add]
    by_cases hi : i < n
    · rw [if_pos hi, if_pos hi, if_neg (by omega)]; rfl
    · rw [if_neg hi, if_neg hi]
  obtain ⟨g, cap, hv, _, _, _, _, hby⟩ := (o2.row n2).bytes (Nat.le_refl _) (fun i _ => by rw [hlt]; exact behind_lt h.small i)
  rw [Nat.zero_add] at hv hby
  refine ⟨v1, w1, v2, w2, r1, r2, ⟨g, cap, hv, ⟨fun i hi => behind_lt h.small i, fun i hi => ?_⟩⟩, hb2⟩
  obtain ⟨ad, e, hc⟩ := hby.cell i hi
  have e2 := hlt i
  rw [Nat.zero_add] at e2
  rw [e2] at hc
  exact ⟨ad, e, hc⟩

theorem text_long (A B : Option Addr) (n c m d : Nat) (f g : Nat → Nat) (q : Int) (w : World) (q0 : 0 ≤ q) (q1 : q ≤ 255) (h : BytesAt w A n f) (hbare : A = none → c = 0) (hs : BytesAt w B m g)
    (hn : 60 < n) (hr : n ≤ 140737488351232) (hm : m ≤ 140737488351232) :
    Calls Try.prog 8 #[.slice A n c, .slice B m d, .int .u8 q] w (Fresh (.bool true) w) := by
  obtain ⟨k, hk⟩ : ∃ k : Nat, q % 61 = (k : Int) := ⟨(q % 61).toNat, by omega⟩
  have k60 : k ≤ 60 := by omega
  obtain ⟨v1, w1, v2, w2, r1, r2, ⟨g2, cap2, hv, hby⟩, hb⟩ := both_appends w A n c k f h hbare (by omega)
  subst hv
  have R1 := Lib.hid r1
  have R2 := Lib.hid r2
  have HB := Lib.hid hb
  have S2 := Lib.hid (hs.below hb)
  clear r1 r2 hb h hs hby
  go_enter Try.func8, Try.ntmps8
  go_wp2_with fail
  with_reducible refine (close_long A n c _ (by omega) hn).mono ?_
  rintro e w' ⟨rfl, rfl⟩
  go_wp2_with (first
    | (at_builtin; refine Lib.wpList_append_run _ rfl (.tmp 23) (.tmp 24) _ _ rfl _ _ rfl rfl _ _ R1.out ?_)
    | (at_builtin; refine Lib.wpList_append_run _ rfl (.tmp 25) (.tmp 28) _ _ rfl _ _ rfl rfl _ _ R2.out ?_))
  have b2 := HB.out.size
  with_reducible refine (close_long (some ⟨g2, 0, none⟩) (n + k) cap2 _ (by omega) (by omega)).mono ?_
  rintro e w' ⟨rfl, rfl⟩
  go_wp2_with fail
  with_reducible refine (close_some B m d g _ (by omega) S2.out).mono ?_
  rintro e w3 ⟨z, x, rfl, hb3⟩
  have HB3 := Lib.hid hb3
  clear hb3
  go_wp2_with fail
  refine (awake_any _).mono ?_
  rintro e w4 ⟨rfl, hb4⟩
  have HB4 := Lib.hid hb4
  clear hb4
  go_wp2_with fail
  refine (awake_any _).mono ?_
  rintro e w5 ⟨rfl, hb5⟩
  go_wp2
  go_ret
  have h3 : Below w.heap.size w w3 := HB.out.trans (HB3.out.mono HB.out.size)
  have h4 : Below w.heap.size w w4 := h3.trans (HB4.out.mono h3.size)
  exact ⟨rfl, h4.trans (hb5.mono h4.size)⟩

theorem text_other (A B : Option Addr) (n c m d : Nat) (f g : Nat → Nat) (q : Int) (w : World) (q0 : 0 ≤ q) (q1 : q ≤ 255) (h : BytesAt w A n f) (hbare : A = none → c = 0) (hs : BytesAt w B m g)
    (hn : n ≤ 60) (hm : 60 < m) (hr : m ≤ 140737488351232) :
    Calls Try.prog 8 #[.slice A n c, .slice B m d, .int .u8 q] w (Fresh (.bool true) w) := by
  obtain ⟨k, hk⟩ : ∃ k : Nat, q % 61 = (k : Int) := ⟨(q % 61).toNat, by omega⟩
  have k60 : k ≤ 60 := by omega
  have H := Lib.hid h
  have HS := Lib.hid hs
  have F := Lib.hid (fun i => sec_lt h.small i)
  clear h hs
  go_enter Try.func8, Try.ntmps8
  go_wp2_with fail
  with_reducible refine (close_any A n c f _ hn H.out).mono ?_
  rintro e w0 ⟨x, rfl, hr0, hb0⟩
  obtain ⟨gx, cx, rfl, _, _, hcx, hcx2, hx⟩ := hr0.bytes (Nat.le_refl _) (fun i _ => F.out i)
  have X0 := Lib.hid hx
  have B0 := Lib.hid hb0
  clear hr0 hx hb0
  obtain ⟨v1, w1, v2, w2, r1, r2, ⟨g2, cap2, hv, hby⟩, hb⟩ := both_appends w0 A n c k f (H.out.below B0.out) hbare (by omega)
  subst hv
  have R1 := Lib.hid r1
  have R2 := Lib.hid r2
  have HB := Lib.hid hb
  have HY := Lib.hid hby
  clear r1 r2 hb hby
  have B2 : Hid (Below w.heap.size w w2) := Lib.hid (B0.out.trans (HB.out.mono B0.out.size))
  have X2 := Lib.hid (X0.out.below HB.out)
  go_wp2_with (first
    | (at_builtin; refine Lib.wpList_append_run _ rfl (.tmp 23) (.tmp 24) _ _ rfl _ _ rfl rfl _ _ R1.out ?_)
    | (at_builtin; refine Lib.wpList_append_run _ rfl (.tmp 25) (.tmp 28) _ _ rfl _ _ rfl rfl _ _ R2.out ?_))
  with_reducible refine (close_some (some ⟨g2, 0, none⟩) (n + k) cap2 _ _ (by omega) HY.out).mono ?_
  rintro e w3 ⟨y, x3, rfl, hb3⟩
  have B3 : Hid (Below w.heap.size w w3) := Lib.hid (B2.out.trans (hb3.mono B2.out.size))
  clear hb3
  go_wp2_with fail
  with_reducible refine (close_long B m d _ (by omega) hm).mono ?_
  rintro e w' ⟨rfl, rfl⟩
  go_wp2_with fail
  refine (awake_any _).mono ?_
  rintro e w4 ⟨rfl, hb4⟩
  have B4 : Hid (Below w.heap.size w w4) := Lib.hid (B3.out.trans (hb4.mono B3.out.size))
  clear hb4
  go_wp2_with fail
  refine (awake_any _).mono ?_
  rintro e w5 ⟨rfl, hb5⟩
  go_wp2
  go_ret
  exact ⟨rfl, B4.out.trans (hb5.mono B4.out.size)⟩

theorem text_fits (A B : Option Addr) (n c m d : Nat) (f g : Nat → Nat) (q : Int) (w : World) (q0 : 0 ≤ q) (q1 : q ≤ 255) (h : BytesAt w A n f) (hbare : A = none → c = 0) (hs : BytesAt w B m g)
    (hn : n ≤ 60) (hm : m ≤ 60) (hnk : n + (q % 61).toNat ≤ 60) :
    Calls Try.prog 8 #[.slice A n c, .slice B m d, .int .u8 q] w (Fresh (.bool true) w) := by
  obtain ⟨k, hk⟩ : ∃ k : Nat, q % 61 = (k : Int) := ⟨(q % 61).toNat, by omega⟩
  have k60 : k ≤ 60 := by omega
  rw [hk, Int.toNat_natCast] at hnk
  have H := Lib.hid h
  have HS := Lib.hid hs
  have F := Lib.hid (fun i => sec_lt h.small i)
  clear h hs
  go_enter Try.func8, Try.ntmps8
  go_wp2_with fail
  with_reducible refine (close_any A n c f _ hn H.out).mono ?_
  rintro e w0 ⟨x, rfl, hr0, hb0⟩
  obtain ⟨gx, cx, rfl, _, _, hcx, hcx2, hx⟩ := hr0.bytes (Nat.le_refl _) (fun i _ => F.out i)
  have X0 := Lib.hid hx
  have B0 := Lib.hid hb0
  clear hr0 hx hb0
  obtain ⟨v1, w1, v2, w2, r1, r2, ⟨g2, cap2, hv, hby⟩, hb⟩ := both_appends w0 A n c k f (H.out.below B0.out) hbare (by omega)
  subst hv
  have R1 := Lib.hid r1
  have R2 := Lib.hid r2
  have HB := Lib.hid hb
  have HY := Lib.hid hby
  clear r1 r2 hb hby
  have B2 : Hid (Below w.heap.size w w2) := Lib.hid (B0.out.trans (HB.out.mono B0.out.size))
  have X2 := Lib.hid (X0.out.below HB.out)
  go_wp2_with (first
    | (at_builtin; refine Lib.wpList_append_run _ rfl (.tmp 23) (.tmp 24) _ _ rfl _ _ rfl rfl _ _ R1.out ?_)
    | (at_builtin; refine Lib.wpList_append_run _ rfl (.tmp 25) (.tmp 28) _ _ rfl _ _ rfl rfl _ _ R2.out ?_))
  with_reducible refine (close_any (some ⟨g2, 0, none⟩) (n + k) cap2 _ _ hnk HY.out).mono ?_
  rintro e w3 ⟨y, rfl, hr3, hb3⟩
  obtain ⟨gy, cy, rfl, _, _, hcy, hcy2, hy⟩ := hr3.bytes (Nat.le_refl _) (fun i _ => by rw [sec_behind]; exact F.out i)
  have Y3 := Lib.hid hy
  have X3 := Lib.hid (X2.out.below hb3)
  have B3 : Hid (Below w.heap.size w w3) := Lib.hid (B2.out.trans (hb3.mono B2.out.size))
  clear hr3 hy hb3 X2 B2 HY HB
  have Z3 := Lib.hid (HS.out.below B3.out)
  have G := Lib.hid (fun i => sec_lt HS.out.small i)
  go_wp2_with fail
  with_reducible refine (close_any B m d g _ hm Z3.out).mono ?_
  rintro e w4 ⟨z, rfl, hr4, hb4⟩
  obtain ⟨gz, cz, rfl, _, _, hcz, hcz2, hz⟩ := hr4.bytes (Nat.le_refl _) (fun i _ => G.out i)
  have Z4 := Lib.hid hz
  have X4 := Lib.hid (X3.out.below hb4)
  have Y4 := Lib.hid (Y3.out.below hb4)
  have B4 : Hid (Below w.heap.size w w4) := Lib.hid (B3.out.trans (hb4.mono B3.out.size))
  clear hr4 hz hb4 X3 B3 Z3
  go_wp2_with fail
  refine (awake_any _).mono ?_
  rintro e w5 ⟨rfl, hb5⟩
  have Z5 := Lib.hid (Z4.out.below hb5)
  have X5 := Lib.hid (X4.out.below hb5)
  have Y5 := Lib.hid (Y4.out.below hb5)
  have B5 : Hid (Below w.heap.size w w5) := Lib.hid (B4.out.trans (hb5.mono B4.out.size))
  clear hb5 Z4 X4 B4
  obtain ⟨X, eX⟩ : ∃ X, X = str (sec f n) 64 := ⟨_, rfl⟩
  obtain ⟨Z, eZ⟩ : ∃ Z, Z = str (sec g m) 64 := ⟨_, rfl⟩
  obtain ⟨O, eO⟩ : ∃ O, O = str (sec g m) 60 := ⟨_, rfl⟩
  obtain ⟨Q, eQ⟩ : ∃ Q, Q = str (sec f n) 60 := ⟨_, rfl⟩
  have d1 : (convert 23 9 (.slice (some ⟨gx, 0, none⟩) 64 cx)).run Try.prog w5 = .ok (.string X) w5 := by rw [eX]; exact conv_str cx X5.out
  have d2 : (convert 23 9 (.slice (some ⟨gy, 0, none⟩) 64 cy)).run Try.prog w5 = .ok (.string X) w5 := by
    rw [eX, ← str_congr (fun i _ => sec_behind f n k i)]
    exact conv_str cy Y5.out
  have hsame : (O.toList == Q.toList) = (X.toList == Z.toList) := by rw [eX, eZ, eO, eQ]; exact alike f g n m F.out G.out
  obtain ⟨b, hb1⟩ : ∃ b, (X.toList == Z.toList) = b := ⟨_, rfl⟩
  rw [hb1] at hsame
  have S1 := Lib.hid hb1
  have S2 := Lib.hid hsame
  have EX := Lib.hid eX
  have EZ := Lib.hid eZ
  have EO := Lib.hid eO
  have EQ := Lib.hid eQ
  clear hb1 hsame eX eZ eO eQ
  go_wp2_with fail
  with_reducible refine (open_ok ⟨gz, 0, none⟩ cz _ w5 hcz hcz2 Z5.out (fun i _ => sec_sealed g m i)).mono ?_
  rintro e w6 ⟨o, rfl, hr6, hb6⟩
  obtain ⟨go, co, rfl, _, _, _, _, ho⟩ := hr6.bytes (Nat.le_refl _) (fun i _ => G.out i)
  have O6 := Lib.hid ho
  have X6 := Lib.hid (X5.out.below hb6)
  have Z6 := Lib.hid (Z5.out.below hb6)
  have B6 : Hid (Below w.heap.size w w6) := Lib.hid (B5.out.trans (hb6.mono B5.out.size))
  clear hr6 ho hb6 X5 Z5 B5 d1 d2
  go_wp2_with fail
  with_reducible refine (open_ok ⟨gx, 0, none⟩ cx _ w6 hcx hcx2 X6.out (fun i _ => sec_sealed f n i)).mono ?_
  rintro e w7 ⟨q7, rfl, hr7, hb7⟩
  obtain ⟨gq, cq, rfl, _, _, _, _, hq⟩ := hr7.bytes (Nat.le_refl _) (fun i _ => F.out i)
  have B7 : Hid (Below w.heap.size w w7) := Lib.hid (B6.out.trans (hb7.mono B6.out.size))
  have c1 : (convert 23 9 (.slice (some ⟨go, 0, none⟩) 60 co)).run Try.prog w7 = .ok (.string O) w7 := by rw [EO.out]; exact conv_str co (O6.out.below hb7)
  have c2 : (convert 23 9 (.slice (some ⟨gq, 0, none⟩) 60 cq)).run Try.prog w7 = .ok (.string Q) w7 := by rw [EQ.out]; exact conv_str cq hq
  have c3 : (convert 23 9 (.slice (some ⟨gx, 0, none⟩) 64 cx)).run Try.prog w7 = .ok (.string X) w7 := by rw [EX.out]; exact conv_str cx (X6.out.below hb7)
  have c4 : (convert 23 9 (.slice (some ⟨gz, 0, none⟩) 64 cz)).run Try.prog w7 = .ok (.string Z) w7 := by rw [EZ.out]; exact conv_str cz (Z6.out.below hb7)
  clear hr7 hq hb7
  have s1 := S1.out
  have s2 := S2.out
  cases b with
  | true =>
    go_wp2
    go_ret
    exact ⟨rfl, B7.out⟩
  | false =>
    go_wp2
    go_ret
    exact ⟨rfl, B7.out⟩

theorem text_over (A B : Option Addr) (n c m d : Nat) (f g : Nat → Nat) (q : Int) (w : World) (q0 : 0 ≤ q) (q1 : q ≤ 255) (h : BytesAt w A n f) (hbare : A = none → c = 0) (hs : BytesAt w B m g)
    (hn : n ≤ 60) (hm : m ≤ 60) (hnk : 60 < n + (q % 61).toNat) :
    Calls Try.prog 8 #[.slice A n c, .slice B m d, .int .u8 q] w (Fresh (.bool true) w) := by
  obtain ⟨k, hk⟩ : ∃ k : Nat, q % 61 = (k : Int) := ⟨(q % 61).toNat, by omega⟩
  have k60 : k ≤ 60 := by omega
  rw [hk, Int.toNat_natCast] at hnk
  have ho : decide ((60 : Int) < (n : Int) + (k : Int)) = true := by simp; omega
  have H := Lib.hid h
  have HS := Lib.hid hs
  have F := Lib.hid (fun i => sec_lt h.small i)
  clear h hs
  go_enter Try.func8, Try.ntmps8
  go_wp2_with fail
  with_reducible refine (close_any A n c f _ hn H.out).mono ?_
  rintro e w0 ⟨x, rfl, hr0, hb0⟩
  obtain ⟨gx, cx, rfl, _, _, hcx, hcx2, hx⟩ := hr0.bytes (Nat.le_refl _) (fun i _ => F.out i)
  have X0 := Lib.hid hx
  have B0 := Lib.hid hb0
  clear hr0 hx hb0
  obtain ⟨v1, w1, v2, w2, r1, r2, ⟨g2, cap2, hv, hby⟩, hb⟩ := both_appends w0 A n c k f (H.out.below B0.out) hbare (by omega)
  subst hv
  have R1 := Lib.hid r1
  have R2 := Lib.hid r2
  have HB := Lib.hid hb
  have HY := Lib.hid hby
  clear r1 r2 hb hby
  have B2 : Hid (Below w.heap.size w w2) := Lib.hid (B0.out.trans (HB.out.mono B0.out.size))
  have X2 := Lib.hid (X0.out.below HB.out)
  go_wp2_with (first
    | (at_builtin; refine Lib.wpList_append_run _ rfl (.tmp 23) (.tmp 24) _ _ rfl _ _ rfl rfl _ _ R1.out ?_)
    | (at_builtin; refine Lib.wpList_append_run _ rfl (.tmp 25) (.tmp 28) _ _ rfl _ _ rfl rfl _ _ R2.out ?_))
  with_reducible refine (close_long (some ⟨g2, 0, none⟩) (n + k) cap2 w2 (by omega) hnk).mono ?_
  rintro e w3 ⟨rfl, rfl⟩
  have X3 := X2
  have B3 := B2
  clear X2 B2 HY HB
  have Z3 := Lib.hid (HS.out.below B3.out)
  have G := Lib.hid (fun i => sec_lt HS.out.small i)
  go_wp2_with fail
  with_reducible refine (close_any B m d g _ hm Z3.out).mono ?_
  rintro e w4 ⟨z, rfl, hr4, hb4⟩
  obtain ⟨gz, cz, rfl, _, _, hcz, hcz2, hz⟩ := hr4.bytes (Nat.le_refl _) (fun i _ => G.out i)
  have Z4 := Lib.hid hz
  have X4 := Lib.hid (X3.out.below hb4)
  have B4 : Hid (Below w.heap.size w w4) := Lib.hid (B3.out.trans (hb4.mono B3.out.size))
  clear hr4 hz hb4 X3 B3 Z3
  go_wp2_with fail
  refine (awake_any _).mono ?_
  rintro e w5 ⟨rfl, hb5⟩
  have Z5 := Lib.hid (Z4.out.below hb5)
  have X5 := Lib.hid (X4.out.below hb5)
  have B5 : Hid (Below w.heap.size w w5) := Lib.hid (B4.out.trans (hb5.mono B4.out.size))
  clear hb5 Z4 X4 B4
  obtain ⟨X, eX⟩ : ∃ X, X = str (sec f n) 64 := ⟨_, rfl⟩
  obtain ⟨Z, eZ⟩ : ∃ Z, Z = str (sec g m) 64 := ⟨_, rfl⟩
  obtain ⟨O, eO⟩ : ∃ O, O = str (sec g m) 60 := ⟨_, rfl⟩
  obtain ⟨Q, eQ⟩ : ∃ Q, Q = str (sec f n) 60 := ⟨_, rfl⟩
  have hsame : (O.toList == Q.toList) = (X.toList == Z.toList) := by rw [eX, eZ, eO, eQ]; exact alike f g n m F.out G.out
  obtain ⟨b, hb1⟩ : ∃ b, (X.toList == Z.toList) = b := ⟨_, rfl⟩
  rw [hb1] at hsame
  have S1 := Lib.hid hb1
  have S2 := Lib.hid hsame
  have EX := Lib.hid eX
  have EZ := Lib.hid eZ
  have EO := Lib.hid eO
  have EQ := Lib.hid eQ
  clear hb1 hsame eX eZ eO eQ
  go_wp2_with fail
  with_reducible refine (open_ok ⟨gz, 0, none⟩ cz _ w5 hcz hcz2 Z5.out (fun i _ => sec_sealed g m i)).mono ?_
  rintro e w6 ⟨o, rfl, hr6, hb6⟩
  obtain ⟨go, co, rfl, _, _, _, _, ho⟩ := hr6.bytes (Nat.le_refl _) (fun i _ => G.out i)
  have O6 := Lib.hid ho
  have X6 := Lib.hid (X5.out.below hb6)
  have Z6 := Lib.hid (Z5.out.below hb6)
  have B6 : Hid (Below w.heap.size w w6) := Lib.hid (B5.out.trans (hb6.mono B5.out.size))
  clear hr6 ho hb6 X5 Z5 B5 
  go_wp2_with fail
  with_reducible refine (open_ok ⟨gx, 0, none⟩ cx _ w6 hcx hcx2 X6.out (fun i _ => sec_sealed f n i)).mono ?_
  rintro e w7 ⟨q7, rfl, hr7, hb7⟩
  obtain ⟨gq, cq, rfl, _, _, _, _, hq⟩ := hr7.bytes (Nat.le_refl _) (fun i _ => F.out i)
  have B7 : Hid (Below w.heap.size w w7) := Lib.hid (B6.out.trans (hb7.mono B6.out.size))
  have c1 : (convert 23 9 (.slice (some ⟨go, 0, none⟩) 60 co)).run Try.prog w7 = .ok (.string O) w7 := by rw [EO.out]; exact conv_str co (O6.out.below hb7)
  have c2 : (convert 23 9 (.slice (some ⟨gq, 0, none⟩) 60 cq)).run Try.prog w7 = .ok (.string Q) w7 := by rw [EQ.out]; exact conv_str cq hq
  have c3 : (convert 23 9 (.slice (some ⟨gx, 0, none⟩) 64 cx)).run Try.prog w7 = .ok (.string X) w7 := by rw [EX.out]; exact conv_str cx (X6.out.below hb7)
  have c4 : (convert 23 9 (.slice (some ⟨gz, 0, none⟩) 64 cz)).run Try.prog w7 = .ok (.string Z) w7 := by rw [EZ.out]; exact conv_str cz (Z6.out.below hb7)
  clear hr7 hq hb7
  have s1 := S1.out
  have s2 := S2.out
  cases b with
  | true =>
    go_wp2
    go_ret
    exact ⟨rfl, B7.out⟩
  | false =>
    go_wp2
    go_ret
    exact ⟨rfl, B7.out⟩

set_option linter.unusedVariables false in
theorem walk (w : World) (A0 : Option Addr) (n0 c0 : Nat) (Z0 : List Int) (s0 : IntsIn w .u8 A0 n0 c0 Z0) (r0 : n0 * 1 ≤ 140737488351232) (A1 : Option Addr) (n1 c1 : Nat) (Z1 : List Int) (s1 : IntsIn w .u8 A1 n1 c1 Z1) (r1 : n1 * 1 ≤ 140737488351232) (a2 : Int) (w2 : (Lit.int .u8 a2).wf = true) :
    Calls Try.prog 8 #[.slice A0 n0 c0, .slice A1 n1 c1, .int .u8 a2] w (Fresh (.bool true) w) := by
  have h2 : IntKind.u8.min ≤ a2 ∧ a2 ≤ IntKind.u8.max := by simpa [Lit.wf] using w2
  by_cases hn : 60 < n0
  · exact text_long A0 A1 n0 c0 n1 c1 _ _ a2 w h2.1 h2.2 (bytes_in s0) (bare_of s0) (bytes_in s1) hn (by omega) (by omega)
  · by_cases hm : 60 < n1
    · exact text_other A0 A1 n0 c0 n1 c1 _ _ a2 w h2.1 h2.2 (bytes_in s0) (bare_of s0) (bytes_in s1) (by omega) hm (by omega)
    · by_cases hk : n0 + (a2 % 61).toNat ≤ 60
      · exact text_fits A0 A1 n0 c0 n1 c1 _ _ a2 w h2.1 h2.2 (bytes_in s0) (bare_of s0) (bytes_in s1) (by omega) (by omega) hk
      · exact text_over A0 A1 n0 c0 n1 c1 _ _ a2 w h2.1 h2.2 (bytes_in s0) (bare_of s0) (bytes_in s1) (by omega) (by omega) (by omega)

/-! ### the law's end -/
set_option linter.unusedVariables false
theorem own : ownKnob Try.prog.godebug = none := by kernel_rfl
theorem laidOut : laidOutB Try.prog = true := by kernel_rfl
set_option maxRecDepth 100000 in
theorem lifted (os : Os) (started : os.Started) (H : Type) (enc : TypeId × Value → H) :
    ReturnsInHanded {} Try.checked os 8 .any (Rows.sealPadsSpec.pre6 enc Try.prog Try.f8 Rows.sealPadsRow.domain false) (Rows.sealPadsSpec.post enc Try.prog Try.f8 false true false false) := by
  refine returnsInHanded_of_change_sized (C := Try.checked) own started (by kernel_rfl) Try.func8
    (ChangeSpec.witness6 (enc := enc) (C := Try.checked) false ⟨#[], #[.slice none 0 0, .slice none 0 0, .int .u8 0], []⟩ 8 (by kernel_rfl) (by kernel_rfl) (by kernel_rfl) (by kernel_rfl)) ?_
  intro W base args ds gs before hval0 hW _ hsz0 _
  have hsz : (DataW.weightsEach Try.prog (Try.f8.params.toList ++ Rows.sealPadsSpec.plain.varTypes Try.prog) (ds ++ gs)).all (· ≤ reachBytes) = true := hsz0
  clear hsz0
  have hval : ∀ (j : Nat) t v, Try.f8.params[j]? = some t → args[j]? = some v → Value.okWide Try.prog W .any base t v := hval0
  have hW' := hW
  obtain ⟨p, q, hA0, hV, rfl, _, _⟩ := hW
  have hA : DataW.TrodAll enc Try.prog W 0 (fun _ => true) true Try.f8.params.toList args.toList ds p := hA0
  rw [Try.params8] at hA hval hsz
  obtain ⟨v0, vs0, d0, ds0, p0, q0, hargs, rfl, rfl, h0, u0⟩ := trodAll_cons hA
  obtain ⟨v1, vs1, d1, ds1, p1, q1, rfl, rfl, rfl, h1, u1⟩ := trodAll_cons u0
  obtain ⟨v2, vs2, d2, ds2, p2, q2, rfl, rfl, rfl, h2, u2⟩ := trodAll_cons u1
  obtain ⟨rfl, rfl, rfl⟩ := trodAll_nil u2
  obtain rfl : args = #[v0, v1, v2] := by cases args; simp_all
  obtain ⟨rfl, rfl⟩ := trodVars_none hV
  clear hA0 hval0
  obtain ⟨A0, n0, c0, rfl⟩ := okWide_slice Try.underlying23 (hval 0 23 v0 rfl rfl)
  have k0 := h0
  obtain ⟨Z0, s0, z0⟩ := view_ints Try.underlying23 Try.underlying5 (by kernel_rfl) h0
  have r0 := reach_of (b := 1) hsz (j := 0) (t := 23) (e := 5) rfl rfl Try.underlying23 (by kernel_rfl) z0
  obtain ⟨A1, n1, c1, rfl⟩ := okWide_slice Try.underlying23 (hval 1 23 v1 rfl rfl)
  have k1 := h1
  obtain ⟨Z1, s1, z1⟩ := view_ints Try.underlying23 Try.underlying5 (by kernel_rfl) h1
  have r1 := reach_of (b := 1) hsz (j := 1) (t := 23) (e := 5) rfl rfl Try.underlying23 (by kernel_rfl) z1
  have k2 := h2
  obtain ⟨a2, rfl, rfl, rfl, w2⟩ := open_int Try.underlying5 (hval 2 5 v2 rfl rfl) h2
  simp only [List.append_nil] at hW'
  have hlt : ∀ x ∈ p0 ++ p1, x.block < W.heap.size := fun x hx => by simpa using hW'.lt x (by simpa using hx)
  refine (walk W A0 n0 c0 Z0 s0 r0 A1 n1 c1 Z1 s1 r1 a2 w2).mono fun e W' ⟨he, hb⟩ => ?_
  subst he
  exact ⟨_, rfl, _, _, _, [], _, [], hW', (trodAll_cons_mk (shut_bool Try.underlying4 _) trodAll_mk0), (trodAll_cons_mk (Below.trod laidOut (by kernel_rfl) (of_decide_eq_true (by kernel_rfl)) k0 hb (fun x hx => hlt x (by simp [hx]))) (trodAll_cons_mk (Below.trod laidOut (by kernel_rfl) (of_decide_eq_true (by kernel_rfl)) k1 hb (fun x hx => hlt x (by simp [hx]))) (trodAll_cons_mk (Below.trod laidOut (by kernel_rfl) (of_decide_eq_true (by kernel_rfl)) k2 hb (fun x hx => (by cases hx))) trodAll_mk0))), rfl, hb.frame _, fun h => by cases h⟩

theorem over : Rows.sealPadsRow.holds Try.pinned (OpenSpec.ofChange Rows.sealPadsSpec) :=
  OpenClaim.holds_of_wide 8 Try.f8 rfl rfl rfl rfl rfl rfl rfl ⟨rfl, rfl, rfl, rfl, rfl⟩ rfl rfl rfl rfl rfl (by kernel_rfl) Try.func8 (by kernel_rfl)
    (of_decide_eq_true (by kernel_rfl)) (by unfold Func.isWrapper; first | (rw [if_pos (by decide +kernel)]; kernel_rfl) | (rw [if_neg (by decide +kernel)]; exact ⟨rfl, rfl⟩))
    (fun os started H enc _ => lifted os started H enc)

theorem proved : Rows.SealPadsSaid := over
#print axioms proved
end Go.Proofs.Ytodejfkbiefeoaa.sealPads
