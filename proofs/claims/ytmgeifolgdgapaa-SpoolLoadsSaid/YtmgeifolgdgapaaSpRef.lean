
/- The statement's own words for sectors of deltas: a sector made of deltas, and what a sector says. -/
import Derived.Test.YtmgeifolgdgapaaMerge11
import Derived.Test.YtmgeifolgdgapaaCellRef
import Derived.Test.YtmgeifolgdgapaaMerge6
namespace Go.Proofs.Ytmgeifolgdgapaa
open Go.RowKit

theorem ownD_new (w : World) (ds : Nat → Del) : OwnD (w.alloc (.cells #[] 52)) w.heap.size (.slice (some ⟨w.heap.size, 0, none⟩) 0 0) 0 ds :=
  World.ownsRow_lit w #[] 0 (Nat.le_refl _) (by decide) rfl

set_option maxRecDepth 100000 in
set_option maxHeartbeats 2000000 in
theorem lawSector_ok (v : Value) (n q m : Nat) (ds : Nat → Del) (w : World) (hn : n ≤ 10) (hq : q < 4294967296) (hm : m < 256) (hv : ReadsD w v n ds) (hg : ∀ i, i < n → Valid (ds i)) :
    Calls Try.prog 11 #[.int .i64 (q : Int), .int .i64 (m : Int), v] w (Fresh (.string (str (spS q m n ds) 64)) w) := by
  obtain ⟨A, c, rfl, p1, p2, p3, p4⟩ := id hv
  have HV := Lib.hid hv
  have HG := Lib.hid hg
  have PT : Hid (Calls Try.prog 25 #[.slice none 0 0, .int .i64 4, .int .i64 (q : Int)] w fun e w' => ∃ u, e = .returned (.tuple #[u, .int .i64 0]) ∧ Own w' w.heap.size u (0 + 4) (behind (fun _ => 0) 0 (dig q 4)) ∧ Below w.heap.size w w') :=
    Lib.hid (refPut_own (.slice none 0 0) 0 (fun _ => 0) 4 q w (by omega) (by omega) (by omega) (reads_none _ _) (by omega))
  clear hv hg p4
  go_enter Try.func11, Try.ntmps11
  go_wp2_with fail
  with_reducible refine PT.out.mono ?_
  rintro e w1 ⟨v1, rfl, ho1, hb1⟩
  have hx1 : Below w.heap.size w (w1.alloc (.cells #[.int .u8 (m : Int), .int .u8 (n : Int)] 5)) := hb1.alloc hb1.size _
  obtain ⟨v2, w2, r2, o2, n2, g2⟩ := run_bytes (c := 2) 28 (ho1.alloc (.cells #[.int .u8 (m : Int), .int .u8 (n : Int)] 5)) (duo_new w1 m n hm (by omega)) (by intro e; cases e) (by omega) hx1.size
  have hb2 : Below w.heap.size w w2 := (ho1.alloc (.cells #[.int .u8 (m : Int), .int .u8 (n : Int)] 5)).grown_below hx1 (Nat.le_refl _) hx1.size g2
  have O2 : Hid (SpLoop q m n ds 0 w v2 w2) := Lib.hid ⟨o2.congr fun i hi => by
    unfold spB
    rw [behind_low (n := 6) (by omega)]
    unfold behind
    by_cases h4 : i < 4
    · rw [if_pos (by omega), if_neg (by omega), if_pos h4]
      rfl
    · rw [if_neg (by omega), if_neg h4], hb2⟩
  have R2 := Lib.hid r2
  clear r2 o2 n2 g2 hb2 hx1 ho1 hb1 PT
  go_wp2_with (at_builtin; refine Lib.wpList_append_run _ rfl (.tmp 19) (.tmp 25) _ _ rfl _ _ rfl rfl _ _ R2.out ?_)
  clear R2
  go_loopw [7, 9] (fun u x wr => ∃ i : Nat, i ≤ n ∧ x = .int .i64 (i : Int) ∧ SpLoop q m n ds i w u wr) (fun _ x _ => n - (intOf x).toNat)
  case atStart => exact ⟨0, by omega, rfl, O2.out⟩
  case round =>
    obtain ⟨i, hi, rfl, ho, hb⟩ := hrel
    have HO := Lib.hid ho
    have HB := Lib.hid hb
    clear ho hb O2
    by_cases hk : i < n
    · have hA : ∃ ad, A = some ad := by
        obtain ⟨A', c', e, _, _, _, h4⟩ := HV.out
        cases e
        obtain ⟨ad, e1, _⟩ := h4 i hk
        exact ⟨ad, e1⟩
      obtain ⟨ad, rfl⟩ := hA
      have h5 := ReadsD.five (HV.out.below HB.out) hk
      obtain ⟨D, hD⟩ : ∃ D, D = ds i := ⟨_, rfl⟩
      rw [← hD] at h5
      obtain ⟨c0, c1, c2, c3, c4⟩ := h5
      have VD : Hid (Valid D) := Lib.hid (by rw [hD]; exact HG.out i hk)
      have ED := Lib.hid hD
      clear hD
      have EN := fun W => refEncodeD_ok D VD.out W
      obtain ⟨k, v, o, b, x, y⟩ := D
      dsimp only at c0 c1 c2 c3 c4
      have HE : Hid (∀ W, Calls Try.prog 26 #[.agg #[.int .i64 (k : Int), .int .i64 (v : Int), .int .i64 (o : Int), .int .i64 (b : Int), .complex .f64 (fl x) (fl y)]] W fun e w' => ∃ g, e = .returned (.tuple #[.slice (some ⟨g, 0, none⟩) 5 5, .int .i64 0]) ∧ Lies w' g (encD ⟨k, v, o, b, x, y⟩) 5 ∧ W.heap.size ≤ g ∧ Below W.heap.size W w') := Lib.hid EN
      clear EN
      go_wp2_with fail
      with_reducible refine (HE.out _).mono ?_
      rintro e w3 ⟨gb, rfl, hl3, -, hb4⟩
      have hb5 : Below w.heap.size w w3 := HB.out.trans (hb4.mono HB.out.size)
      obtain ⟨v6, w6, r6, o6, n6, g6⟩ := run_bytes (c := 5) 28 (owns_later HO.out hb4) (hl3.bytes (Nat.le_refl 5) fun j _ => encD_lt VD.out j) (by intro e; cases e) (by omega) hb5.size
      have hb6 : Below w.heap.size w w6 := Own.grown_below (owns_later HO.out hb4) hb5 (Nat.le_refl _) hb5.size g6
      have O6 : Hid (SpLoop q m n ds (i + 1) w v6 w6) := Lib.hid ⟨Own.congr (n := 6 + 5 * i + 5) o6 fun j hj => by
        by_cases h6 : j < 6 + 5 * i
        · rw [behind_low h6]
        · rw [behind_high (by omega), ED.out]
          unfold spB
          rw [behind_high (n := 6) (by omega), ← encs_at ds (show j - (6 + 5 * i) < 5 by omega)]
          congr 1
          omega, hb6⟩
      have R6 := Lib.hid r6
      clear c0 c1 c2 c3 c4 hb4 hb5 hl3 r6 o6 n6 g6 hb6
      go_wp2_with (at_builtin; refine Lib.wpList_append_run _ rfl (.tmp 41) (.tmp 42) _ _ rfl _ _ rfl rfl _ _ R6.out ?_)
      go_roundw
      case rel => exact ⟨i + 1, by omega, by go_num, O6.out⟩
      case measure => simp [intOf]; omega
    · obtain rfl : i = n := by omega
      have hs := spB_lt (q := q) hm (show i < 256 by omega) HG.out
      obtain ⟨Ab, cb, eb, b1, b2, b3, b4⟩ := Own.reads HO.out hs
      rw [eb]
      have CL := Lib.hid (refClose_any Ab (6 + 5 * i) cb (spB q m i ds) wr (by omega) b4 b3)
      clear b4 hs
      go_wp2_with fail
      with_reducible refine CL.out.mono ?_
      rintro e w3 ⟨u, rfl, hu, hb3⟩
      obtain ⟨gu, cu, rfl, _, _, u1, u2, u3⟩ := hu.bytes (Nat.le_refl _) fun j _ => spS_lt (q := q) hm (show i < 256 by omega) HG.out j
      have cs := conv_str cu u3
      have HB3 := Lib.hid hb3
      clear hu hb3 u1 u2 u3
      obtain ⟨X, hX⟩ : ∃ X, X = str (sec (spB q m i ds) (6 + 5 * i)) 64 := ⟨_, rfl⟩
      rw [← hX] at cs
      have HX := Lib.hid hX
      clear hX
      go_wp2
      go_ret
      exact ⟨by rw [HX.out]; rfl, HB.out.trans (HB3.out.mono HB.out.size)⟩

/-- What the statement's read answers of a sector. -/
def Told15 (f : Nat → Nat) : Prop := Sealed 64 f ∧ 1 ≤ f 5 ∧ f 5 ≤ 6 ∧ ∀ i, i < f 5 → Valid (sdel f i)
def ReadA (f : Nat → Nat) (w : World) (e : Ending) (w' : World) : Prop :=
  Below w.heap.size w w' ∧ ((Told15 f ∧ ∃ v, e = .returned (.tuple #[v, .bool true]) ∧ OwnD w' w.heap.size v (f 5) (sdel f)) ∨ (¬ Told15 f ∧ e = .returned (.tuple #[.slice none 0 0, .bool false])))
theorem told_is {f : Nat → Nat} {q m : Nat} (h : IsSp f q m) : Told15 f := ⟨h.sealed, h.1, h.2.1, h.2.2.1⟩

def ReadLoop (f : Nat → Nat) (i : Nat) (w : World) (b : Nat) (v : Value) (wr : World) : Prop :=
  OwnD wr b v i (sdel f) ∧ (∀ k, k < i → Valid (sdel f k)) ∧ Below w.heap.size w wr
set_option maxRecDepth 100000 in
set_option maxHeartbeats 2000000 in
theorem lawRead_any (v : Value) (f : Nat → Nat) (w : World) (hv : Reads w v 64 f) :
    Calls Try.prog 10 #[v] w (ReadA f w) := by
  have OP := Lib.hid (refOpen_any v 64 f w hv)
  have hst := put_complex
  obtain ⟨A0, c0, rfl, _, _, _, hb0⟩ := hv
  have HSM := Lib.hid hb0.small
  clear hb0
  go_enter Try.func10, Try.ntmps10
  go_wp2_with fail
  with_reducible refine OP.out.mono ?_
  rintro e w1 (⟨hse, u, rfl, hu, hb1⟩ | ⟨hse, x, hx, rfl, hb1⟩)
  · obtain ⟨gu, cu, rfl, g1, g2, u1, u2, u3⟩ := hu.bytes (Nat.le_refl _) fun j hj => HSM.out j (by omega)
    obtain ⟨N, hN⟩ : ∃ N, N = f 5 := ⟨_, rfl⟩
    have h256 : N < 256 := by rw [hN]; exact HSM.out 5 (by omega)
    have hc5 : w1.cell? ⟨gu, 5, none⟩ = some (.int .u8 (f 5 : Int)) := by have h := u3.at_ (i := 5) (by omega); rw [add_nil] at h; exact h
    rw [← hN] at hc5
    have HN := Lib.hid hN
    have U3 := Lib.hid u3
    have B1 := Lib.hid hb1
    have SE := Lib.hid hse
    clear hN u3 hb1 hu hse
    by_cases h1 : 1 ≤ N
    · have d1 : decide ((N : Int) < 1) = false := by simp; omega
      by_cases h6 : N ≤ 6
      · have d6 : decide ((6 : Int) < (N : Int)) = false := by simp; omega
        have L0 : Hid (ReadLoop f 0 w w1.heap.size (.slice (some ⟨w1.heap.size, 0, none⟩) 0 0) (w1.alloc (.cells #[] 52))) := Lib.hid ⟨ownD_new w1 _, (fun k hk => absurd hk (Nat.not_lt_zero k)), B1.out.alloc B1.out.size _⟩
        go_wp2
        clear hc5
        go_loopw [6, 7] (fun v x wr => ∃ i : Nat, i ≤ N ∧ x = .int .i64 (i : Int) ∧ ReadLoop f i w w1.heap.size v wr ∧ Below w1.heap.size w1 wr) (fun _ x _ => N - (intOf x).toNat)
        case atStart => exact ⟨0, by omega, rfl, L0.out, (Below.refl _ _).alloc (Nat.le_refl _) _⟩
        case round =>
          obtain ⟨i, hi, rfl, ⟨h3, h4, h5⟩, hb2⟩ := hrel
          have hc5 : wr.cell? ⟨gu, 5, none⟩ = some (.int .u8 (N : Int)) := by have h := (U3.out.below hb2).at_ (i := 5) (by omega); rw [add_nil, ← HN.out] at h; exact h
          have H3 := Lib.hid h3
          have H4 := Lib.hid h4
          have H5 := Lib.hid h5
          have H2 := Lib.hid hb2
          clear h3 h4 h5 hb2 L0
          by_cases hk : i < N
          · have hby : BytesAt wr (some ⟨gu, 6 + 5 * i, none⟩) 5 (fun j => f (6 + 5 * i + j)) := ⟨fun j hj => HSM.out _ (by omega), fun j hj => ⟨_, rfl, by
              have h := (U3.out.below H2.out).at_ (i := 6 + 5 * i + j) (by omega)
              rw [← Addr.add_add, add_nil] at h
              exact h⟩⟩
            have DC := Lib.hid (refDecodeD_any ⟨gu, 6 + 5 * i, none⟩ (cu - (6 + 5 * i)) _ wr hby)
            clear hby
            go_wp2_with fail
            rw [show 11 + 5 * i - (6 + 5 * i) = 5 by omega]
            with_reducible refine DC.out.mono ?_
            rintro e w3 ⟨⟨-, hval, rfl⟩ | ⟨hnv, z, hz, rfl⟩, hb3⟩
            · have hval' : Valid (sdel f i) := hval
              obtain ⟨d, hd⟩ : ∃ d, d = sdel f i := ⟨_, rfl⟩
              have hev : (delOf fun j => f (6 + 5 * i + j)).val = d.val := by rw [hd]; rfl
              rw [hev]
              clear hev hval
              have hb4 : Below wr.heap.size wr (w3.alloc (.cells d.cells.toArray 52)) := hb3.alloc hb3.size _
              have hb5 : Below w.heap.size w (w3.alloc (.cells d.cells.toArray 52)) := H5.out.trans (hb4.mono H5.out.size)
              have hp2 := H3.out.below_ hb4
              obtain ⟨v5, w5, r5, p5, g5⟩ := run_del 32 hp2 (by omega) (by have := H2.out.size; have := hb4.size; omega)
              obtain ⟨A5, cc5, rfl⟩ := p5.shape
              have hb6 : Below w.heap.size w w5 := (show OwnD _ _ _ _ _ from hp2.below_ ((Below.refl _ _).alloc (Nat.le_refl _) _)).grown_below (hb5.alloc hb5.size _) B1.out.size (by have := hb5.size; simp at this ⊢; omega) g5
              have hb7 : Below w1.heap.size w1 w5 := (show OwnD _ _ _ _ _ from hp2.below_ ((Below.refl _ _).alloc (Nat.le_refl _) _)).grown_below ((H2.out.trans (hb4.mono H2.out.size)).alloc (by have := H2.out.size; have := hb4.size; omega) _) (Nat.le_refl _) (by have := H2.out.size; have := hb4.size; simp at this ⊢; omega) g5
              rw [← hd] at r5
              rw [World.size_alloc] at r5
              have RL : Hid (ReadLoop f (i + 1) w w1.heap.size (.slice A5 (i + 1) cc5) w5 ∧ Below w1.heap.size w1 w5) := Lib.hid ⟨⟨p5, fun k hk => by
                rcases (by omega : k < i ∨ k = i) with h | rfl
                · exact H4.out k h
                · exact hval', hb6⟩, hb7⟩
              clear hb4 hb5 hp2 p5 g5 hd hval' hb3 hb6 hb7
              obtain ⟨k, vo, o, b, a1, b1⟩ := d
              have R5 : Hid ((Builtin.append_ #[32, 32] 32 #[u6, .slice (some ⟨w3.heap.size + 1, 0, none⟩) 1 1]).run Try.prog ((w3.alloc (.cells #[.int .i64 (k : Int), .int .i64 (vo : Int), .int .i64 (o : Int), .int .i64 (b : Int), .complex .f64 (fl a1) (fl b1)] 52)).alloc (.cells #[.int .i64 (k : Int), .int .i64 (vo : Int), .int .i64 (o : Int), .int .i64 (b : Int), .complex .f64 (fl a1) (fl b1)] 52)) = .ok (.slice A5 (i + 1) cc5) w5) := Lib.hid r5
              clear r5
              unfold Del.val
              dsimp only
              go_wp2_with (at_builtin; refine Lib.wpList_append_run _ rfl (.tmp 52) (.tmp 54) _ _ rfl _ _ rfl rfl _ _ R5.out ?_)
              go_roundw
              case rel => exact ⟨i + 1, by omega, by go_num, RL.out⟩
              case measure => simp [intOf]; omega
            · have hz0 : (z != 0) = true := by simpa using hz
              have hb5 : Below w.heap.size w (w3.alloc (.cells #[.int .i64 0, .int .i64 0, .int .i64 0, .int .i64 0, .complex .f64 0 0] 52)) := H5.out.trans ((hb3.alloc hb3.size _).mono H5.out.size)
              have RA : Hid (ReadA f w (.returned (.tuple #[.slice none 0 0, .bool false])) (w3.alloc (.cells #[.int .i64 0, .int .i64 0, .int .i64 0, .int .i64 0, .complex .f64 0 0] 52))) := Lib.hid ⟨hb5, .inr ⟨fun h => hnv ⟨rfl, h.2.2.2 i (by rw [← HN.out]; exact hk)⟩, rfl⟩⟩
              clear hb3 hb5 hnv hz
              unfold noDel
              go_wp2
              go_ret2
              exact RA.out
          · obtain rfl : i = N := by omega
            go_wp2
            go_ret2
            refine ⟨H5.out, .inl ⟨⟨SE.out, by rw [← HN.out]; exact h1, by rw [← HN.out]; exact h6, fun k hk => H4.out k (by rw [HN.out]; exact hk)⟩, _, rfl, ?_⟩⟩
            rw [← HN.out]
            exact H3.out.base B1.out.size
      · have d6 : decide ((6 : Int) < (N : Int)) = true := by simp; omega
        go_wp2
        go_ret2
        exact ⟨B1.out, .inr ⟨fun h => h6 (by rw [HN.out]; exact h.2.2.1), rfl⟩⟩
    · have d1 : decide ((N : Int) < 1) = true := by simp; omega
      go_wp2
      go_ret2
      exact ⟨B1.out, .inr ⟨fun h => h1 (by rw [HN.out]; exact h.2.1), rfl⟩⟩
  · have hx0 : (x != 0) = true := by simpa using hx
    have B1 := Lib.hid hb1
    clear hb1
    go_wp2
    go_ret2
    exact ⟨B1.out, .inr ⟨fun h => hse h.1, rfl⟩⟩
end Go.Proofs.Ytmgeifolgdgapaa
