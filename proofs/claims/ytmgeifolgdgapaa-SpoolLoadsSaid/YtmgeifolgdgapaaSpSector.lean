
/- Deltas as bytes and as a sector: the package's answers. -/
import Derived.Test.YtmgeifolgdgapaaSpWords
import Derived.Test.YtmgeifolgdgapaaMerge8
import Derived.Test.YtmgeifolgdgapaaMerge3
import Derived.Test.YtmgeifolgdgapaaLfPages
namespace Go.Proofs.Ytmgeifolgdgapaa
open Go.RowKit

theorem five_ints (w : World) (x : Nat → Nat) (hx : ∀ i, i < 5 → x i < 256) :
    IntsAt (w.alloc (.cells #[.int .i64 (x 0 : Int), .int .i64 (x 1 : Int), .int .i64 (x 2 : Int), .int .i64 (x 3 : Int), .int .i64 (x 4 : Int)] 3)) (some ⟨w.heap.size, 0, none⟩) 5 (fun i => (x i : Int)) :=
  ⟨fun i hi => by have := hx i hi; show -9223372036854775808 ≤ (x i : Int) ∧ (x i : Int) ≤ 9223372036854775807; omega, fun i hi => ⟨_, rfl, by
    rw [add_nil, World.cell?_alloc_mark]
    rcases (by omega : i = 0 ∨ i = 1 ∨ i = 2 ∨ i = 3 ∨ i = 4) with rfl | rfl | rfl | rfl | rfl <;> rfl⟩⟩
theorem five_row (w : World) (k y n a b : Nat) (h0 : k < 256) (h1 : y < 256) (h2 : n < 256) (h3 : a < 256) (h4 : b < 256) :
    Calls Try.prog 46 #[.int .i64 1, .slice (some ⟨w.heap.size, 0, none⟩) 5 5] (w.alloc (.cells #[.int .i64 (k : Int), .int .i64 (y : Int), .int .i64 (n : Int), .int .i64 (a : Int), .int .i64 (b : Int)] 3)) fun e w' =>
      ∃ v, e = .returned (.tuple #[v, .int .i64 0]) ∧ Reads w' v 5 (fun i => if i = 0 then k else if i = 1 then y else if i = 2 then n else if i = 3 then a else b) ∧ Below w.heap.size w w' := by
  have hx : ∀ i, i < 5 → (fun i => if i = 0 then k else if i = 1 then y else if i = 2 then n else if i = 3 then a else b) i < 256 := fun i _ => by
    dsimp only
    split
    · exact h0
    · split
      · exact h1
      · split
        · exact h2
        · split <;> assumption
  have h := row_ok 1 (some ⟨w.heap.size, 0, none⟩) 5 5 (fun i => if i = 0 then k else if i = 1 then y else if i = 2 then n else if i = 3 then a else b) _ (by omega) (by omega) (by omega) (by omega) (fun i hi => by have := hx i hi; omega) (five_ints w _ hx)
  refine Calls.mono h fun e w' hx' => ?_
  obtain ⟨v, he, hv, hb⟩ := hx'
  refine ⟨v, he, hv.congr fun i hi => ?_, ((Below.refl _ w).alloc (Nat.le_refl _) _).trans (hb.mono (by simp))⟩
  have hi' : i < 5 := by omega
  have := hx i hi'
  unfold rowB dig
  rw [show i / 1 = i by omega, show 1 - 1 - i % 1 = 0 by omega, Nat.pow_zero, Nat.div_one, Nat.mod_eq_of_lt this]

set_option maxRecDepth 100000 in
set_option maxHeartbeats 1000000 in
theorem dencode_ok (d : Del) (hv : Valid d) (w : World) :
    Calls Try.prog 47 #[d.val] w fun e w' => ∃ u, e = .returned (.tuple #[u, .int .i64 0]) ∧ Reads w' u 5 (encD d) ∧ Below w.heap.size w w' := by
  have hs := valid_small hv
  have CK := fun W => dcheck_any d W (by omega) (by omega)
  have PT := fun W => parts_byte d.a d.b W (by omega) (by omega)
  have hp : partsV d.a d.b = .tuple #[.int .i64 (d.a : Int), .int .i64 (d.b : Int), .int .i64 0] := by unfold partsV; rw [if_pos ⟨by omega, by omega⟩]
  rw [hp] at PT
  have HC := Lib.hid CK
  have HP := Lib.hid PT
  have VV := Lib.hid hv
  clear CK PT hp hv
  obtain ⟨k, v, o, n, a, b⟩ := d
  dsimp only at hs HP
  obtain ⟨b1, b2, b3, b4, b5, b6⟩ := hs
  have HC2 : Hid (∀ W, Calls Try.prog 28 #[.agg #[.int .i64 (k : Int), .int .i64 (v : Int), .int .i64 (o : Int), .int .i64 (n : Int), .complex .f64 (fl a) (fl b)]] W (Checked_ ⟨k, v, o, n, a, b⟩ W)) := Lib.hid HC.out
  show Calls Try.prog 47 #[.agg #[.int .i64 (k : Int), .int .i64 (v : Int), .int .i64 (o : Int), .int .i64 (n : Int), .complex .f64 (fl a) (fl b)]] w _
  clear HC
  obtain ⟨y, hy⟩ : ∃ y, y = 16 * v + o := ⟨_, rfl⟩
  have hyI : 16 * (v : Int) + (o : Int) = (y : Int) := by omega
  have hy2 : y < 256 := by omega
  have HY := Lib.hid hy
  clear hy
  go_enter Try.func47, Try.ntmps47
  go_wp2_with fail
  with_reducible refine (HC2.out _).mono ?_
  rintro e w1 ⟨⟨x, rfl, hx⟩, hb1⟩
  obtain rfl : x = 0 := hx.2 VV.out
  have B1 : Hid (Below w.heap.size w w1) := Lib.hid (((Below.refl _ w).alloc (Nat.le_refl _) _).trans (hb1.mono (by simp)))
  have H1 := Lib.hid (five_later hb1)
  obtain ⟨c0, c1, c2, c3, c4⟩ := five_cells H1.out
  clear hb1 hx
  go_wp2_with fail
  with_reducible refine (HP.out _).mono ?_
  rintro e w2 ⟨rfl, rfl⟩
  go_wp2_with fail
  with_reducible refine (five_row w1 k y n a b (by omega) hy2 (by omega) (by omega) (by omega)).mono ?_
  rintro e w3 ⟨u, rfl, hu, hb3⟩
  have HU := Lib.hid hu
  have HB3 := Lib.hid hb3
  clear hu hb3
  go_wp2
  go_ret2
  refine ⟨u, rfl, HU.out.congr fun i hi => ?_, B1.out.trans (HB3.out.mono B1.out.size)⟩
  unfold encD
  rw [HY.out]

/-- Deltas that are read: the first of them are, and one is loaded. -/
theorem ReadsD.val {w : World} {ad : Addr} {n c : Nat} {ds : Nat → Del} (h : ReadsD w (.slice (some ad) n c) n ds) {i : Nat} (hi : i < n) :
    w.cell? (ad.add (i * 5)) = some (.int .i64 ((ds i).kind : Int)) ∧ w.cell? ⟨(ad.add (i * 5)).block, (ad.add (i * 5)).off + 1, none⟩ = some (.int .i64 ((ds i).vol : Int)) ∧ w.cell? ⟨(ad.add (i * 5)).block, (ad.add (i * 5)).off + 2, none⟩ = some (.int .i64 ((ds i).other : Int)) ∧
      w.cell? ⟨(ad.add (i * 5)).block, (ad.add (i * 5)).off + 3, none⟩ = some (.int .i64 ((ds i).block : Int)) ∧ w.cell? ⟨(ad.add (i * 5)).block, (ad.add (i * 5)).off + 4, none⟩ = some (.complex .f64 (fl (ds i).a) (fl (ds i).b)) := h.five hi

theorem seq_at (w : World) (q : Nat) (hq : q < 4294967296) :
    Calls Try.prog 46 #[.int .i64 4, .slice (some ⟨w.heap.size, 0, none⟩) 1 1] (w.alloc (.cells #[.int .i64 (q : Int)] 3)) fun e w' => ∃ v, e = .returned (.tuple #[v, .int .i64 0]) ∧ Own w' w.heap.size v 4 (dig q 4) ∧ Below w.heap.size w w' := by
  have h := row_own 4 (some ⟨w.heap.size, 0, none⟩) 1 1 (fun _ => q) (w.alloc (.cells #[.int .i64 (q : Int)] 3)) (by omega) (by omega) (by omega) (by omega) (fun _ _ => by show q < 256 ^ 4; omega) (int_new w _ (by omega))
  refine Calls.mono h fun e w' hx => ?_
  obtain ⟨v, he, hv, hb⟩ := hx
  have hv2 : Own w' (w.alloc (.cells #[.int .i64 (q : Int)] 3)).heap.size v 4 (dig q 4) := Own.congr (n := 1 * 4) hv fun i hi => by
    unfold rowB
    rw [show i % 4 = i by omega]
  exact ⟨v, he, ⟨hv2.1, hv2.2.imp id fun ⟨g, cap, cur, e, hb, r⟩ => ⟨g, cap, cur, e, by rw [World.size_alloc] at hb; omega, r⟩⟩, ((Below.refl _ w).alloc (Nat.le_refl _) _).trans (hb.mono (by simp))⟩
theorem duo_new (w : World) (a b : Nat) (ha : a < 256) (hb : b < 256) : BytesAt (w.alloc (.cells #[.int .u8 (a : Int), .int .u8 (b : Int)] 5)) (some ⟨w.heap.size, 0, none⟩) 2 (duo a b) :=
  ⟨fun i hi => by unfold duo; split <;> assumption, fun i hi => ⟨_, rfl, by
    rcases (by omega : i = 0 ∨ i = 1) with rfl | rfl <;> (rw [add_nil, World.cell?_alloc_mark]; rfl)⟩⟩

def SpLoop (q m n : Nat) (ds : Nat → Del) (i : Nat) (w : World) (v : Value) (wr : World) : Prop :=
  Own wr w.heap.size v (6 + 5 * i) (spB q m n ds) ∧ Below w.heap.size w wr
theorem five_box {w : World} {x0 x1 x2 x3 x4 : Value} {T : TypeId} : Below w.heap.size w (w.alloc (.cells #[x0, x1, x2, x3, x4] T)) := (Below.refl _ w).alloc (Nat.le_refl _) _

set_option maxRecDepth 100000 in
set_option maxHeartbeats 2000000 in
theorem sectorOf_ok (v : Value) (n q m : Nat) (ds : Nat → Del) (w : World) (hn : n ≤ 10) (hq : q < 4294967296) (hm : m < 256) (hv : ReadsD w v n ds) (hg : ∀ i, i < n → Valid (ds i)) :
    Calls Try.prog 30 #[v, .int .i64 (q : Int), .int .i64 (m : Int)] w fun e w' => ∃ u, e = .returned u ∧ Row w.heap.size w' u 64 (spS q m n ds) ∧ Below w.heap.size w w' := by
  obtain ⟨A, c, rfl, p1, p2, p3, p4⟩ := id hv
  have HV := Lib.hid hv
  have HG := Lib.hid hg
  clear hv hg p4
  go_enter Try.func30, Try.ntmps30
  go_wp2_with fail
  with_reducible refine (seq_at w q hq).mono ?_
  rintro e w1 ⟨v1, rfl, ho1, hb1⟩
  have hx1 : Below w.heap.size w (w1.alloc (.cells #[.int .u8 (m : Int), .int .u8 (n : Int)] 5)) := hb1.alloc hb1.size _
  obtain ⟨v2, w2, r2, o2, n2, g2⟩ := run_bytes (c := 2) 28 (ho1.alloc (.cells #[.int .u8 (m : Int), .int .u8 (n : Int)] 5)) (duo_new w1 m n hm (by omega)) (by intro e; cases e) (by omega) hx1.size
  have hb2 : Below w.heap.size w w2 := (ho1.alloc (.cells #[.int .u8 (m : Int), .int .u8 (n : Int)] 5)).grown_below hx1 (Nat.le_refl _) hx1.size g2
  have O2 : Hid (SpLoop q m n ds 0 w v2 w2) := Lib.hid ⟨o2.congr fun i hi => by
    unfold spB
    rw [behind_low (n := 6) (by omega)], hb2⟩
  have R2 := Lib.hid r2
  clear r2 o2 n2 g2 hb2 hx1 ho1 hb1
  go_wp2_with (at_builtin; refine Lib.wpList_append_run _ rfl (.tmp 21) (.tmp 27) _ _ rfl _ _ rfl rfl _ _ R2.out ?_)
  clear R2
  go_loopw [7, 31] (fun u x wr => ∃ i : Nat, i ≤ n ∧ x = .int .i64 (i : Int) ∧ SpLoop q m n ds i w u wr) (fun _ x _ => n - (intOf x).toNat)
  case atStart => exact ⟨0, by omega, rfl, O2.out⟩
  case round =>
    obtain ⟨i, hi, rfl, ho, hb⟩ := hrel
    have HO := Lib.hid ho
    have HB := Lib.hid hb
    clear ho hb O2
    by_cases hk : i < n
    · have hA : ∃ ad, A = some ad := by
        obtain ⟨A', c', e, _, _, _, h4⟩ := HV.out
        cases e
        obtain ⟨ad, e1, _⟩ := h4 i hk
        exact ⟨ad, e1⟩
      obtain ⟨ad, rfl⟩ := hA
      have h5 := ReadsD.five (HV.out.below HB.out) hk
      obtain ⟨D, hD⟩ : ∃ D, D = ds i := ⟨_, rfl⟩
      rw [← hD] at h5
      obtain ⟨c0, c1, c2, c3, c4⟩ := h5
      have VD : Hid (Valid D) := Lib.hid (by rw [hD]; exact HG.out i hk)
      have ED := Lib.hid hD
      clear hD
      have EN := fun W => dencode_ok D VD.out W
      have hst := put_complex
      obtain ⟨k, v, o, b, x, y⟩ := D
      dsimp only at c0 c1 c2 c3 c4
      have HE : Hid (∀ W, Calls Try.prog 47 #[.agg #[.int .i64 (k : Int), .int .i64 (v : Int), .int .i64 (o : Int), .int .i64 (b : Int), .complex .f64 (fl x) (fl y)]] W fun e w' => ∃ u, e = .returned (.tuple #[u, .int .i64 0]) ∧ Reads w' u 5 (encD ⟨k, v, o, b, x, y⟩) ∧ Below W.heap.size W w') := Lib.hid EN
      clear EN
      go_wp2_with fail
      with_reducible refine (HE.out _).mono ?_
      rintro e w3 ⟨u, rfl, hu, hb3⟩
      have hb4 : Below wr.heap.size wr w3 := five_box.trans (hb3.mono (by simp))
      have hb5 : Below w.heap.size w w3 := HB.out.trans (hb4.mono HB.out.size)
      obtain ⟨Au, cu, rfl, u1, u2, u3, u4⟩ := hu
      obtain ⟨v6, w6, r6, o6, n6, g6⟩ := run_bytes (c := cu) 28 (owns_later HO.out hb4) u4 u3 (by omega) hb5.size
      have hb6 : Below w.heap.size w w6 := Own.grown_below (owns_later HO.out hb4) hb5 (Nat.le_refl _) hb5.size g6
      have O6 : Hid (SpLoop q m n ds (i + 1) w v6 w6) := Lib.hid ⟨Own.congr (n := 6 + 5 * i + 5) o6 fun j hj => by
        by_cases h6 : j < 6 + 5 * i
        · rw [behind_low h6]
        · rw [behind_high (by omega), ED.out]
          unfold spB
          rw [behind_high (n := 6) (by omega), ← encs_at ds (show j - (6 + 5 * i) < 5 by omega)]
          congr 1
          omega, hb6⟩
      have R6 := Lib.hid r6
      clear c0 c1 c2 c3 c4 hb3 hb4 hb5 u4 r6 o6 n6 g6 hb6
      go_wp2_with (at_builtin; refine Lib.wpList_append_run _ rfl (.tmp 40) (.tmp 41) _ _ rfl _ _ rfl rfl _ _ R6.out ?_)
      go_roundw
      case rel => exact ⟨i + 1, by omega, by go_num, O6.out⟩
      case measure => simp [intOf]; omega
    · obtain rfl : i = n := by omega
      have hs := spB_lt (q := q) hm (show i < 256 by omega) HG.out
      obtain ⟨Ab, cb, eb, b1, b2, b3, b4⟩ := Own.reads HO.out hs
      rw [eb]
      have CL := Lib.hid (close_any Ab (6 + 5 * i) cb (spB q m i ds) wr (by omega) b4)
      clear b4 hs
      go_wp2_with fail
      with_reducible refine CL.out.mono ?_
      rintro e w3 ⟨u, rfl, hu, hb3⟩
      have HU := Lib.hid hu
      have HB3 := Lib.hid hb3
      clear hu hb3
      go_wp2
      go_ret
      exact ⟨_, rfl, HU.out.base HB.out.size, HB.out.trans (HB3.out.mono HB.out.size)⟩
end Go.Proofs.Ytmgeifolgdgapaa
