/- The header of a text. -/
import Derived.Test.YtdocclkphffpkaaGreatLfLeaves
import Derived.Test.YtdocclkphffpkaaGreatMerge6
import Derived.Test.YtdocclkphffpkaaGreatMerge2
namespace Go.Proofs.YtdocclkphffpkaaGreat
open Go.RowKit

/-- Four rows, one behind the other. -/
def cat4 (f0 : Nat → Nat) (n0 : Nat) (f1 : Nat → Nat) (n1 : Nat) (f2 : Nat → Nat) (n2 : Nat) (f3 : Nat → Nat) : Nat → Nat := behind (behind (behind f0 n0 f1) (n0 + n1) f2) (n0 + n1 + n2) f3
theorem cat4_lt {f0 f1 f2 f3 : Nat → Nat} {n0 n1 n2 n3 : Nat} (h0 : ∀ i, i < n0 → f0 i < 256) (h1 : ∀ i, i < n1 → f1 i < 256) (h2 : ∀ i, i < n2 → f2 i < 256) (h3 : ∀ i, i < n3 → f3 i < 256) (i : Nat) (hi : i < n0 + n1 + n2 + n3) : cat4 f0 n0 f1 n1 f2 n2 f3 i < 256 :=
  behind_lt (fun i hi => behind_lt (fun i hi => behind_lt h0 h1 i hi) h2 i hi) h3 i hi

theorem concat4_any (b : Nat) (va vb vc vd : Value) (n0 n1 n2 n3 : Nat) (f0 f1 f2 f3 : Nat → Nat) (w : World) (h0 : w.cell? ⟨b, 0, none⟩ = some va) (h1 : w.cell? ⟨b, 1, none⟩ = some vb) (h2 : w.cell? ⟨b, 2, none⟩ = some vc) (h3 : w.cell? ⟨b, 3, none⟩ = some vd)
    (ha : Reads w va n0 f0) (hb : Reads w vb n1 f1) (hc : Reads w vc n2 f2) (hd : Reads w vd n3 f3) (hm : 0 < n3) (hn : n0 + n1 + n2 + n3 ≤ 140737488355328) :
    Calls Tryz.prog 73 #[.slice (some ⟨b, 0, none⟩) 4 4] w fun e w' => ∃ v, e = .returned v ∧ Reads w' v (n0 + n1 + n2 + n3) (cat4 f0 n0 f1 n1 f2 n2 f3) ∧ Below w.heap.size w w' := by
  obtain ⟨A0, c0, rfl, _, _, ha3, ha4⟩ := ha
  obtain ⟨A1, c1, rfl, _, _, hb3, hb4⟩ := hb
  obtain ⟨A2, c2, rfl, _, _, hc3, hc4⟩ := hc
  obtain ⟨A3, c3, rfl, _, _, hd3, hd4⟩ := hd
  have S0 := Lib.hid ha4
  have S1 := Lib.hid hb4
  have S2 := Lib.hid hc4
  have S3 := Lib.hid hd4
  clear ha4 hb4 hc4 hd4
  go_enter Tryz.func73, Tryz.ntmps73
  go_wp2
  refine wp_loop_rounds 5 ?_
  rw [rounds_succ]
  go_wp2
  rw [rounds_succ]
  go_wp2
  rw [rounds_succ]
  go_wp2
  rw [rounds_succ]
  go_wp2
  rw [rounds_succ]
  go_wp2_with fail
  with_reducible refine (grow_any (n0 + n1 + n2 + n3) _ (by omega) _ (by omega) hn).mono ?_
  rintro e w1 ⟨v1, rfl, o1, b1⟩
  obtain ⟨v2, w2, r2, o2, _, g2⟩ := run_bytes (c := c0) 44 (o1 f0) (S0.out.below b1) ha3 (by omega) b1.size
  have b2 : Below w.heap.size w w2 := (o1 f0).grown_below b1 (Nat.le_refl _) b1.size g2
  have o2' : Own w2 w.heap.size v2 n0 f0 := Own.congr (n := n0) (by rw [Nat.zero_add] at o2; exact o2) fun i _ => by rw [behind_high (by omega)]; rfl
  obtain ⟨v3, w3, r3, o3, _, g3⟩ := run_bytes (c := c1) 44 o2' (S1.out.below b2) hb3 (by omega) b2.size
  have b3 : Below w.heap.size w w3 := o2'.grown_below b2 (Nat.le_refl _) b2.size g3
  obtain ⟨v4, w4, r4, o4, _, g4⟩ := run_bytes (c := c2) 44 o3 (S2.out.below b3) hc3 (by omega) b3.size
  have b4 : Below w.heap.size w w4 := o3.grown_below b3 (Nat.le_refl _) b3.size g4
  obtain ⟨v5, w5, r5, o5, _, g5⟩ := run_bytes (c := c3) 44 o4 (S3.out.below b4) hd3 (by omega) b4.size
  have b5 : Below w.heap.size w w5 := o4.grown_below b4 (Nat.le_refl _) b4.size g5
  have R2 := Lib.hid r2
  have R3 := Lib.hid r3
  have R4 := Lib.hid r4
  have R5 := Lib.hid r5
  have O5 := Lib.hid o5
  have B5 := Lib.hid b5
  have q0 := cell_later b1 h0
  have q1 := cell_later b2 h1
  have q2 := cell_later b3 h2
  have q3 := cell_later b4 h3
  clear r2 r3 r4 r5 o1 o2 o2' o3 o4 o5 g2 g3 g4 g5 b1 b2 b3 b4 b5 h0 h1 h2 h3
  go_wp2
  refine wp_loop_rounds 5 ?_
  rw [rounds_succ]
  go_wp2_with (at_builtin; refine Lib.wpList_append_run _ rfl (.tmp 31) (.tmp 32) _ _ rfl _ _ rfl rfl _ _ R2.out ?_)
  rw [rounds_succ]
  go_wp2_with (at_builtin; refine Lib.wpList_append_run _ rfl (.tmp 31) (.tmp 32) _ _ rfl _ _ rfl rfl _ _ R3.out ?_)
  rw [rounds_succ]
  go_wp2_with (at_builtin; refine Lib.wpList_append_run _ rfl (.tmp 31) (.tmp 32) _ _ rfl _ _ rfl rfl _ _ R4.out ?_)
  rw [rounds_succ]
  go_wp2_with (at_builtin; refine Lib.wpList_append_run _ rfl (.tmp 31) (.tmp 32) _ _ rfl _ _ rfl rfl _ _ R5.out ?_)
  rw [rounds_succ]
  go_wp2
  go_ret
  exact ⟨_, rfl, O5.out.reads (cat4_lt S0.out.small S1.out.small S2.out.small S3.out.small), B5.out⟩

/-- Three numbers. -/
def trip (a b c : Nat) (i : Nat) : Nat := if i = 0 then a else if i = 1 then b else c
theorem trip_new (W : World) (a b c : Nat) (ha : a < 4294967296) (hb : b < 4294967296) (hc : c < 4294967296) : IntsAt (W.alloc (.cells #[.int .i64 (a : Int), .int .i64 (b : Int), .int .i64 (c : Int)] 3)) (some ⟨W.heap.size, 0, none⟩) 3 (fun i => (trip a b c i : Int)) :=
  ⟨fun i hi => by unfold trip; split <;> (try split) <;> omega, fun i hi => ⟨_, rfl, by
    rcases (by omega : i = 0 ∨ i = 1 ∨ i = 2) with rfl | rfl | rfl <;> (rw [add_nil, World.cell?_alloc_mark]; rfl)⟩⟩

/-- What a header has ahead of its sum. -/
def headB (s b seq count len : Nat) (sum : BitVec 32) : Nat → Nat :=
  cat4 magic 4 (dig seq 4) 4 (rowB (trip s b count) 1) 3 (rowB (trip len (sum.toNat / 65536) (sum.toNat % 65536)) 2)
/-- A header. -/
def headF (s b seq count len : Nat) (sum : BitVec 32) : Nat → Nat := sec (headB s b seq count len sum) 17

theorem one_row (W : World) (a b c : Nat) (ha : a < 256) (hb : b < 256) (hc : c < 256) :
    Calls Tryz.prog 69 #[.int .i64 1, .slice (some ⟨W.heap.size, 0, none⟩) 3 3] (W.alloc (.cells #[.int .i64 (a : Int), .int .i64 (b : Int), .int .i64 (c : Int)] 3)) fun e w' => ∃ v, e = .returned (.tuple #[v, .int .i64 0]) ∧ Reads w' v 3 (rowB (trip a b c) 1) ∧ Below W.heap.size W w' := by
  have h := row_ok 1 (some ⟨W.heap.size, 0, none⟩) 3 3 (trip a b c) _ (by omega) (by omega) (by omega) (by omega) (fun i _ => by unfold trip; split <;> (try split) <;> omega) (trip_new W a b c (by omega) (by omega) (by omega))
  exact Calls.mono h fun e w' hx => by
    obtain ⟨v, he, hv, hb⟩ := hx
    exact ⟨v, he, hv, ((Below.refl _ W).alloc (Nat.le_refl _) _).trans (hb.mono (by simp))⟩
theorem two_row (W : World) (a b c : Nat) (ha : a < 65536) (hb : b < 65536) (hc : c < 65536) :
    Calls Tryz.prog 69 #[.int .i64 2, .slice (some ⟨W.heap.size, 0, none⟩) 3 3] (W.alloc (.cells #[.int .i64 (a : Int), .int .i64 (b : Int), .int .i64 (c : Int)] 3)) fun e w' => ∃ v, e = .returned (.tuple #[v, .int .i64 0]) ∧ Reads w' v 6 (rowB (trip a b c) 2) ∧ Below W.heap.size W w' := by
  have h := row_ok 2 (some ⟨W.heap.size, 0, none⟩) 3 3 (trip a b c) _ (by omega) (by omega) (by omega) (by omega) (fun i _ => by unfold trip; split <;> (try split) <;> omega) (trip_new W a b c (by omega) (by omega) (by omega))
  exact Calls.mono h fun e w' hx => by
    obtain ⟨v, he, hv, hb⟩ := hx
    exact ⟨v, he, hv, ((Below.refl _ W).alloc (Nat.le_refl _) _).trans (hb.mono (by simp))⟩

theorem num_high (s : BitVec 32) : num s / 65536 = ((s.toNat / 65536 : Nat) : Int) := by unfold num; simp
theorem num_low (s : BitVec 32) : bits .and .u32 (num s) 65535 = ((s.toNat % 65536 : Nat) : Int) := by
  unfold num
  have h := u32_and_nat s.toNat 65535 s.isLt (by omega)
  rw [show ((65535 : Nat) : Int) = 65535 from rfl] at h
  rw [h]
  congr 1
  exact Nat.and_two_pow_sub_one_eq_mod s.toNat 16
theorem headB_lt {s b seq count len : Nat} {sum : BitVec 32} (i : Nat) (hi : i < 17) : headB s b seq count len sum i < 256 :=
  cat4_lt (n0 := 4) (n1 := 4) (n2 := 3) (n3 := 6) (fun i hi => by rcases (by omega : i = 0 ∨ i = 1 ∨ i = 2 ∨ i = 3) with rfl | rfl | rfl | rfl <;> decide) (fun _ _ => dig_lt _ _ _) (fun _ _ => rowB_lt _ _ _) (fun _ _ => rowB_lt _ _ _) i hi

set_option maxRecDepth 20000 in
theorem header_any (A : Option Addr) (len cap : Nat) (f : Nat → Nat) (s b seq count : Nat) (w : World) (hs : s < 256) (hb : b < 256) (hq : seq < 4294967296) (hc : count < 256) (hl : len < 65536) (hT : BytesAt w A len f) :
    Calls Tryz.prog 48 #[.slice A len cap, .agg #[.int .i64 (s : Int), .int .i64 (b : Int)], .int .i64 (seq : Int), .int .i64 (count : Int)] w fun e w' => ∃ v, e = .returned v ∧ Row w.heap.size w' v 64 (headF s b seq count len (crc f len)) ∧ Below w.heap.size w w' := by
  obtain ⟨w1, hw1⟩ : ∃ w1, w1 = w.alloc (.cells #[.int .i64 (s : Int), .int .i64 (b : Int)] 34) := ⟨_, rfl⟩
  have B1 : Hid (Below w.heap.size w w1) := Lib.hid (by rw [hw1]; exact (Below.refl _ _).alloc (Nat.le_refl _) _)
  have C0 : Hid (w1.cell? ⟨w.heap.size, 0, none⟩ = some (.int .i64 (s : Int))) := Lib.hid (by rw [hw1, World.cell?_alloc_mark]; rfl)
  have C1 : Hid (w1.cell? ⟨w.heap.size, 1, none⟩ = some (.int .i64 (b : Int))) := Lib.hid (by rw [hw1, World.cell?_alloc_mark]; rfl)
  have T1 := Lib.hid (hT.below B1.out)
  obtain ⟨r, hr⟩ : ∃ r, r = crc f len := ⟨_, rfl⟩
  have HR := Lib.hid hr
  rw [← hr]
  obtain ⟨hi, ehi⟩ : ∃ k, k = r.toNat / 65536 := ⟨_, rfl⟩
  obtain ⟨lo, elo⟩ : ∃ k, k = r.toNat % 65536 := ⟨_, rfl⟩
  have n1 : num r / 65536 = (hi : Int) := by rw [ehi]; exact num_high r
  have n2 : bits .and .u32 (num r) 65535 = (lo : Int) := by rw [elo]; exact num_low r
  have hhi : hi < 65536 := by have := r.isLt; omega
  have hlo : lo < 65536 := by omega
  have EH := Lib.hid ehi
  have EL := Lib.hid elo
  clear hr hT ehi elo
  go_enter Tryz.func48, Tryz.ntmps48
  go_wp2_with fail
  rw [← hw1]
  clear hw1
  with_reducible refine (sum_any A len cap f w1 (by omega) T1.out).mono ?_
  rintro e w' ⟨rfl, rfl⟩
  rw [← HR.out]
  go_wp2_with fail
  with_reducible refine (seq_row w1 seq hq).mono ?_
  rintro e w2 ⟨v2, rfl, o2, b2⟩
  have R2 := Lib.hid (o2.reads (fun _ _ => dig_lt _ _ _))
  have c0 := cell_later b2 C0.out
  have c1 := cell_later b2 C1.out
  have B2 := Lib.hid (B1.out.trans (b2.mono B1.out.size))
  clear o2 b2
  go_wp2_with fail
  with_reducible refine (one_row w2 s b count hs hb hc).mono ?_
  rintro e w3 ⟨v3, rfl, o3, b3⟩
  have R3 := Lib.hid o3
  have R23 := Lib.hid (R2.out.below b3)
  have B3 := Lib.hid (B2.out.trans (b3.mono B2.out.size))
  clear o3 b3 c0 c1 R2 B2
  go_wp2_with fail
  with_reducible refine (two_row w3 len hi lo hl hhi hlo).mono ?_
  rintro e w4 ⟨v4, rfl, o4, b4⟩
  have B4 := Lib.hid (B3.out.trans (b4.mono B3.out.size))
  have kc := Lib.run_convert_bytes_const (P := Tryz.prog) w4 44 5 #[.int .u8 83, .int .u8 76, .int .u8 65, .int .u8 84] 4 4 Tryz.underlying44 Tryz.underlying5
  obtain ⟨w5, hw5⟩ : ∃ w5, w5 = w4.alloc (.cells #[.int .u8 83, .int .u8 76, .int .u8 65, .int .u8 84] 5 (4, 5)) := ⟨_, rfl⟩
  have b5 : Below w4.heap.size w4 w5 := by rw [hw5]; exact (Below.refl _ _).alloc (Nat.le_refl _) _
  have M5 : Hid (Reads w5 (.slice (some ⟨w4.heap.size, 0, none⟩) 4 4) 4 magic) := Lib.hid (by rw [hw5]; exact magic_new w4)
  have r4 := o4.below b5
  have r3 := (R3.out.below b4).below b5
  have r2 := (R23.out.below b4).below b5
  have B5 := Lib.hid (B4.out.trans (b5.mono B4.out.size))
  clear o4 b4 b5 R3 R23 B3 B4
  obtain ⟨A2, c2, e2, _⟩ := id r2
  obtain ⟨A3, c3, e3, _⟩ := id r3
  obtain ⟨A4, c4, e4, _⟩ := id r4
  subst e2 e3 e4
  have R2 := Lib.hid r2
  have R3 := Lib.hid r3
  have R4 := Lib.hid r4
  clear r2 r3 r4
  have kc5 : (convert 44 44 (.slice (some ⟨w4.heap.size, 0, none⟩) 4 4)).run Tryz.prog (w4.alloc (.cells #[.int .u8 83, .int .u8 76, .int .u8 65, .int .u8 84] 5)) = .ok (.slice (some ⟨w4.heap.size, 0, none⟩) 4 4) w5 := by rw [hw5]; exact kc
  clear kc hw5
  go_wp2_with fail
  obtain ⟨w6, hw6⟩ : ∃ w6, w6 = w5.alloc (.cells #[.slice (some ⟨w4.heap.size, 0, none⟩) 4 4, .slice A2 4 c2, .slice A3 3 c3, .slice A4 6 c4] 44) := ⟨_, rfl⟩
  have b6 : Below w5.heap.size w5 w6 := by rw [hw6]; exact (Below.refl _ _).alloc (Nat.le_refl _) _
  have c0 : w6.cell? ⟨w5.heap.size, 0, none⟩ = some (.slice (some ⟨w4.heap.size, 0, none⟩) 4 4) := by rw [hw6, World.cell?_alloc_mark]; rfl
  have c1 : w6.cell? ⟨w5.heap.size, 1, none⟩ = some (.slice A2 4 c2) := by rw [hw6, World.cell?_alloc_mark]; rfl
  have c2' : w6.cell? ⟨w5.heap.size, 2, none⟩ = some (.slice A3 3 c3) := by rw [hw6, World.cell?_alloc_mark]; rfl
  have c3' : w6.cell? ⟨w5.heap.size, 3, none⟩ = some (.slice A4 6 c4) := by rw [hw6, World.cell?_alloc_mark]; rfl
  rw [← hw6]
  have K6 := Lib.hid (concat4_any w5.heap.size _ _ _ _ 4 4 3 6 magic (dig seq 4) (rowB (trip s b count) 1) (rowB (trip len hi lo) 2) w6 c0 c1 c2' c3' (M5.out.below b6) (R2.out.below b6) (R3.out.below b6) (R4.out.below b6) (by omega) (by omega))
  have B6 := Lib.hid (B5.out.trans (b6.mono B5.out.size))
  clear hw6 b6 c0 c1 c2' c3' kc5 M5 R2 R3 R4 B5
  with_reducible refine K6.out.mono ?_
  rintro e w7 ⟨v7, rfl, o7, b7⟩
  have B7 := Lib.hid (B6.out.trans (b7.mono B6.out.size))
  obtain ⟨A7, c7, e7, _, _, _, h7⟩ := o7
  subst e7
  have H7 := Lib.hid h7
  have EQ : Hid (cat4 magic 4 (dig seq 4) 4 (rowB (trip s b count) 1) 3 (rowB (trip len hi lo) 2) = headB s b seq count len r) := Lib.hid (by unfold headB; rw [EH.out, EL.out])
  rw [EQ.out] at H7
  clear K6 b7 h7 B6
  go_wp2_with fail
  with_reducible refine (close_any A7 17 c7 (headB s b seq count len r) w7 (by omega) H7.out).mono ?_
  rintro e w8 ⟨v8, rfl, hr8, hb8⟩
  have R8 := Lib.hid (hr8.base B7.out.size)
  have B8 := Lib.hid (B7.out.trans (hb8.mono B7.out.size))
  clear hr8 hb8
  go_wp2
  go_ret
  exact ⟨_, rfl, R8.out, B8.out⟩
end Go.Proofs.YtdocclkphffpkaaGreat
