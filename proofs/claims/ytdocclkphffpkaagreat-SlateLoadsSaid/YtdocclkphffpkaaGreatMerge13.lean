/- Encode, of a state that fits and has a text: the header, and the leaves behind it. Encode of what has no pages: a seq that is none, a state that does not fit. -/
import Derived.Test.YtdocclkphffpkaaGreatLfHead
import Derived.Test.YtdocclkphffpkaaGreatMerge7
import Derived.Test.YtdocclkphffpkaaGreatStWords
namespace Go.Proofs.YtdocclkphffpkaaGreat
open Go.RowKit

/-- Page i. -/
def encF (s b seq n : Nat) (f : Nat → Nat) (i : Nat) : Nat → Nat := if i = 0 then headF s b seq (pcount n) n (crc f n) else leafF seq n f (i - 1)

set_option maxRecDepth 20000 in
theorem encode_fits (K S : Nat → Nat) (V : Nat → Value) (s b seq n : Nat) (f : Nat → Nat) (w : World) (hs : s < 256) (hb : b < 256) (h1 : 1 ≤ seq) (h2 : seq ≤ 1073741824) (hn : n ≤ 10000)
    (hfit : ∀ W, Below w.heap.size w W → Calls Tryz.prog 45 #[.agg (scells K S V).toArray, .agg #[.int .i64 (s : Int), .int .i64 (b : Int)]] W (Fresh (.int .i64 0) W))
    (htext : ∀ W, Below w.heap.size w W → Calls Tryz.prog 46 #[.agg (scells K S V).toArray, .int .i64 (b : Int)] W fun e w' => ∃ v, e = .returned v ∧ Reads w' v n f ∧ Below W.heap.size W w') :
    Calls Tryz.prog 28 #[.agg (scells K S V).toArray, .agg #[.int .i64 (s : Int), .int .i64 (b : Int)], .int .i64 (seq : Int)] w fun e w' => ∃ v, e = .returned (.tuple #[v, .int .i64 0]) ∧ OwnP w' w.heap.size v (pcount n + 1) (fun _ => 64) (encF s b seq n f) ∧ Below w.heap.size w w' := by
  obtain ⟨w1, hw1⟩ : ∃ w1, w1 = (w.alloc (.cells (scells K S V).toArray 32)).alloc (.cells #[.int .i64 (s : Int), .int .i64 (b : Int)] 34) := ⟨_, rfl⟩
  have Z1 : Hid (StIs w1 w.heap.size K S V) := Lib.hid (by rw [hw1]; exact (st_new w K S V).below ((Below.refl _ _).alloc (Nat.le_refl _) _))
  have B1 : Hid (Below w.heap.size w w1) := Lib.hid (by rw [hw1]; exact ((Below.refl _ w).alloc (Nat.le_refl _) _).alloc (by simp) _)
  have C0 : Hid (w1.cell? ⟨w.heap.size + 1, 0, none⟩ = some (.int .i64 (s : Int))) := Lib.hid (by rw [hw1, ← World.size_alloc w (.cells (scells K S V).toArray 32), World.cell?_alloc_mark]; rfl)
  have C1 : Hid (w1.cell? ⟨w.heap.size + 1, 1, none⟩ = some (.int .i64 (b : Int))) := Lib.hid (by rw [hw1, ← World.size_alloc w (.cells (scells K S V).toArray 32), World.cell?_alloc_mark]; rfl)
  have FT := Lib.hid hfit
  have TX := Lib.hid htext
  have Q := Lib.hid (And.intro h1 h2)
  clear hfit htext h1 h2
  go_enter Tryz.func28, Tryz.ntmps28
  go_wp2_with fail
  rw [← hw1]
  clear hw1
  with_reducible refine (isSeq_yes seq _ Q.out).mono ?_
  rintro e w' ⟨rfl, rfl⟩
  have c0 := C0.out
  have c1 := C1.out
  go_wp2_with (refine wpList_load_mid rfl 32 (.tmp 3) rfl w.heap.size 0 rfl (scells K S V) _ (StIs.whole Z1.out) Tryz.underlying32 rfl (state_len _ _ _) ?_)
  with_reducible refine (FT.out w1 B1.out).mono ?_
  rintro e w2 ⟨rfl, hb2⟩
  have Z2 := Lib.hid (Z1.out.below hb2)
  have B2 := Lib.hid (B1.out.trans (hb2.mono B1.out.size))
  have d0 := cell_later hb2 C0.out
  have d1 := cell_later hb2 C1.out
  clear hb2 c0 c1 Z1 C0 C1 B1
  go_wp2_with (refine wpList_load_mid rfl 32 (.tmp 3) rfl w.heap.size 0 rfl (scells K S V) _ (StIs.whole Z2.out) Tryz.underlying32 rfl (state_len _ _ _) ?_)
  with_reducible refine (TX.out w2 B2.out).mono ?_
  rintro e w3 ⟨v3, rfl, hv3, hb3⟩
  obtain ⟨A3, c3, rfl, p1, p2, p3, p4⟩ := hv3
  have T3 := Lib.hid p4
  have B3 := Lib.hid (B2.out.trans (hb3.mono B2.out.size))
  have D0 := Lib.hid (cell_later hb3 d0)
  have D1 := Lib.hid (cell_later hb3 d1)
  have hA : A3 = none → n = 0 := fun e => by
    rcases Nat.eq_zero_or_pos n with h | h
    · exact h
    · obtain ⟨ad, e2⟩ := p4.addr h
      rw [e] at e2; cases e2
  have HA := Lib.hid hA
  clear hb3 p4 hA Z2 FT TX d0 d1 B2
  go_wp2_with fail
  with_reducible refine (leaves_in seq A3 n c3 f w3 (by have := Q.out; omega) (by omega) p1 p2 HA.out T3.out).mono ?_
  rintro e w4 ⟨v4, rfl, hp4, hb4⟩
  obtain ⟨A4, c4, e4⟩ := hp4.shape
  subst e4
  have P4 := Lib.hid (hp4.base B3.out.size)
  have T4 := Lib.hid (T3.out.below hb4)
  have B4 := Lib.hid (B3.out.trans (hb4.mono B3.out.size))
  have e0 := cell_later hb4 D0.out
  have e1 := cell_later hb4 D1.out
  clear hp4 hb4 D0 D1 T3 B3 HA
  have hpc : pcount n < 256 := by unfold pcount; omega
  have PC := Lib.hid hpc
  go_wp2_with fail
  with_reducible refine (header_any A3 n c3 f s b seq (pcount n) w4 hs hb (by have := Q.out; omega) PC.out (by omega) T4.out).mono ?_
  rintro e w5 ⟨v5, rfl, hr5, hb5⟩
  have P5 := Lib.hid (P4.out.below_ hb5)
  have R5 := Lib.hid (hr5.base B4.out.size)
  have B5 := Lib.hid (B4.out.trans (hb5.mono B4.out.size))
  obtain ⟨g5, c5, e5, _⟩ := hr5.open_
  subst e5
  clear hr5 hb5 T4 P4 B4 e0 e1
  go_wp2_with fail
  obtain ⟨w6, hw6⟩ : ∃ w6, w6 = (w5.alloc (.cells #[.slice (some ⟨g5, 0, none⟩) 64 c5] 44)).alloc (.cells #[.slice (some ⟨w5.heap.size, 0, none⟩) 1 1, .slice A4 (pcount n) c4] 22) := ⟨_, rfl⟩
  have b6 : Below w5.heap.size w5 w6 := by rw [hw6]; exact ((Below.refl _ _).alloc (Nat.le_refl _) _).alloc (by simp) _
  have q0 : w6.cell? ⟨w5.heap.size + 1, 0, none⟩ = some (.slice (some ⟨w5.heap.size, 0, none⟩) 1 1) := by rw [hw6, ← World.size_alloc w5 (.cells #[.slice (some ⟨g5, 0, none⟩) 64 c5] 44), World.cell?_alloc_mark]; rfl
  have q1 : w6.cell? ⟨w5.heap.size + 1, 1, none⟩ = some (.slice A4 (pcount n) c4) := by rw [hw6, ← World.size_alloc w5 (.cells #[.slice (some ⟨g5, 0, none⟩) 64 c5] 44), World.cell?_alloc_mark]; rfl
  have qu : w6.cell? ⟨w5.heap.size, 0, none⟩ = some (.slice (some ⟨g5, 0, none⟩) 64 c5) := by
    rw [hw6]
    exact cell_later (w := w5.alloc (.cells #[.slice (some ⟨g5, 0, none⟩) 64 c5] 44)) ((Below.refl _ _).alloc (Nat.le_refl _) _) (by rw [World.cell?_alloc_mark]; rfl)
  have K6 := Lib.hid (concatP_any (w5.heap.size + 1) _ _ w5.heap.size (pcount n) w.heap.size (fun _ => 64) (encF s b seq n f) w6 q0 q1 qu (by have := R5.out.below_ b6; unfold encF; rw [if_pos rfl]; exact this) ((P5.out.below_ b6).congr (fun _ _ => rfl) fun i _ j _ => by unfold encF; rw [if_neg (by omega), Nat.add_sub_cancel]) (by have := PC.out; omega) (Nat.le_trans B5.out.size b6.size))
  have B6 := Lib.hid (B5.out.trans (b6.mono B5.out.size))
  rw [← hw6]
  clear hw6 b6 q0 q1 qu P5 R5 B5
  with_reducible refine K6.out.mono ?_
  rintro e w7 ⟨v7, rfl, hp7, hb7⟩
  have P7 := Lib.hid hp7
  have B7 := Lib.hid (B6.out.trans (hb7.mono B6.out.size))
  clear hp7 hb7 K6 B6
  go_wp2
  go_ret2
  exact ⟨_, rfl, P7.out, B7.out⟩
end Go.Proofs.YtdocclkphffpkaaGreat

namespace Go.Proofs.YtdocclkphffpkaaGreat
open Go.RowKit

set_option maxRecDepth 20000 in
theorem encode_arg (K S : Nat → Nat) (V : Nat → Value) (s b seq : Int) (w : World) (hq : ¬ (1 ≤ seq ∧ seq ≤ 1073741824)) :
    Calls Tryz.prog 28 #[.agg (scells K S V).toArray, .agg #[.int .i64 s, .int .i64 b], .int .i64 seq] w fun e w' => e = .returned (.tuple #[.slice none 0 0, .int .i64 1]) ∧ Below w.heap.size w w' := by
  obtain ⟨w1, hw1⟩ : ∃ w1, w1 = (w.alloc (.cells (scells K S V).toArray 32)).alloc (.cells #[.int .i64 s, .int .i64 b] 34) := ⟨_, rfl⟩
  have B1 : Hid (Below w.heap.size w w1) := Lib.hid (by rw [hw1]; exact ((Below.refl _ w).alloc (Nat.le_refl _) _).alloc (by simp) _)
  have Q := Lib.hid hq
  clear hq
  go_enter Tryz.func28, Tryz.ntmps28
  go_wp2_with fail
  rw [← hw1]
  clear hw1
  with_reducible refine (isSeq_no seq _ Q.out).mono ?_
  rintro e w' ⟨rfl, rfl⟩
  go_wp2
  go_ret2
  exact ⟨rfl, B1.out⟩

set_option maxRecDepth 20000 in
theorem encode_unfit (K S : Nat → Nat) (V : Nat → Value) (s b : Int) (seq : Nat) (w : World) (h1 : 1 ≤ seq) (h2 : seq ≤ 1073741824)
    (hfit : ∀ W, Below w.heap.size w W → Calls Tryz.prog 45 #[.agg (scells K S V).toArray, .agg #[.int .i64 s, .int .i64 b]] W fun e w' => ∃ x, e = .returned (.int .i64 x) ∧ x ≠ 0 ∧ Below W.heap.size W w') :
    Calls Tryz.prog 28 #[.agg (scells K S V).toArray, .agg #[.int .i64 s, .int .i64 b], .int .i64 (seq : Int)] w fun e w' => ∃ x, e = .returned (.tuple #[.slice none 0 0, .int .i64 x]) ∧ x ≠ 0 ∧ Below w.heap.size w w' := by
  obtain ⟨w1, hw1⟩ : ∃ w1, w1 = (w.alloc (.cells (scells K S V).toArray 32)).alloc (.cells #[.int .i64 s, .int .i64 b] 34) := ⟨_, rfl⟩
  have Z1 : Hid (StIs w1 w.heap.size K S V) := Lib.hid (by rw [hw1]; exact (st_new w K S V).below ((Below.refl _ _).alloc (Nat.le_refl _) _))
  have B1 : Hid (Below w.heap.size w w1) := Lib.hid (by rw [hw1]; exact ((Below.refl _ w).alloc (Nat.le_refl _) _).alloc (by simp) _)
  have C0 : Hid (w1.cell? ⟨w.heap.size + 1, 0, none⟩ = some (.int .i64 s)) := Lib.hid (by rw [hw1, ← World.size_alloc w (.cells (scells K S V).toArray 32), World.cell?_alloc_mark]; rfl)
  have C1 : Hid (w1.cell? ⟨w.heap.size + 1, 1, none⟩ = some (.int .i64 b)) := Lib.hid (by rw [hw1, ← World.size_alloc w (.cells (scells K S V).toArray 32), World.cell?_alloc_mark]; rfl)
  have FT := Lib.hid hfit
  have Q := Lib.hid (And.intro h1 h2)
  clear hfit h1 h2
  go_enter Tryz.func28, Tryz.ntmps28
  go_wp2_with fail
  rw [← hw1]
  clear hw1
  with_reducible refine (isSeq_yes seq _ Q.out).mono ?_
  rintro e w' ⟨rfl, rfl⟩
  have c0 := C0.out
  have c1 := C1.out
  go_wp2_with (refine wpList_load_mid rfl 32 (.tmp 3) rfl w.heap.size 0 rfl (scells K S V) _ (StIs.whole Z1.out) Tryz.underlying32 rfl (state_len _ _ _) ?_)
  with_reducible refine (FT.out w1 B1.out).mono ?_
  rintro e w2 ⟨x, rfl, hx, hb2⟩
  have B2 := Lib.hid (B1.out.trans (hb2.mono B1.out.size))
  have hne : (x != 0) = true := by simpa using hx
  have X := Lib.hid hx
  clear hb2 hx
  go_wp2
  go_ret2
  exact ⟨_, rfl, X.out, B2.out⟩
end Go.Proofs.YtdocclkphffpkaaGreat

