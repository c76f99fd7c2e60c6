
/- A delta as five bytes: the document's answer. -/
import Derived.Test.YtmgeifolgdgapaaDeDecodeR
namespace Go.Proofs.Ytmgeifolgdgapaa
open Go.RowKit

/-- The bytes of a delta. -/
def encD (d : Del) (i : Nat) : Nat := if i = 0 then d.kind else if i = 1 then 16 * d.vol + d.other else if i = 2 then d.block else if i = 3 then d.a else d.b
theorem valid_small {d : Del} (h : Valid d) : d.kind ≤ 5 ∧ d.vol < 8 ∧ d.other < 8 ∧ d.block ≤ 32 ∧ d.a < 24 ∧ d.b < 16 := by
  obtain ⟨k, v, o, n, a, b⟩ := d
  dsimp only [Valid] at h ⊢
  omega
theorem encD_delOf {f : Nat → Nat} {i : Nat} (hi : i < 5) : encD (delOf f) i = f i := by
  unfold encD delOf
  rcases (by omega : i = 0 ∨ i = 1 ∨ i = 2 ∨ i = 3 ∨ i = 4) with rfl | rfl | rfl | rfl | rfl
  · rfl
  · show 16 * (f 1 / 16) + f 1 % 16 = f 1
    omega
  · rfl
  · rfl
  · rfl

set_option maxRecDepth 100000 in
set_option maxHeartbeats 1000000 in
theorem refEncodeD_ok (d : Del) (hv : Valid d) (w : World) :
    Calls Try.prog 26 #[d.val] w fun e w' => ∃ g, e = .returned (.tuple #[.slice (some ⟨g, 0, none⟩) 5 5, .int .i64 0]) ∧ Lies w' g (encD d) 5 ∧ w.heap.size ≤ g ∧ Below w.heap.size w w' := by
  have hs := valid_small hv
  have CK := fun W => refCheck_any d W (by omega) (by omega)
  have PT := fun W => refParts_byte d.a d.b W (by omega) (by omega)
  have hp : partsV d.a d.b = .tuple #[.int .i64 (d.a : Int), .int .i64 (d.b : Int), .int .i64 0] := by unfold partsV; rw [if_pos ⟨by omega, by omega⟩]
  rw [hp] at PT
  have HC := Lib.hid CK
  have HP := Lib.hid PT
  have VV := Lib.hid hv
  clear CK PT hp hv
  obtain ⟨k, v, o, n, a, b⟩ := d
  dsimp only at hs HP
  obtain ⟨b1, b2, b3, b4, b5, b6⟩ := hs
  have HC2 : Hid (∀ W, Calls Try.prog 38 #[.agg #[.int .i64 (k : Int), .int .i64 (v : Int), .int .i64 (o : Int), .int .i64 (n : Int), .complex .f64 (fl a) (fl b)]] W (Checked_ ⟨k, v, o, n, a, b⟩ W)) := Lib.hid HC.out
  show Calls Try.prog 26 #[.agg #[.int .i64 (k : Int), .int .i64 (v : Int), .int .i64 (o : Int), .int .i64 (n : Int), .complex .f64 (fl a) (fl b)]] w _
  clear HC
  go_enter Try.func26, Try.ntmps26
  go_wp2_with fail
  with_reducible refine (HC2.out _).mono ?_
  rintro e w1 ⟨⟨x, rfl, hx⟩, hb1⟩
  obtain rfl : x = 0 := hx.2 VV.out
  have B1 : Hid (Below w.heap.size w w1) := Lib.hid (((Below.refl _ w).alloc (Nat.le_refl _) _).trans (hb1.mono (by simp)))
  have H1 := Lib.hid (five_later hb1)
  obtain ⟨c0, c1, c2, c3, c4⟩ := five_cells H1.out
  clear hb1 hx
  go_wp2_with fail
  with_reducible refine (HP.out _).mono ?_
  rintro e w2 ⟨rfl, rfl⟩
  go_wp2
  go_ret2
  refine ⟨w1.heap.size, rfl, ?_, B1.out.size, B1.out.alloc B1.out.size _⟩
  unfold Lies
  rw [heap_alloc_new]
  rw [show 16 * (v : Int) + (o : Int) = ((16 * v + o : Nat) : Int) by omega]
  rfl
end Go.Proofs.Ytmgeifolgdgapaa
