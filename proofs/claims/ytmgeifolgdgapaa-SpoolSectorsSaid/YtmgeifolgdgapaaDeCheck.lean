
/- Deltas of small numbers, and whether they are any: the document's answer. -/
import Derived.Test.YtmgeifolgdgapaaDeWhole
import Derived.Test.YtmgeifolgdgapaaLawKit
namespace Go.Proofs.Ytmgeifolgdgapaa
open Go.RowKit

/-- A delta's fields. -/
structure Del where
  kind : Nat
  vol : Nat
  other : Nat
  block : Nat
  a : Nat
  b : Nat

def Del.cells (d : Del) : List Value := [.int .i64 (d.kind : Int), .int .i64 (d.vol : Int), .int .i64 (d.other : Int), .int .i64 (d.block : Int), .complex .f64 (fl d.a) (fl d.b)]
def Del.val (d : Del) : Value := .agg #[.int .i64 (d.kind : Int), .int .i64 (d.vol : Int), .int .i64 (d.other : Int), .int .i64 (d.block : Int), .complex .f64 (fl d.a) (fl d.b)]
def Del.Small (d : Del) : Prop := d.kind < 256 ∧ d.vol < 256 ∧ d.other < 256 ∧ d.block < 256 ∧ d.a < 256 ∧ d.b < 256
/-- A delta that may be. -/
def Valid (d : Del) : Prop :=
  d.vol < 8 ∧ ((d.kind = 1 ∧ 1 ≤ d.block ∧ d.block ≤ 32 ∧ d.other = 0 ∧ d.a = 0 ∧ d.b = 0) ∨ (d.kind = 2 ∧ d.block = 0 ∧ d.other = 0 ∧ d.a = 0 ∧ d.b = 0) ∨
    (d.kind = 3 ∧ d.other < 8 ∧ d.other ≠ d.vol ∧ d.block = 0 ∧ d.a = 0 ∧ d.b = 0) ∨ (d.kind = 4 ∧ d.block < 32 ∧ d.a < 24 ∧ d.b < 16 ∧ d.other = 0) ∨ (d.kind = 5 ∧ d.block < 32 ∧ d.other = 0 ∧ d.a = 0 ∧ d.b = 0))

def Checked_ (d : Del) (w : World) (e : Ending) (w' : World) : Prop := (∃ x, e = .returned (.int .i64 x) ∧ (x = 0 ↔ Valid d)) ∧ Below w.heap.size w w'

/-- A byte as a part is 0, or it is not. -/
theorem nil_cases (a : Nat) (ha : a < 256) : (a = 0 ∧ (FloatKind.f64.format.order (fl a) 0 == some .eq) = true) ∨ (a ≠ 0 ∧ (FloatKind.f64.format.order (fl a) 0 == some .eq) = false) := by
  have h := fb_nil a ha
  by_cases e : a = 0
  · exact .inl ⟨e, by rw [h, decide_eq_true e]⟩
  · exact .inr ⟨e, by rw [h, decide_eq_false e]⟩
theorem nil_int (n : Nat) : (n = 0 ∧ ((n : Int) != 0) = false ∧ ((n : Int) == 0) = true) ∨ (n ≠ 0 ∧ ((n : Int) != 0) = true ∧ ((n : Int) == 0) = false) := by
  by_cases e : n = 0
  · exact .inl ⟨e, by simp [e], by simp [e]⟩
  · exact .inr ⟨e, by simpa using e, by simpa using e⟩
theorem same_int (n m : Nat) : (n = m ∧ ((n : Int) != (m : Int)) = false ∧ ((n : Int) == (m : Int)) = true) ∨ (n ≠ m ∧ ((n : Int) != (m : Int)) = true ∧ ((n : Int) == (m : Int)) = false) := by
  by_cases e : n = m
  · exact .inl ⟨e, by simp [e], by simp [e]⟩
  · exact .inr ⟨e, by simp; omega, by simp; omega⟩

set_option maxRecDepth 100000 in
set_option maxHeartbeats 800000 in
theorem refCheck1 (v o n a b : Nat) (w : World) (h5 : a < 256) (h6 : b < 256) :
    Calls Try.prog 38 #[Del.val ⟨1, v, o, n, a, b⟩] w (Checked_ ⟨1, v, o, n, a, b⟩ w) := by
  show Calls Try.prog 38 #[.agg #[.int .i64 1, .int .i64 (v : Int), .int .i64 (o : Int), .int .i64 (n : Int), .complex .f64 (fl a) (fl b)]] w _
  by_cases h1 : v < 8
  · have d1 : decide ((v : Int) < 8) = true := by simp; omega
    by_cases h2 : 1 ≤ n
    · skip
      by_cases h3 : n ≤ 32
      · skip
        rcases nil_int o with ⟨h4, y4, z4⟩ | ⟨h4, y4, z4⟩
        · have H4 := Lib.hid h4
          clear h4
          rcases nil_cases a h5 with ⟨h5, z5⟩ | ⟨h5, z5⟩
          · have H5 := Lib.hid h5
            clear h5
            rcases nil_cases b h6 with ⟨h6, z6⟩ | ⟨h6, z6⟩
            · have H6 := Lib.hid h6
              clear h6
              go_enter Try.func38, Try.ntmps38
              go_wp2
              go_ret
              refine ⟨⟨_, rfl, ?_⟩, (Below.refl _ _).alloc (Nat.le_refl _) _⟩
              dsimp only [Valid]
              (have := H4.out; have := H5.out; have := H6.out; omega)
            · have H6 := Lib.hid h6
              clear h6
              go_enter Try.func38, Try.ntmps38
              go_wp2
              go_ret
              refine ⟨⟨_, rfl, ?_⟩, (Below.refl _ _).alloc (Nat.le_refl _) _⟩
              dsimp only [Valid]
              (have := H4.out; have := H5.out; have := H6.out; omega)
          · have H5 := Lib.hid h5
            clear h5
            go_enter Try.func38, Try.ntmps38
            go_wp2
            go_ret
            refine ⟨⟨_, rfl, ?_⟩, (Below.refl _ _).alloc (Nat.le_refl _) _⟩
            dsimp only [Valid]
            (have := H4.out; have := H5.out; omega)
        · have H4 := Lib.hid h4
          clear h4
          go_enter Try.func38, Try.ntmps38
          go_wp2
          go_ret
          refine ⟨⟨_, rfl, ?_⟩, (Below.refl _ _).alloc (Nat.le_refl _) _⟩
          dsimp only [Valid]
          (have := H4.out; omega)
      · skip
        go_enter Try.func38, Try.ntmps38
        go_wp2
        go_ret
        refine ⟨⟨_, rfl, ?_⟩, (Below.refl _ _).alloc (Nat.le_refl _) _⟩
        dsimp only [Valid]
        (omega)
    · skip
      go_enter Try.func38, Try.ntmps38
      go_wp2
      go_ret
      refine ⟨⟨_, rfl, ?_⟩, (Below.refl _ _).alloc (Nat.le_refl _) _⟩
      dsimp only [Valid]
      (omega)
  · have d1 : decide ((v : Int) < 8) = false := by simp; omega
    go_enter Try.func38, Try.ntmps38
    go_wp2
    go_ret
    refine ⟨⟨_, rfl, ?_⟩, (Below.refl _ _).alloc (Nat.le_refl _) _⟩
    dsimp only [Valid]
    (omega)
set_option maxRecDepth 100000 in
set_option maxHeartbeats 800000 in
theorem refCheck2 (v o n a b : Nat) (w : World) (h5 : a < 256) (h6 : b < 256) :
    Calls Try.prog 38 #[Del.val ⟨2, v, o, n, a, b⟩] w (Checked_ ⟨2, v, o, n, a, b⟩ w) := by
  show Calls Try.prog 38 #[.agg #[.int .i64 2, .int .i64 (v : Int), .int .i64 (o : Int), .int .i64 (n : Int), .complex .f64 (fl a) (fl b)]] w _
  by_cases h1 : v < 8
  · have d1 : decide ((v : Int) < 8) = true := by simp; omega
    rcases nil_int n with ⟨h2, y2, z2⟩ | ⟨h2, y2, z2⟩
    · have H2 := Lib.hid h2
      clear h2
      rcases nil_int o with ⟨h3, y3, z3⟩ | ⟨h3, y3, z3⟩
      · have H3 := Lib.hid h3
        clear h3
        rcases nil_cases a h5 with ⟨h4, z4⟩ | ⟨h4, z4⟩
        · have H4 := Lib.hid h4
          clear h4
          rcases nil_cases b h6 with ⟨h5, z5⟩ | ⟨h5, z5⟩
          · have H5 := Lib.hid h5
            clear h5
            go_enter Try.func38, Try.ntmps38
            go_wp2
            go_ret
            refine ⟨⟨_, rfl, ?_⟩, (Below.refl _ _).alloc (Nat.le_refl _) _⟩
            dsimp only [Valid]
            (have := H2.out; have := H3.out; have := H4.out; have := H5.out; omega)
          · have H5 := Lib.hid h5
            clear h5
            go_enter Try.func38, Try.ntmps38
            go_wp2
            go_ret
            refine ⟨⟨_, rfl, ?_⟩, (Below.refl _ _).alloc (Nat.le_refl _) _⟩
            dsimp only [Valid]
            (have := H2.out; have := H3.out; have := H4.out; have := H5.out; omega)
        · have H4 := Lib.hid h4
          clear h4
          go_enter Try.func38, Try.ntmps38
          go_wp2
          go_ret
          refine ⟨⟨_, rfl, ?_⟩, (Below.refl _ _).alloc (Nat.le_refl _) _⟩
          dsimp only [Valid]
          (have := H2.out; have := H3.out; have := H4.out; omega)
      · have H3 := Lib.hid h3
        clear h3
        go_enter Try.func38, Try.ntmps38
        go_wp2
        go_ret
        refine ⟨⟨_, rfl, ?_⟩, (Below.refl _ _).alloc (Nat.le_refl _) _⟩
        dsimp only [Valid]
        (have := H2.out; have := H3.out; omega)
    · have H2 := Lib.hid h2
      clear h2
      go_enter Try.func38, Try.ntmps38
      go_wp2
      go_ret
      refine ⟨⟨_, rfl, ?_⟩, (Below.refl _ _).alloc (Nat.le_refl _) _⟩
      dsimp only [Valid]
      (have := H2.out; omega)
  · have d1 : decide ((v : Int) < 8) = false := by simp; omega
    go_enter Try.func38, Try.ntmps38
    go_wp2
    go_ret
    refine ⟨⟨_, rfl, ?_⟩, (Below.refl _ _).alloc (Nat.le_refl _) _⟩
    dsimp only [Valid]
    (omega)
set_option maxRecDepth 100000 in
set_option maxHeartbeats 800000 in
theorem refCheck3 (v o n a b : Nat) (w : World) (h5 : a < 256) (h6 : b < 256) :
    Calls Try.prog 38 #[Del.val ⟨3, v, o, n, a, b⟩] w (Checked_ ⟨3, v, o, n, a, b⟩ w) := by
  show Calls Try.prog 38 #[.agg #[.int .i64 3, .int .i64 (v : Int), .int .i64 (o : Int), .int .i64 (n : Int), .complex .f64 (fl a) (fl b)]] w _
  by_cases h1 : v < 8
  · have d1 : decide ((v : Int) < 8) = true := by simp; omega
    by_cases h2 : o < 8
    · have d2 : decide ((o : Int) < 8) = true := by simp; omega
      rcases same_int o v with ⟨h3, y3, z3⟩ | ⟨h3, y3, z3⟩
      · have H3 := Lib.hid h3
        clear h3
        go_enter Try.func38, Try.ntmps38
        go_wp2
        go_ret
        refine ⟨⟨_, rfl, ?_⟩, (Below.refl _ _).alloc (Nat.le_refl _) _⟩
        dsimp only [Valid]
        (have := H3.out; omega)
      · have H3 := Lib.hid h3
        clear h3
        rcases nil_int n with ⟨h4, y4, z4⟩ | ⟨h4, y4, z4⟩
        · have H4 := Lib.hid h4
          clear h4
          rcases nil_cases a h5 with ⟨h5, z5⟩ | ⟨h5, z5⟩
          · have H5 := Lib.hid h5
            clear h5
            rcases nil_cases b h6 with ⟨h6, z6⟩ | ⟨h6, z6⟩
            · have H6 := Lib.hid h6
              clear h6
              go_enter Try.func38, Try.ntmps38
              go_wp2
              go_ret
              refine ⟨⟨_, rfl, ?_⟩, (Below.refl _ _).alloc (Nat.le_refl _) _⟩
              dsimp only [Valid]
              (have := H3.out; have := H4.out; have := H5.out; have := H6.out; omega)
            · have H6 := Lib.hid h6
              clear h6
              go_enter Try.func38, Try.ntmps38
              go_wp2
              go_ret
              refine ⟨⟨_, rfl, ?_⟩, (Below.refl _ _).alloc (Nat.le_refl _) _⟩
              dsimp only [Valid]
              (have := H3.out; have := H4.out; have := H5.out; have := H6.out; omega)
          · have H5 := Lib.hid h5
            clear h5
            go_enter Try.func38, Try.ntmps38
            go_wp2
            go_ret
            refine ⟨⟨_, rfl, ?_⟩, (Below.refl _ _).alloc (Nat.le_refl _) _⟩
            dsimp only [Valid]
            (have := H3.out; have := H4.out; have := H5.out; omega)
        · have H4 := Lib.hid h4
          clear h4
          go_enter Try.func38, Try.ntmps38
          go_wp2
          go_ret
          refine ⟨⟨_, rfl, ?_⟩, (Below.refl _ _).alloc (Nat.le_refl _) _⟩
          dsimp only [Valid]
          (have := H3.out; have := H4.out; omega)
    · have d2 : decide ((o : Int) < 8) = false := by simp; omega
      go_enter Try.func38, Try.ntmps38
      go_wp2
      go_ret
      refine ⟨⟨_, rfl, ?_⟩, (Below.refl _ _).alloc (Nat.le_refl _) _⟩
      dsimp only [Valid]
      (omega)
  · have d1 : decide ((v : Int) < 8) = false := by simp; omega
    go_enter Try.func38, Try.ntmps38
    go_wp2
    go_ret
    refine ⟨⟨_, rfl, ?_⟩, (Below.refl _ _).alloc (Nat.le_refl _) _⟩
    dsimp only [Valid]
    (omega)
set_option maxRecDepth 100000 in
set_option maxHeartbeats 800000 in
theorem refCheck5 (v o n a b : Nat) (w : World) (h5 : a < 256) (h6 : b < 256) :
    Calls Try.prog 38 #[Del.val ⟨5, v, o, n, a, b⟩] w (Checked_ ⟨5, v, o, n, a, b⟩ w) := by
  show Calls Try.prog 38 #[.agg #[.int .i64 5, .int .i64 (v : Int), .int .i64 (o : Int), .int .i64 (n : Int), .complex .f64 (fl a) (fl b)]] w _
  by_cases h1 : v < 8
  · have d1 : decide ((v : Int) < 8) = true := by simp; omega
    by_cases h2 : n < 32
    · have d2 : decide ((n : Int) < 32) = true := by simp; omega
      rcases nil_int o with ⟨h3, y3, z3⟩ | ⟨h3, y3, z3⟩
      · have H3 := Lib.hid h3
        clear h3
        rcases nil_cases a h5 with ⟨h4, z4⟩ | ⟨h4, z4⟩
        · have H4 := Lib.hid h4
          clear h4
          rcases nil_cases b h6 with ⟨h5, z5⟩ | ⟨h5, z5⟩
          · have H5 := Lib.hid h5
            clear h5
            go_enter Try.func38, Try.ntmps38
            go_wp2
            go_ret
            refine ⟨⟨_, rfl, ?_⟩, (Below.refl _ _).alloc (Nat.le_refl _) _⟩
            dsimp only [Valid]
            (have := H3.out; have := H4.out; have := H5.out; omega)
          · have H5 := Lib.hid h5
            clear h5
            go_enter Try.func38, Try.ntmps38
            go_wp2
            go_ret
            refine ⟨⟨_, rfl, ?_⟩, (Below.refl _ _).alloc (Nat.le_refl _) _⟩
            dsimp only [Valid]
            (have := H3.out; have := H4.out; have := H5.out; omega)
        · have H4 := Lib.hid h4
          clear h4
          go_enter Try.func38, Try.ntmps38
          go_wp2
          go_ret
          refine ⟨⟨_, rfl, ?_⟩, (Below.refl _ _).alloc (Nat.le_refl _) _⟩
          dsimp only [Valid]
          (have := H3.out; have := H4.out; omega)
      · have H3 := Lib.hid h3
        clear h3
        go_enter Try.func38, Try.ntmps38
        go_wp2
        go_ret
        refine ⟨⟨_, rfl, ?_⟩, (Below.refl _ _).alloc (Nat.le_refl _) _⟩
        dsimp only [Valid]
        (have := H3.out; omega)
    · have d2 : decide ((n : Int) < 32) = false := by simp; omega
      go_enter Try.func38, Try.ntmps38
      go_wp2
      go_ret
      refine ⟨⟨_, rfl, ?_⟩, (Below.refl _ _).alloc (Nat.le_refl _) _⟩
      dsimp only [Valid]
      (omega)
  · have d1 : decide ((v : Int) < 8) = false := by simp; omega
    go_enter Try.func38, Try.ntmps38
    go_wp2
    go_ret
    refine ⟨⟨_, rfl, ?_⟩, (Below.refl _ _).alloc (Nat.le_refl _) _⟩
    dsimp only [Valid]
    (omega)
end Go.Proofs.Ytmgeifolgdgapaa
