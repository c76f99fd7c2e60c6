/- Deltas of small numbers, and whether they are any: the document's answer. Whether small numbers are a delta: the package's answer. Whether a delta's own fields may be: the package's answer. Whether small numbers are a delta: the package's answer, any kind. Whether small numbers are a delta: the document's answer, any kind. -/
import Derived.Test.YtmgeifolgdgapaaDeWhole
import Derived.Test.YtmgeifolgdgapaaLawKit
namespace Go.Proofs.Ytmgeifolgdgapaa
open Go.RowKit

/-- A delta's fields. -/
structure Del where
  kind : Nat
  vol : Nat
  other : Nat
  block : Nat
  a : Nat
  b : Nat

def Del.cells (d : Del) : List Value := [.int .i64 (d.kind : Int), .int .i64 (d.vol : Int), .int .i64 (d.other : Int), .int .i64 (d.block : Int), .complex .f64 (fl d.a) (fl d.b)]
def Del.val (d : Del) : Value := .agg #[.int .i64 (d.kind : Int), .int .i64 (d.vol : Int), .int .i64 (d.other : Int), .int .i64 (d.block : Int), .complex .f64 (fl d.a) (fl d.b)]
def Del.Small (d : Del) : Prop := d.kind < 256 ∧ d.vol < 256 ∧ d.other < 256 ∧ d.block < 256 ∧ d.a < 256 ∧ d.b < 256
/-- A delta that may be. -/
def Valid (d : Del) : Prop :=
  d.vol < 8 ∧ ((d.kind = 1 ∧ 1 ≤ d.block ∧ d.block ≤ 32 ∧ d.other = 0 ∧ d.a = 0 ∧ d.b = 0) ∨ (d.kind = 2 ∧ d.block = 0 ∧ d.other = 0 ∧ d.a = 0 ∧ d.b = 0) ∨
    (d.kind = 3 ∧ d.other < 8 ∧ d.other ≠ d.vol ∧ d.block = 0 ∧ d.a = 0 ∧ d.b = 0) ∨ (d.kind = 4 ∧ d.block < 32 ∧ d.a < 24 ∧ d.b < 16 ∧ d.other = 0) ∨ (d.kind = 5 ∧ d.block < 32 ∧ d.other = 0 ∧ d.a = 0 ∧ d.b = 0))

def Checked_ (d : Del) (w : World) (e : Ending) (w' : World) : Prop := (∃ x, e = .returned (.int .i64 x) ∧ (x = 0 ↔ Valid d)) ∧ Below w.heap.size w w'

/-- A byte as a part is 0, or it is not. -/
theorem nil_cases (a : Nat) (ha : a < 256) : (a = 0 ∧ (FloatKind.f64.format.order (fl a) 0 == some .eq) = true) ∨ (a ≠ 0 ∧ (FloatKind.f64.format.order (fl a) 0 == some .eq) = false) := by
  have h := fb_nil a ha
  by_cases e : a = 0
  · exact .inl ⟨e, by rw [h, decide_eq_true e]⟩
  · exact .inr ⟨e, by rw [h, decide_eq_false e]⟩
theorem nil_int (n : Nat) : (n = 0 ∧ ((n : Int) != 0) = false ∧ ((n : Int) == 0) = true) ∨ (n ≠ 0 ∧ ((n : Int) != 0) = true ∧ ((n : Int) == 0) = false) := by
  by_cases e : n = 0
  · exact .inl ⟨e, by simp [e], by simp [e]⟩
  · exact .inr ⟨e, by simpa using e, by simpa using e⟩
theorem same_int (n m : Nat) : (n = m ∧ ((n : Int) != (m : Int)) = false ∧ ((n : Int) == (m : Int)) = true) ∨ (n ≠ m ∧ ((n : Int) != (m : Int)) = true ∧ ((n : Int) == (m : Int)) = false) := by
  by_cases e : n = m
  · exact .inl ⟨e, by simp [e], by simp [e]⟩
  · exact .inr ⟨e, by simp; omega, by simp; omega⟩

set_option maxRecDepth 100000 in
set_option maxHeartbeats 800000 in
theorem refCheck1 (v o n a b : Nat) (w : World) (h5 : a < 256) (h6 : b < 256) :
    Calls Try.prog 38 #[Del.val ⟨1, v, o, n, a, b⟩] w (Checked_ ⟨1, v, o, n, a, b⟩ w) := by
  show Calls Try.prog 38 #[.agg #[.int .i64 1, .int .i64 (v : Int), .int .i64 (o : Int), .int .i64 (n : Int), .complex .f64 (fl a) (fl b)]] w _
  by_cases h1 : v < 8
  · have d1 : decide ((v : Int) < 8) = true := by simp; omega
    by_cases h2 : 1 ≤ n
    · skip
      by_cases h3 : n ≤ 32
      · skip
        rcases nil_int o with ⟨h4, y4, z4⟩ | ⟨h4, y4, z4⟩
        · have H4 := Lib.hid h4
          clear h4
          rcases nil_cases a h5 with ⟨h5, z5⟩ | ⟨h5, z5⟩
          · have H5 := Lib.hid h5
            clear h5
            rcases nil_cases b h6 with ⟨h6, z6⟩ | ⟨h6, z6⟩
            · have H6 := Lib.hid h6
              clear h6
              go_enter Try.func38, Try.ntmps38
              go_wp2
              go_ret
              refine ⟨⟨_, rfl, ?_⟩, (Below.refl _ _).alloc (Nat.le_refl _) _⟩
              dsimp only [Valid]
              (have := H4.out; have := H5.out; have := H6.out; omega)
            · have H6 := Lib.hid h6
              clear h6
              go_enter Try.func38, Try.ntmps38
              go_wp2
              go_ret
              refine ⟨⟨_, rfl, ?_⟩, (Below.refl _ _).alloc (Nat.le_refl _) _⟩
              dsimp only [Valid]
              (have := H4.out; have := H5.out; have := H6.out; omega)
          · have H5 := Lib.hid h5
            clear h5
            go_enter Try.func38, Try.ntmps38
            go_wp2
            go_ret
            refine ⟨⟨_, rfl, ?_⟩, (Below.refl _ _).alloc (Nat.le_refl _) _⟩
            dsimp only [Valid]
            (have := H4.out; have := H5.out; omega)
        · have H4 := Lib.hid h4
          clear h4
          go_enter Try.func38, Try.ntmps38
          go_wp2
          go_ret
          refine ⟨⟨_, rfl, ?_⟩, (Below.refl _ _).alloc (Nat.le_refl _) _⟩
          dsimp only [Valid]
          (have := H4.out; omega)
      · skip
        go_enter Try.func38, Try.ntmps38
        go_wp2
        go_ret
        refine ⟨⟨_, rfl, ?_⟩, (Below.refl _ _).alloc (Nat.le_refl _) _⟩
        dsimp only [Valid]
        (omega)
    · skip
      go_enter Try.func38, Try.ntmps38
      go_wp2
      go_ret
      refine ⟨⟨_, rfl, ?_⟩, (Below.refl _ _).alloc (Nat.le_refl _) _⟩
      dsimp only [Valid]
      (omega)
  · have d1 : decide ((v : Int) < 8) = false := by simp; omega
    go_enter Try.func38, Try.ntmps38
    go_wp2
    go_ret
    refine ⟨⟨_, rfl, ?_⟩, (Below.refl _ _).alloc (Nat.le_refl _) _⟩
    dsimp only [Valid]
    (omega)
set_option maxRecDepth 100000 in
set_option maxHeartbeats 800000 in
theorem refCheck2 (v o n a b : Nat) (w : World) (h5 : a < 256) (h6 : b < 256) :
    Calls Try.prog 38 #[Del.val ⟨2, v, o, n, a, b⟩] w (Checked_ ⟨2, v, o, n, a, b⟩ w) := by
  show Calls Try.prog 38 #[.agg #[.int .i64 2, .int .i64 (v : Int), .int .i64 (o : Int), .int .i64 (n : Int), .complex .f64 (fl a) (fl b)]] w _
  by_cases h1 : v < 8
  · have d1 : decide ((v : Int) < 8) = true := by simp; omega
    rcases nil_int n with ⟨h2, y2, z2⟩ | ⟨h2, y2, z2⟩
    · have H2 := Lib.hid h2
      clear h2
      rcases nil_int o with ⟨h3, y3, z3⟩ | ⟨h3, y3, z3⟩
      · have H3 := Lib.hid h3
        clear h3
        rcases nil_cases a h5 with ⟨h4, z4⟩ | ⟨h4, z4⟩
        · have H4 := Lib.hid h4
          clear h4
          rcases nil_cases b h6 with ⟨h5, z5⟩ | ⟨h5, z5⟩
          · have H5 := Lib.hid h5
            clear h5
            go_enter Try.func38, Try.ntmps38
            go_wp2
            go_ret
            refine ⟨⟨_, rfl, ?_⟩, (Below.refl _ _).alloc (Nat.le_refl _) _⟩
            dsimp only [Valid]
            (have := H2.out; have := H3.out; have := H4.out; have := H5.out; omega)
          · have H5 := Lib.hid h5
            clear h5
            go_enter Try.func38, Try.ntmps38
            go_wp2
            go_ret
            refine ⟨⟨_, rfl, ?_⟩, (Below.refl _ _).alloc (Nat.le_refl _) _⟩
            dsimp only [Valid]
            (have := H2.out; have := H3.out; have := H4.out; have := H5.out; omega)
        · have H4 := Lib.hid h4
          clear h4
          go_enter Try.func38, Try.ntmps38
          go_wp2
          go_ret
          refine ⟨⟨_, rfl, ?_⟩, (Below.refl _ _).alloc (Nat.le_refl _) _⟩
          dsimp only [Valid]
          (have := H2.out; have := H3.out; have := H4.out; omega)
      · have H3 := Lib.hid h3
        clear h3
        go_enter Try.func38, Try.ntmps38
        go_wp2
        go_ret
        refine ⟨⟨_, rfl, ?_⟩, (Below.refl _ _).alloc (Nat.le_refl _) _⟩
        dsimp only [Valid]
        (have := H2.out; have := H3.out; omega)
    · have H2 := Lib.hid h2
      clear h2
      go_enter Try.func38, Try.ntmps38
      go_wp2
      go_ret
      refine ⟨⟨_, rfl, ?_⟩, (Below.refl _ _).alloc (Nat.le_refl _) _⟩
      dsimp only [Valid]
      (have := H2.out; omega)
  · have d1 : decide ((v : Int) < 8) = false := by simp; omega
    go_enter Try.func38, Try.ntmps38
    go_wp2
    go_ret
    refine ⟨⟨_, rfl, ?_⟩, (Below.refl _ _).alloc (Nat.le_refl _) _⟩
    dsimp only [Valid]
    (omega)
set_option maxRecDepth 100000 in
set_option maxHeartbeats 800000 in
theorem refCheck3 (v o n a b : Nat) (w : World) (h5 : a < 256) (h6 : b < 256) :
    Calls Try.prog 38 #[Del.val ⟨3, v, o, n, a, b⟩] w (Checked_ ⟨3, v, o, n, a, b⟩ w) := by
  show Calls Try.prog 38 #[.agg #[.int .i64 3, .int .i64 (v : Int), .int .i64 (o : Int), .int .i64 (n : Int), .complex .f64 (fl a) (fl b)]] w _
  by_cases h1 : v < 8
  · have d1 : decide ((v : Int) < 8) = true := by simp; omega
    by_cases h2 : o < 8
    · have d2 : decide ((o : Int) < 8) = true := by simp; omega
      rcases same_int o v with ⟨h3, y3, z3⟩ | ⟨h3, y3, z3⟩
      · have H3 := Lib.hid h3
        clear h3
        go_enter Try.func38, Try.ntmps38
        go_wp2
        go_ret
        refine ⟨⟨_, rfl, ?_⟩, (Below.refl _ _).alloc (Nat.le_refl _) _⟩
        dsimp only [Valid]
        (have := H3.out; omega)
      · have H3 := Lib.hid h3
        clear h3
        rcases nil_int n with ⟨h4, y4, z4⟩ | ⟨h4, y4, z4⟩
        · have H4 := Lib.hid h4
          clear h4
          rcases nil_cases a h5 with ⟨h5, z5⟩ | ⟨h5, z5⟩
          · have H5 := Lib.hid h5
            clear h5
            rcases nil_cases b h6 with ⟨h6, z6⟩ | ⟨h6, z6⟩
            · have H6 := Lib.hid h6
              clear h6
              go_enter Try.func38, Try.ntmps38
              go_wp2
              go_ret
              refine ⟨⟨_, rfl, ?_⟩, (Below.refl _ _).alloc (Nat.le_refl _) _⟩
              dsimp only [Valid]
              (have := H3.out; have := H4.out; have := H5.out; have := H6.out; omega)
            · have H6 := Lib.hid h6
              clear h6
              go_enter Try.func38, Try.ntmps38
              go_wp2
              go_ret
              refine ⟨⟨_, rfl, ?_⟩, (Below.refl _ _).alloc (Nat.le_refl _) _⟩
              dsimp only [Valid]
              (have := H3.out; have := H4.out; have := H5.out; have := H6.out; omega)
          · have H5 := Lib.hid h5
            clear h5
            go_enter Try.func38, Try.ntmps38
            go_wp2
            go_ret
            refine ⟨⟨_, rfl, ?_⟩, (Below.refl _ _).alloc (Nat.le_refl _) _⟩
            dsimp only [Valid]
            (have := H3.out; have := H4.out; have := H5.out; omega)
        · have H4 := Lib.hid h4
          clear h4
          go_enter Try.func38, Try.ntmps38
          go_wp2
          go_ret
          refine ⟨⟨_, rfl, ?_⟩, (Below.refl _ _).alloc (Nat.le_refl _) _⟩
          dsimp only [Valid]
          (have := H3.out; have := H4.out; omega)
    · have d2 : decide ((o : Int) < 8) = false := by simp; omega
      go_enter Try.func38, Try.ntmps38
      go_wp2
      go_ret
      refine ⟨⟨_, rfl, ?_⟩, (Below.refl _ _).alloc (Nat.le_refl _) _⟩
      dsimp only [Valid]
      (omega)
  · have d1 : decide ((v : Int) < 8) = false := by simp; omega
    go_enter Try.func38, Try.ntmps38
    go_wp2
    go_ret
    refine ⟨⟨_, rfl, ?_⟩, (Below.refl _ _).alloc (Nat.le_refl _) _⟩
    dsimp only [Valid]
    (omega)
set_option maxRecDepth 100000 in
set_option maxHeartbeats 800000 in
theorem refCheck5 (v o n a b : Nat) (w : World) (h5 : a < 256) (h6 : b < 256) :
    Calls Try.prog 38 #[Del.val ⟨5, v, o, n, a, b⟩] w (Checked_ ⟨5, v, o, n, a, b⟩ w) := by
  show Calls Try.prog 38 #[.agg #[.int .i64 5, .int .i64 (v : Int), .int .i64 (o : Int), .int .i64 (n : Int), .complex .f64 (fl a) (fl b)]] w _
  by_cases h1 : v < 8
  · have d1 : decide ((v : Int) < 8) = true := by simp; omega
    by_cases h2 : n < 32
    · have d2 : decide ((n : Int) < 32) = true := by simp; omega
      rcases nil_int o with ⟨h3, y3, z3⟩ | ⟨h3, y3, z3⟩
      · have H3 := Lib.hid h3
        clear h3
        rcases nil_cases a h5 with ⟨h4, z4⟩ | ⟨h4, z4⟩
        · have H4 := Lib.hid h4
          clear h4
          rcases nil_cases b h6 with ⟨h5, z5⟩ | ⟨h5, z5⟩
          · have H5 := Lib.hid h5
            clear h5
            go_enter Try.func38, Try.ntmps38
            go_wp2
            go_ret
            refine ⟨⟨_, rfl, ?_⟩, (Below.refl _ _).alloc (Nat.le_refl _) _⟩
            dsimp only [Valid]
            (have := H3.out; have := H4.out; have := H5.out; omega)
          · have H5 := Lib.hid h5
            clear h5
            go_enter Try.func38, Try.ntmps38
            go_wp2
            go_ret
            refine ⟨⟨_, rfl, ?_⟩, (Below.refl _ _).alloc (Nat.le_refl _) _⟩
            dsimp only [Valid]
            (have := H3.out; have := H4.out; have := H5.out; omega)
        · have H4 := Lib.hid h4
          clear h4
          go_enter Try.func38, Try.ntmps38
          go_wp2
          go_ret
          refine ⟨⟨_, rfl, ?_⟩, (Below.refl _ _).alloc (Nat.le_refl _) _⟩
          dsimp only [Valid]
          (have := H3.out; have := H4.out; omega)
      · have H3 := Lib.hid h3
        clear h3
        go_enter Try.func38, Try.ntmps38
        go_wp2
        go_ret
        refine ⟨⟨_, rfl, ?_⟩, (Below.refl _ _).alloc (Nat.le_refl _) _⟩
        dsimp only [Valid]
        (have := H3.out; omega)
    · have d2 : decide ((n : Int) < 32) = false := by simp; omega
      go_enter Try.func38, Try.ntmps38
      go_wp2
      go_ret
      refine ⟨⟨_, rfl, ?_⟩, (Below.refl _ _).alloc (Nat.le_refl _) _⟩
      dsimp only [Valid]
      (omega)
  · have d1 : decide ((v : Int) < 8) = false := by simp; omega
    go_enter Try.func38, Try.ntmps38
    go_wp2
    go_ret
    refine ⟨⟨_, rfl, ?_⟩, (Below.refl _ _).alloc (Nat.le_refl _) _⟩
    dsimp only [Valid]
    (omega)
end Go.Proofs.Ytmgeifolgdgapaa

namespace Go.Proofs.Ytmgeifolgdgapaa
open Go.RowKit

theorem isVolume_any (v : Nat) (w : World) :
    Calls Try.prog 42 #[.int .i64 (v : Int)] w fun e w' => e = .returned (.bool (decide (v < 8))) ∧ w = w' := by
  by_cases h : v < 8
  · rw [decide_eq_true h]
    have d : decide ((v : Int) < 8) = true := by simp; omega
    go_enter Try.func42, Try.ntmps42
    go_wp2
    go_ret
    exact ⟨rfl, rfl⟩
  · rw [decide_eq_false h]
    have d : decide ((v : Int) < 8) = false := by simp; omega
    go_enter Try.func42, Try.ntmps42
    go_wp2
    go_ret
    exact ⟨rfl, rfl⟩
theorem isSize_byte (n : Nat) (w : World) :
    Calls Try.prog 53 #[.int .i64 (n : Int)] w fun e w' => e = .returned (.bool (decide (1 ≤ n ∧ n ≤ 32))) ∧ w = w' := by
  by_cases h1 : 1 ≤ n
  · by_cases h2 : n ≤ 32
    · rw [decide_eq_true ⟨h1, h2⟩]
      have d : decide ((n : Int) ≤ 32) = true := by simp; omega
      go_enter Try.func53, Try.ntmps53
      go_wp2
      go_ret
      exact ⟨rfl, rfl⟩
    · rw [decide_eq_false fun h => h2 h.2]
      have d : decide ((n : Int) ≤ 32) = false := by simp; omega
      go_enter Try.func53, Try.ntmps53
      go_wp2
      go_ret
      exact ⟨rfl, rfl⟩
  · rw [decide_eq_false fun h => h1 h.1]
    go_enter Try.func53, Try.ntmps53
    go_wp2
    go_ret
    exact ⟨rfl, rfl⟩

theorem delta_size : (Try.prog.info? 52).map (·.size) = some 5 := by kernel_rfl
theorem second_new (w : World) (X Y : Obj) : ((w.alloc X).alloc Y).heap[w.heap.size + 1]? = some Y := by
  have h := heap_alloc_new (w.alloc X) Y
  rw [World.size_alloc] at h
  exact h
theorem put_complex (a : Addr) (x y : Nat) (m : Mode) (w : World) : (store a (.complex .f64 x y) m).run Try.prog w = stored Try.prog w a (.complex .f64 x y) m := run_store Try.prog w a _ m rfl

set_option maxRecDepth 100000 in
set_option maxHeartbeats 800000 in
theorem other1 (v o n a b : Nat) (w : World) :
    Calls Try.prog 44 #[.agg #[.int .i64 1, .int .i64 (v : Int), .int .i64 (o : Int), .int .i64 (n : Int), .complex .f64 (fl a) (fl b)]] w fun e w' => e = .returned (.agg #[.int .i64 0, .int .i64 0, .int .i64 (o : Int), .int .i64 0, .complex .f64 (fl a) (fl b)]) ∧ Below w.heap.size w w' := by
  have hst := put_complex
  go_enter Try.func44, Try.ntmps44
  go_wp2
  refine bodyPost_ret (results_cell_row (fn := Try.f44) rfl _ _ (w.heap.size + 1) 52 _ (0, 0) _ rfl (second_new w _ _) Try.underlying52 rfl delta_size) rfl ?_
  exact ⟨rfl, ((Below.refl _ w).alloc (Nat.le_refl _) _).alloc (by simp) _⟩

set_option maxRecDepth 100000 in
set_option maxHeartbeats 800000 in
theorem other2 (v o n a b : Nat) (w : World) :
    Calls Try.prog 44 #[.agg #[.int .i64 2, .int .i64 (v : Int), .int .i64 (o : Int), .int .i64 (n : Int), .complex .f64 (fl a) (fl b)]] w fun e w' => e = .returned (.agg #[.int .i64 0, .int .i64 0, .int .i64 (o : Int), .int .i64 (n : Int), .complex .f64 (fl a) (fl b)]) ∧ Below w.heap.size w w' := by
  have hst := put_complex
  go_enter Try.func44, Try.ntmps44
  go_wp2
  refine bodyPost_ret (results_cell_row (fn := Try.f44) rfl _ _ (w.heap.size + 1) 52 _ (0, 0) _ rfl (second_new w _ _) Try.underlying52 rfl delta_size) rfl ?_
  exact ⟨rfl, ((Below.refl _ w).alloc (Nat.le_refl _) _).alloc (by simp) _⟩

set_option maxRecDepth 100000 in
set_option maxHeartbeats 800000 in
theorem other3 (v o n a b : Nat) (w : World) :
    Calls Try.prog 44 #[.agg #[.int .i64 3, .int .i64 (v : Int), .int .i64 (o : Int), .int .i64 (n : Int), .complex .f64 (fl a) (fl b)]] w fun e w' => e = .returned (.agg #[.int .i64 0, .int .i64 0, .int .i64 0, .int .i64 (n : Int), .complex .f64 (fl a) (fl b)]) ∧ Below w.heap.size w w' := by
  have hst := put_complex
  go_enter Try.func44, Try.ntmps44
  go_wp2
  refine bodyPost_ret (results_cell_row (fn := Try.f44) rfl _ _ (w.heap.size + 1) 52 _ (0, 0) _ rfl (second_new w _ _) Try.underlying52 rfl delta_size) rfl ?_
  exact ⟨rfl, ((Below.refl _ w).alloc (Nat.le_refl _) _).alloc (by simp) _⟩

set_option maxRecDepth 100000 in
set_option maxHeartbeats 800000 in
theorem other4 (v o n a b : Nat) (w : World) :
    Calls Try.prog 44 #[.agg #[.int .i64 4, .int .i64 (v : Int), .int .i64 (o : Int), .int .i64 (n : Int), .complex .f64 (fl a) (fl b)]] w fun e w' => e = .returned (.agg #[.int .i64 0, .int .i64 0, .int .i64 (o : Int), .int .i64 0, .complex .f64 0 0]) ∧ Below w.heap.size w w' := by
  have hst := put_complex
  go_enter Try.func44, Try.ntmps44
  go_wp2
  refine bodyPost_ret (results_cell_row (fn := Try.f44) rfl _ _ (w.heap.size + 1) 52 _ (0, 0) _ rfl (second_new w _ _) Try.underlying52 rfl delta_size) rfl ?_
  exact ⟨rfl, ((Below.refl _ w).alloc (Nat.le_refl _) _).alloc (by simp) _⟩

set_option maxRecDepth 100000 in
set_option maxHeartbeats 800000 in
theorem other5 (v o n a b : Nat) (w : World) :
    Calls Try.prog 44 #[.agg #[.int .i64 5, .int .i64 (v : Int), .int .i64 (o : Int), .int .i64 (n : Int), .complex .f64 (fl a) (fl b)]] w fun e w' => e = .returned (.agg #[.int .i64 0, .int .i64 0, .int .i64 (o : Int), .int .i64 0, .complex .f64 (fl a) (fl b)]) ∧ Below w.heap.size w w' := by
  have hst := put_complex
  go_enter Try.func44, Try.ntmps44
  go_wp2
  refine bodyPost_ret (results_cell_row (fn := Try.f44) rfl _ _ (w.heap.size + 1) 52 _ (0, 0) _ rfl (second_new w _ _) Try.underlying52 rfl delta_size) rfl ?_
  exact ⟨rfl, ((Below.refl _ w).alloc (Nat.le_refl _) _).alloc (by simp) _⟩

end Go.Proofs.Ytmgeifolgdgapaa

namespace Go.Proofs.Ytmgeifolgdgapaa
open Go.RowKit

set_option maxRecDepth 100000 in
set_option maxHeartbeats 800000 in
theorem fields1 (v o n a b : Nat) (w : World) :
    Calls Try.prog 43 #[.agg #[.int .i64 1, .int .i64 (v : Int), .int .i64 (o : Int), .int .i64 (n : Int), .complex .f64 (fl a) (fl b)]] w (Fresh (.bool (decide (1 ≤ n ∧ n ≤ 32))) w) := by
  have hc := isSize_byte n
  obtain ⟨x, hx⟩ : ∃ x, x = decide (1 ≤ n ∧ n ≤ 32) := ⟨_, rfl⟩
  rw [← hx] at hc ⊢
  have HC := Lib.hid hc
  clear hc hx
  go_enter Try.func43, Try.ntmps43
  go_wp2_with fail
  with_reducible refine (HC.out _).mono ?_
  rintro e w1 ⟨rfl, rfl⟩
  go_wp2
  go_ret
  exact ⟨rfl, (Below.refl _ w).alloc (Nat.le_refl _) _⟩

set_option maxRecDepth 100000 in
set_option maxHeartbeats 800000 in
theorem fields2 (v o n a b : Nat) (w : World) :
    Calls Try.prog 43 #[.agg #[.int .i64 2, .int .i64 (v : Int), .int .i64 (o : Int), .int .i64 (n : Int), .complex .f64 (fl a) (fl b)]] w (Fresh (.bool true) w) := by
  go_enter Try.func43, Try.ntmps43
  go_wp2
  go_ret
  exact ⟨rfl, (Below.refl _ w).alloc (Nat.le_refl _) _⟩

set_option maxRecDepth 100000 in
set_option maxHeartbeats 800000 in
theorem fields3 (v o n a b : Nat) (w : World) :
    Calls Try.prog 43 #[.agg #[.int .i64 3, .int .i64 (v : Int), .int .i64 (o : Int), .int .i64 (n : Int), .complex .f64 (fl a) (fl b)]] w (Fresh (.bool (decide (o < 8 ∧ o ≠ v))) w) := by
  have hc := isVolume_any o
  by_cases h1 : o < 8
  · rw [decide_eq_true h1] at hc
    have HC := Lib.hid hc
    clear hc
    rcases same_int o v with ⟨h2, y, z⟩ | ⟨h2, y, z⟩
    · rw [decide_eq_false fun h => h.2 h2]
      clear h2
      go_enter Try.func43, Try.ntmps43
      go_wp2_with fail
      with_reducible refine (HC.out _).mono ?_
      rintro e w1 ⟨rfl, rfl⟩
      go_wp2
      go_ret
      exact ⟨rfl, (Below.refl _ w).alloc (Nat.le_refl _) _⟩
    · rw [decide_eq_true ⟨h1, h2⟩]
      clear h2
      go_enter Try.func43, Try.ntmps43
      go_wp2_with fail
      with_reducible refine (HC.out _).mono ?_
      rintro e w1 ⟨rfl, rfl⟩
      go_wp2
      go_ret
      exact ⟨rfl, (Below.refl _ w).alloc (Nat.le_refl _) _⟩
  · rw [decide_eq_false h1] at hc
    rw [decide_eq_false fun h => h1 h.1]
    have HC := Lib.hid hc
    clear hc
    go_enter Try.func43, Try.ntmps43
    go_wp2_with fail
    with_reducible refine (HC.out _).mono ?_
    rintro e w1 ⟨rfl, rfl⟩
    go_wp2
    go_ret
    exact ⟨rfl, (Below.refl _ w).alloc (Nat.le_refl _) _⟩

set_option maxRecDepth 100000 in
set_option maxHeartbeats 800000 in
theorem fields4 (v o n a b : Nat) (w : World) (h5 : a < 256) (h6 : b < 256) :
    Calls Try.prog 43 #[.agg #[.int .i64 4, .int .i64 (v : Int), .int .i64 (o : Int), .int .i64 (n : Int), .complex .f64 (fl a) (fl b)]] w (Fresh (.bool (decide ((a < 24 ∧ b < 16) ∧ n < 32))) w) := by
  have hc := fun w => whole_byte a b w h5 h6
  by_cases h1 : a < 24 ∧ b < 16
  · rw [decide_eq_true h1] at hc
    have HC := Lib.hid hc
    have H1 := Lib.hid h1
    clear hc h1
    by_cases h2 : n < 32
    · have d : decide ((n : Int) < 32) = true := by simp; omega
      rw [decide_eq_true ⟨H1.out, h2⟩]
      go_enter Try.func43, Try.ntmps43
      go_wp2_with fail
      with_reducible refine (HC.out _).mono ?_
      rintro e w1 ⟨rfl, rfl⟩
      go_wp2
      go_ret
      exact ⟨rfl, (Below.refl _ w).alloc (Nat.le_refl _) _⟩
    · have d : decide ((n : Int) < 32) = false := by simp; omega
      rw [decide_eq_false fun h => h2 h.2]
      go_enter Try.func43, Try.ntmps43
      go_wp2_with fail
      with_reducible refine (HC.out _).mono ?_
      rintro e w1 ⟨rfl, rfl⟩
      go_wp2
      go_ret
      exact ⟨rfl, (Below.refl _ w).alloc (Nat.le_refl _) _⟩
  · rw [decide_eq_false h1] at hc
    rw [decide_eq_false fun h => h1 h.1]
    have HC := Lib.hid hc
    clear hc
    go_enter Try.func43, Try.ntmps43
    go_wp2_with fail
    with_reducible refine (HC.out _).mono ?_
    rintro e w1 ⟨rfl, rfl⟩
    go_wp2
    go_ret
    exact ⟨rfl, (Below.refl _ w).alloc (Nat.le_refl _) _⟩

set_option maxRecDepth 100000 in
set_option maxHeartbeats 800000 in
theorem fields5 (v o n a b : Nat) (w : World) :
    Calls Try.prog 43 #[.agg #[.int .i64 5, .int .i64 (v : Int), .int .i64 (o : Int), .int .i64 (n : Int), .complex .f64 (fl a) (fl b)]] w (Fresh (.bool (decide (n < 32))) w) := by
  by_cases h2 : n < 32
  · have d : decide ((n : Int) < 32) = true := by simp; omega
    rw [decide_eq_true h2]
    go_enter Try.func43, Try.ntmps43
    go_wp2
    go_ret
    exact ⟨rfl, (Below.refl _ w).alloc (Nat.le_refl _) _⟩
  · have d : decide ((n : Int) < 32) = false := by simp; omega
    rw [decide_eq_false h2]
    go_enter Try.func43, Try.ntmps43
    go_wp2
    go_ret
    exact ⟨rfl, (Below.refl _ w).alloc (Nat.le_refl _) _⟩

end Go.Proofs.Ytmgeifolgdgapaa

namespace Go.Proofs.Ytmgeifolgdgapaa
open Go.RowKit

/-- Five cells of one block. -/
theorem five_cells {w : World} {g : Nat} {x0 x1 x2 x3 x4 : Value} {T : TypeId} (h : w.heap[g]? = some (.cells #[x0, x1, x2, x3, x4] T (0, 0))) :
    w.cell? ⟨g, 0, none⟩ = some x0 ∧ w.cell? ⟨g, 1, none⟩ = some x1 ∧ w.cell? ⟨g, 2, none⟩ = some x2 ∧ w.cell? ⟨g, 3, none⟩ = some x3 ∧ w.cell? ⟨g, 4, none⟩ = some x4 :=
  ⟨by rw [cell_of_row w g 0 _ _ _ h]; rfl, by rw [cell_of_row w g 1 _ _ _ h]; rfl, by rw [cell_of_row w g 2 _ _ _ h]; rfl, by rw [cell_of_row w g 3 _ _ _ h]; rfl, by rw [cell_of_row w g 4 _ _ _ h]; rfl⟩
theorem five_later {w w' : World} {x0 x1 x2 x3 x4 : Value} {T : TypeId} (hb : Below (w.alloc (.cells #[x0, x1, x2, x3, x4] T)).heap.size (w.alloc (.cells #[x0, x1, x2, x3, x4] T)) w') : w'.heap[w.heap.size]? = some (.cells #[x0, x1, x2, x3, x4] T (0, 0)) :=
  (hb.block _ (by simp)).trans (heap_alloc_new w _)

/-- A place of two bytes, compared with 0. -/
theorem run_equal_nil (w : World) (d : Nat) {a b : Nat} (ha : a < 256) (hb : b < 256) : (Op.equalIn (d + 1) 50 (.complex .f64 (fl a) (fl b)) (.complex .f64 0 0)).run Try.prog w = .ok (decide (a = 0 ∧ b = 0)) w := by
  have h1 : (Op.equalIn (d + 1) 50 (.complex .f64 (fl a) (fl b)) (.complex .f64 0 0)).run Try.prog w = .ok (Op.floatEq .f64 (fl a) 0 && Op.floatEq .f64 (fl b) 0) w := by
    simp only [Op.equalIn, Sem.run_bind, run_underlying Try.underlying50 w, Result.andThen_ok]
    rfl
  rw [h1]
  unfold Op.floatEq
  rw [fb_nil a ha, fb_nil b hb, Bool.decide_and]

set_option maxRecDepth 100000 in
set_option maxHeartbeats 800000 in
theorem check1 (v o n a b : Nat) (w : World) (h5 : a < 256) (h6 : b < 256) :
    Calls Try.prog 28 #[Del.val ⟨1, v, o, n, a, b⟩] w (Checked_ ⟨1, v, o, n, a, b⟩ w) := by
  show Calls Try.prog 28 #[.agg #[.int .i64 1, .int .i64 (v : Int), .int .i64 (o : Int), .int .i64 (n : Int), .complex .f64 (fl a) (fl b)]] w _
  have hv := isVolume_any v
  by_cases h1 : v < 8
  · rw [decide_eq_true h1] at hv
    have HV := Lib.hid hv
    clear hv
    have hf := fun w => fields1 v o n a b w
    by_cases hp : 1 ≤ n ∧ n ≤ 32
    · rw [decide_eq_true hp] at hf
      have FF := Lib.hid hf
      have PP := Lib.hid hp
      clear hf hp
      go_enter Try.func28, Try.ntmps28
      go_wp2_with fail
      with_reducible refine (HV.out _).mono ?_
      rintro e w1 ⟨rfl, rfl⟩
      go_wp2_with fail
      with_reducible refine (FF.out _).mono ?_
      rintro e w1 ⟨rfl, hb1⟩
      have B1 : Hid (Below w.heap.size w w1) := Lib.hid (((Below.refl _ w).alloc (Nat.le_refl _) _).trans (hb1.mono (by simp)))
      have H1 := Lib.hid (five_later hb1)
      obtain ⟨c0, c1, c2, c3, c4⟩ := five_cells H1.out
      clear hb1
      go_wp2_with fail
      with_reducible refine (other1 v o n a b _).mono ?_
      rintro e w2 ⟨rfl, hb2⟩
      have B2 : Hid (Below w.heap.size w w2) := Lib.hid (B1.out.trans (hb2.mono B1.out.size))
      clear hb2 c0 c1 c2 c3 c4
      have hq := fun w => run_equal_nil w 9998 h5 h6
      by_cases hx : a = 0 ∧ b = 0
      · have XE := Lib.hid hx
        rw [decide_eq_true hx] at hq
        clear hx
        go_wp2
        all_goals go_ret
        all_goals refine ⟨⟨_, rfl, ?_⟩, B2.out⟩
        all_goals dsimp only [Valid]
        all_goals (have := PP.out; have := XE.out; omega)
      · have XE := Lib.hid hx
        rw [decide_eq_false hx] at hq
        clear hx
        go_wp2
        all_goals go_ret
        all_goals refine ⟨⟨_, rfl, ?_⟩, B2.out⟩
        all_goals dsimp only [Valid]
        all_goals (have := PP.out; have := XE.out; omega)
    · rw [decide_eq_false hp] at hf
      have FF := Lib.hid hf
      have PP := Lib.hid hp
      clear hf hp
      go_enter Try.func28, Try.ntmps28
      go_wp2_with fail
      with_reducible refine (HV.out _).mono ?_
      rintro e w1 ⟨rfl, rfl⟩
      go_wp2_with fail
      with_reducible refine (FF.out _).mono ?_
      rintro e w1 ⟨rfl, hb1⟩
      have B1 : Hid (Below w.heap.size w w1) := Lib.hid (((Below.refl _ w).alloc (Nat.le_refl _) _).trans (hb1.mono (by simp)))
      clear hb1
      go_wp2
      go_ret
      refine ⟨⟨_, rfl, ?_⟩, B1.out⟩
      dsimp only [Valid]
      have := PP.out
      omega
  · rw [decide_eq_false h1] at hv
    have HV := Lib.hid hv
    clear hv
    go_enter Try.func28, Try.ntmps28
    go_wp2_with fail
    with_reducible refine (HV.out _).mono ?_
    rintro e w1 ⟨rfl, rfl⟩
    go_wp2
    go_ret
    refine ⟨⟨_, rfl, ?_⟩, (Below.refl _ w).alloc (Nat.le_refl _) _⟩
    dsimp only [Valid]
    omega

set_option maxRecDepth 100000 in
set_option maxHeartbeats 800000 in
theorem check2 (v o n a b : Nat) (w : World) (h5 : a < 256) (h6 : b < 256) :
    Calls Try.prog 28 #[Del.val ⟨2, v, o, n, a, b⟩] w (Checked_ ⟨2, v, o, n, a, b⟩ w) := by
  show Calls Try.prog 28 #[.agg #[.int .i64 2, .int .i64 (v : Int), .int .i64 (o : Int), .int .i64 (n : Int), .complex .f64 (fl a) (fl b)]] w _
  have hv := isVolume_any v
  by_cases h1 : v < 8
  · rw [decide_eq_true h1] at hv
    have HV := Lib.hid hv
    clear hv
    go_enter Try.func28, Try.ntmps28
    go_wp2_with fail
    with_reducible refine (HV.out _).mono ?_
    rintro e w1 ⟨rfl, rfl⟩
    go_wp2_with fail
    with_reducible refine (fields2 v o n a b _).mono ?_
    rintro e w1 ⟨rfl, hb1⟩
    have B1 : Hid (Below w.heap.size w w1) := Lib.hid (((Below.refl _ w).alloc (Nat.le_refl _) _).trans (hb1.mono (by simp)))
    have H1 := Lib.hid (five_later hb1)
    obtain ⟨c0, c1, c2, c3, c4⟩ := five_cells H1.out
    clear hb1
    go_wp2_with fail
    with_reducible refine (other2 v o n a b _).mono ?_
    rintro e w2 ⟨rfl, hb2⟩
    have B2 : Hid (Below w.heap.size w w2) := Lib.hid (B1.out.trans (hb2.mono B1.out.size))
    clear hb2 c0 c1 c2 c3 c4
    have hq := fun w => run_equal_nil w 9998 h5 h6
    by_cases hx : a = 0 ∧ b = 0
    · have XE := Lib.hid hx
      rw [decide_eq_true hx] at hq
      clear hx
      go_wp2
      all_goals go_ret
      all_goals refine ⟨⟨_, rfl, ?_⟩, B2.out⟩
      all_goals dsimp only [Valid]
      all_goals (have := XE.out; omega)
    · have XE := Lib.hid hx
      rw [decide_eq_false hx] at hq
      clear hx
      go_wp2
      all_goals go_ret
      all_goals refine ⟨⟨_, rfl, ?_⟩, B2.out⟩
      all_goals dsimp only [Valid]
      all_goals (have := XE.out; omega)
  · rw [decide_eq_false h1] at hv
    have HV := Lib.hid hv
    clear hv
    go_enter Try.func28, Try.ntmps28
    go_wp2_with fail
    with_reducible refine (HV.out _).mono ?_
    rintro e w1 ⟨rfl, rfl⟩
    go_wp2
    go_ret
    refine ⟨⟨_, rfl, ?_⟩, (Below.refl _ w).alloc (Nat.le_refl _) _⟩
    dsimp only [Valid]
    omega

set_option maxRecDepth 100000 in
set_option maxHeartbeats 800000 in
theorem check3 (v o n a b : Nat) (w : World) (h5 : a < 256) (h6 : b < 256) :
    Calls Try.prog 28 #[Del.val ⟨3, v, o, n, a, b⟩] w (Checked_ ⟨3, v, o, n, a, b⟩ w) := by
  show Calls Try.prog 28 #[.agg #[.int .i64 3, .int .i64 (v : Int), .int .i64 (o : Int), .int .i64 (n : Int), .complex .f64 (fl a) (fl b)]] w _
  have hv := isVolume_any v
  by_cases h1 : v < 8
  · rw [decide_eq_true h1] at hv
    have HV := Lib.hid hv
    clear hv
    have hf := fun w => fields3 v o n a b w
    by_cases hp : o < 8 ∧ o ≠ v
    · rw [decide_eq_true hp] at hf
      have FF := Lib.hid hf
      have PP := Lib.hid hp
      clear hf hp
      go_enter Try.func28, Try.ntmps28
      go_wp2_with fail
      with_reducible refine (HV.out _).mono ?_
      rintro e w1 ⟨rfl, rfl⟩
      go_wp2_with fail
      with_reducible refine (FF.out _).mono ?_
      rintro e w1 ⟨rfl, hb1⟩
      have B1 : Hid (Below w.heap.size w w1) := Lib.hid (((Below.refl _ w).alloc (Nat.le_refl _) _).trans (hb1.mono (by simp)))
      have H1 := Lib.hid (five_later hb1)
      obtain ⟨c0, c1, c2, c3, c4⟩ := five_cells H1.out
      clear hb1
      go_wp2_with fail
      with_reducible refine (other3 v o n a b _).mono ?_
      rintro e w2 ⟨rfl, hb2⟩
      have B2 : Hid (Below w.heap.size w w2) := Lib.hid (B1.out.trans (hb2.mono B1.out.size))
      clear hb2 c0 c1 c2 c3 c4
      have hq := fun w => run_equal_nil w 9998 h5 h6
      by_cases hx : a = 0 ∧ b = 0
      · have XE := Lib.hid hx
        rw [decide_eq_true hx] at hq
        clear hx
        go_wp2
        all_goals go_ret
        all_goals refine ⟨⟨_, rfl, ?_⟩, B2.out⟩
        all_goals dsimp only [Valid]
        all_goals (have := PP.out; have := XE.out; omega)
      · have XE := Lib.hid hx
        rw [decide_eq_false hx] at hq
        clear hx
        go_wp2
        all_goals go_ret
        all_goals refine ⟨⟨_, rfl, ?_⟩, B2.out⟩
        all_goals dsimp only [Valid]
        all_goals (have := PP.out; have := XE.out; omega)
    · rw [decide_eq_false hp] at hf
      have FF := Lib.hid hf
      have PP := Lib.hid hp
      clear hf hp
      go_enter Try.func28, Try.ntmps28
      go_wp2_with fail
      with_reducible refine (HV.out _).mono ?_
      rintro e w1 ⟨rfl, rfl⟩
      go_wp2_with fail
      with_reducible refine (FF.out _).mono ?_
      rintro e w1 ⟨rfl, hb1⟩
      have B1 : Hid (Below w.heap.size w w1) := Lib.hid (((Below.refl _ w).alloc (Nat.le_refl _) _).trans (hb1.mono (by simp)))
      clear hb1
      go_wp2
      go_ret
      refine ⟨⟨_, rfl, ?_⟩, B1.out⟩
      dsimp only [Valid]
      have := PP.out
      omega
  · rw [decide_eq_false h1] at hv
    have HV := Lib.hid hv
    clear hv
    go_enter Try.func28, Try.ntmps28
    go_wp2_with fail
    with_reducible refine (HV.out _).mono ?_
    rintro e w1 ⟨rfl, rfl⟩
    go_wp2
    go_ret
    refine ⟨⟨_, rfl, ?_⟩, (Below.refl _ w).alloc (Nat.le_refl _) _⟩
    dsimp only [Valid]
    omega

set_option maxRecDepth 100000 in
set_option maxHeartbeats 800000 in
theorem check4 (v o n a b : Nat) (w : World) (h5 : a < 256) (h6 : b < 256) :
    Calls Try.prog 28 #[Del.val ⟨4, v, o, n, a, b⟩] w (Checked_ ⟨4, v, o, n, a, b⟩ w) := by
  show Calls Try.prog 28 #[.agg #[.int .i64 4, .int .i64 (v : Int), .int .i64 (o : Int), .int .i64 (n : Int), .complex .f64 (fl a) (fl b)]] w _
  have hv := isVolume_any v
  by_cases h1 : v < 8
  · rw [decide_eq_true h1] at hv
    have HV := Lib.hid hv
    clear hv
    have hf := fun w => fields4 v o n a b w h5 h6
    by_cases hp : (a < 24 ∧ b < 16) ∧ n < 32
    · rw [decide_eq_true hp] at hf
      have FF := Lib.hid hf
      have PP := Lib.hid hp
      clear hf hp
      go_enter Try.func28, Try.ntmps28
      go_wp2_with fail
      with_reducible refine (HV.out _).mono ?_
      rintro e w1 ⟨rfl, rfl⟩
      go_wp2_with fail
      with_reducible refine (FF.out _).mono ?_
      rintro e w1 ⟨rfl, hb1⟩
      have B1 : Hid (Below w.heap.size w w1) := Lib.hid (((Below.refl _ w).alloc (Nat.le_refl _) _).trans (hb1.mono (by simp)))
      have H1 := Lib.hid (five_later hb1)
      obtain ⟨c0, c1, c2, c3, c4⟩ := five_cells H1.out
      clear hb1
      go_wp2_with fail
      with_reducible refine (other4 v o n a b _).mono ?_
      rintro e w2 ⟨rfl, hb2⟩
      have B2 : Hid (Below w.heap.size w w2) := Lib.hid (B1.out.trans (hb2.mono B1.out.size))
      clear hb2 c0 c1 c2 c3 c4
      have hq : ∀ w, (Op.equalIn 9999 50 (.complex .f64 0 0) (.complex .f64 0 0)).run Try.prog w = .ok true w := fun w => by
        have h := run_equal_nil w 9998 (a := 0) (b := 0) (by omega) (by omega)
        rw [fl_nil] at h
        exact h
      go_wp2
      all_goals go_ret
      all_goals refine ⟨⟨_, rfl, ?_⟩, B2.out⟩
      all_goals dsimp only [Valid]
      all_goals (have := PP.out; omega)
    · rw [decide_eq_false hp] at hf
      have FF := Lib.hid hf
      have PP := Lib.hid hp
      clear hf hp
      go_enter Try.func28, Try.ntmps28
      go_wp2_with fail
      with_reducible refine (HV.out _).mono ?_
      rintro e w1 ⟨rfl, rfl⟩
      go_wp2_with fail
      with_reducible refine (FF.out _).mono ?_
      rintro e w1 ⟨rfl, hb1⟩
      have B1 : Hid (Below w.heap.size w w1) := Lib.hid (((Below.refl _ w).alloc (Nat.le_refl _) _).trans (hb1.mono (by simp)))
      clear hb1
      go_wp2
      go_ret
      refine ⟨⟨_, rfl, ?_⟩, B1.out⟩
      dsimp only [Valid]
      have := PP.out
      omega
  · rw [decide_eq_false h1] at hv
    have HV := Lib.hid hv
    clear hv
    go_enter Try.func28, Try.ntmps28
    go_wp2_with fail
    with_reducible refine (HV.out _).mono ?_
    rintro e w1 ⟨rfl, rfl⟩
    go_wp2
    go_ret
    refine ⟨⟨_, rfl, ?_⟩, (Below.refl _ w).alloc (Nat.le_refl _) _⟩
    dsimp only [Valid]
    omega

set_option maxRecDepth 100000 in
set_option maxHeartbeats 800000 in
theorem check5 (v o n a b : Nat) (w : World) (h5 : a < 256) (h6 : b < 256) :
    Calls Try.prog 28 #[Del.val ⟨5, v, o, n, a, b⟩] w (Checked_ ⟨5, v, o, n, a, b⟩ w) := by
  show Calls Try.prog 28 #[.agg #[.int .i64 5, .int .i64 (v : Int), .int .i64 (o : Int), .int .i64 (n : Int), .complex .f64 (fl a) (fl b)]] w _
  have hv := isVolume_any v
  by_cases h1 : v < 8
  · rw [decide_eq_true h1] at hv
    have HV := Lib.hid hv
    clear hv
    have hf := fun w => fields5 v o n a b w
    by_cases hp : n < 32
    · rw [decide_eq_true hp] at hf
      have FF := Lib.hid hf
      have PP := Lib.hid hp
      clear hf hp
      go_enter Try.func28, Try.ntmps28
      go_wp2_with fail
      with_reducible refine (HV.out _).mono ?_
      rintro e w1 ⟨rfl, rfl⟩
      go_wp2_with fail
      with_reducible refine (FF.out _).mono ?_
      rintro e w1 ⟨rfl, hb1⟩
      have B1 : Hid (Below w.heap.size w w1) := Lib.hid (((Below.refl _ w).alloc (Nat.le_refl _) _).trans (hb1.mono (by simp)))
      have H1 := Lib.hid (five_later hb1)
      obtain ⟨c0, c1, c2, c3, c4⟩ := five_cells H1.out
      clear hb1
      go_wp2_with fail
      with_reducible refine (other5 v o n a b _).mono ?_
      rintro e w2 ⟨rfl, hb2⟩
      have B2 : Hid (Below w.heap.size w w2) := Lib.hid (B1.out.trans (hb2.mono B1.out.size))
      clear hb2 c0 c1 c2 c3 c4
      have hq := fun w => run_equal_nil w 9998 h5 h6
      by_cases hx : a = 0 ∧ b = 0
      · have XE := Lib.hid hx
        rw [decide_eq_true hx] at hq
        clear hx
        go_wp2
        all_goals go_ret
        all_goals refine ⟨⟨_, rfl, ?_⟩, B2.out⟩
        all_goals dsimp only [Valid]
        all_goals (have := PP.out; have := XE.out; omega)
      · have XE := Lib.hid hx
        rw [decide_eq_false hx] at hq
        clear hx
        go_wp2
        all_goals go_ret
        all_goals refine ⟨⟨_, rfl, ?_⟩, B2.out⟩
        all_goals dsimp only [Valid]
        all_goals (have := PP.out; have := XE.out; omega)
    · rw [decide_eq_false hp] at hf
      have FF := Lib.hid hf
      have PP := Lib.hid hp
      clear hf hp
      go_enter Try.func28, Try.ntmps28
      go_wp2_with fail
      with_reducible refine (HV.out _).mono ?_
      rintro e w1 ⟨rfl, rfl⟩
      go_wp2_with fail
      with_reducible refine (FF.out _).mono ?_
      rintro e w1 ⟨rfl, hb1⟩
      have B1 : Hid (Below w.heap.size w w1) := Lib.hid (((Below.refl _ w).alloc (Nat.le_refl _) _).trans (hb1.mono (by simp)))
      clear hb1
      go_wp2
      go_ret
      refine ⟨⟨_, rfl, ?_⟩, B1.out⟩
      dsimp only [Valid]
      have := PP.out
      omega
  · rw [decide_eq_false h1] at hv
    have HV := Lib.hid hv
    clear hv
    go_enter Try.func28, Try.ntmps28
    go_wp2_with fail
    with_reducible refine (HV.out _).mono ?_
    rintro e w1 ⟨rfl, rfl⟩
    go_wp2
    go_ret
    refine ⟨⟨_, rfl, ?_⟩, (Below.refl _ w).alloc (Nat.le_refl _) _⟩
    dsimp only [Valid]
    omega

set_option maxRecDepth 100000 in
set_option maxHeartbeats 800000 in
theorem check0 (k v o n a b : Nat) (w : World) (hk : k = 0 ∨ 5 < k) :
    Calls Try.prog 28 #[Del.val ⟨k, v, o, n, a, b⟩] w (Checked_ ⟨k, v, o, n, a, b⟩ w) := by
  show Calls Try.prog 28 #[.agg #[.int .i64 (k : Int), .int .i64 (v : Int), .int .i64 (o : Int), .int .i64 (n : Int), .complex .f64 (fl a) (fl b)]] w _
  rcases hk with h0 | h5
  · have e1 : decide ((k : Int) < 1) = true := by simp; omega
    have H0 := Lib.hid h0
    clear h0
    go_enter Try.func28, Try.ntmps28
    go_wp2
    go_ret
    refine ⟨⟨_, rfl, ?_⟩, (Below.refl _ w).alloc (Nat.le_refl _) _⟩
    dsimp only [Valid]
    have := H0.out
    omega
  · have e1 : decide ((k : Int) < 1) = false := by simp; omega
    have e2 : decide ((5 : Int) < (k : Int)) = true := by simp; omega
    go_enter Try.func28, Try.ntmps28
    go_wp2
    go_ret
    refine ⟨⟨_, rfl, ?_⟩, (Below.refl _ w).alloc (Nat.le_refl _) _⟩
    dsimp only [Valid]
    omega

theorem dcheck_any (d : Del) (w : World) (h5 : d.a < 256) (h6 : d.b < 256) : Calls Try.prog 28 #[d.val] w (Checked_ d w) := by
  obtain ⟨k, v, o, n, a, b⟩ := d
  rcases (by omega : k = 1 ∨ k = 2 ∨ k = 3 ∨ k = 4 ∨ k = 5 ∨ (k = 0 ∨ 5 < k)) with rfl | rfl | rfl | rfl | rfl | hk
  · exact check1 v o n a b w h5 h6
  · exact check2 v o n a b w h5 h6
  · exact check3 v o n a b w h5 h6
  · exact check4 v o n a b w h5 h6
  · exact check5 v o n a b w h5 h6
  · exact check0 k v o n a b w hk
end Go.Proofs.Ytmgeifolgdgapaa

namespace Go.Proofs.Ytmgeifolgdgapaa
open Go.RowKit

set_option maxRecDepth 100000 in
set_option maxHeartbeats 800000 in
theorem refCheck4 (v o n a b : Nat) (w : World) (h5 : a < 256) (h6 : b < 256) :
    Calls Try.prog 38 #[Del.val ⟨4, v, o, n, a, b⟩] w (Checked_ ⟨4, v, o, n, a, b⟩ w) := by
  show Calls Try.prog 38 #[.agg #[.int .i64 4, .int .i64 (v : Int), .int .i64 (o : Int), .int .i64 (n : Int), .complex .f64 (fl a) (fl b)]] w _
  have hW := fun w => refWhole_byte a b w h5 h6
  by_cases hv : v < 8
  · have d1 : decide ((v : Int) < 8) = true := by simp; omega
    by_cases hn : n < 32
    · have d2 : decide ((n : Int) < 32) = true := by simp; omega
      by_cases hw : a < 24 ∧ b < 16
      · rw [decide_eq_true hw] at hW
        have HW := Lib.hid hW
        have AB := Lib.hid hw
        clear hW hw
        rcases nil_int o with ⟨o0, y, z⟩ | ⟨o0, y, z⟩
        · have O0 := Lib.hid o0
          clear o0
          go_enter Try.func38, Try.ntmps38
          go_wp2_with fail
          with_reducible refine (HW.out _).mono ?_
          rintro e w1 ⟨rfl, rfl⟩
          go_wp2
          go_ret
          refine ⟨⟨_, rfl, ?_⟩, (Below.refl _ _).alloc (Nat.le_refl _) _⟩
          dsimp only [Valid]
          have := O0.out
          have := AB.out
          omega
        · have O0 := Lib.hid o0
          clear o0
          go_enter Try.func38, Try.ntmps38
          go_wp2_with fail
          with_reducible refine (HW.out _).mono ?_
          rintro e w1 ⟨rfl, rfl⟩
          go_wp2
          go_ret
          refine ⟨⟨_, rfl, ?_⟩, (Below.refl _ _).alloc (Nat.le_refl _) _⟩
          dsimp only [Valid]
          have := O0.out
          omega
      · rw [decide_eq_false hw] at hW
        have HW := Lib.hid hW
        have AB := Lib.hid hw
        clear hW hw
        go_enter Try.func38, Try.ntmps38
        go_wp2_with fail
        with_reducible refine (HW.out _).mono ?_
        rintro e w1 ⟨rfl, rfl⟩
        go_wp2
        go_ret
        refine ⟨⟨_, rfl, ?_⟩, (Below.refl _ _).alloc (Nat.le_refl _) _⟩
        dsimp only [Valid]
        have := AB.out
        omega
    · have d2 : decide ((n : Int) < 32) = false := by simp; omega
      clear hW
      go_enter Try.func38, Try.ntmps38
      go_wp2
      go_ret
      refine ⟨⟨_, rfl, ?_⟩, (Below.refl _ _).alloc (Nat.le_refl _) _⟩
      dsimp only [Valid]
      omega
  · have d1 : decide ((v : Int) < 8) = false := by simp; omega
    clear hW
    go_enter Try.func38, Try.ntmps38
    go_wp2
    go_ret
    refine ⟨⟨_, rfl, ?_⟩, (Below.refl _ _).alloc (Nat.le_refl _) _⟩
    dsimp only [Valid]
    omega

set_option maxRecDepth 100000 in
set_option maxHeartbeats 800000 in
theorem refCheck0 (k v o n a b : Nat) (w : World) (hk : k = 0 ∨ 5 < k) :
    Calls Try.prog 38 #[Del.val ⟨k, v, o, n, a, b⟩] w (Checked_ ⟨k, v, o, n, a, b⟩ w) := by
  show Calls Try.prog 38 #[.agg #[.int .i64 (k : Int), .int .i64 (v : Int), .int .i64 (o : Int), .int .i64 (n : Int), .complex .f64 (fl a) (fl b)]] w _
  have e1 : ((k : Int) == 1) = false := by simp; omega
  have e2 : ((k : Int) == 2) = false := by simp; omega
  have e3 : ((k : Int) == 3) = false := by simp; omega
  have e4 : ((k : Int) == 4) = false := by simp; omega
  have e5 : ((k : Int) == 5) = false := by simp; omega
  have HK := Lib.hid hk
  clear hk
  go_enter Try.func38, Try.ntmps38
  go_wp2
  go_ret
  refine ⟨⟨_, rfl, ?_⟩, (Below.refl _ _).alloc (Nat.le_refl _) _⟩
  dsimp only [Valid]
  have := HK.out
  omega

theorem refCheck_any (d : Del) (w : World) (h5 : d.a < 256) (h6 : d.b < 256) : Calls Try.prog 38 #[d.val] w (Checked_ d w) := by
  obtain ⟨k, v, o, n, a, b⟩ := d
  rcases (by omega : k = 1 ∨ k = 2 ∨ k = 3 ∨ k = 4 ∨ k = 5 ∨ (k = 0 ∨ 5 < k)) with rfl | rfl | rfl | rfl | rfl | hk
  · exact refCheck1 v o n a b w h5 h6
  · exact refCheck2 v o n a b w h5 h6
  · exact refCheck3 v o n a b w h5 h6
  · exact refCheck4 v o n a b w h5 h6
  · exact refCheck5 v o n a b w h5 h6
  · exact refCheck0 k v o n a b w hk
end Go.Proofs.Ytmgeifolgdgapaa

