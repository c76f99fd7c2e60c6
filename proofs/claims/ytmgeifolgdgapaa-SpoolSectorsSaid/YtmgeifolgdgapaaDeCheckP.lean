
/- Whether small numbers are a delta: the package's answer, any kind. -/
import Derived.Test.YtmgeifolgdgapaaDeFields
namespace Go.Proofs.Ytmgeifolgdgapaa
open Go.RowKit

/-- Five cells of one block. -/
theorem five_cells {w : World} {g : Nat} {x0 x1 x2 x3 x4 : Value} {T : TypeId} (h : w.heap[g]? = some (.cells #[x0, x1, x2, x3, x4] T (0, 0))) :
    w.cell? ⟨g, 0, none⟩ = some x0 ∧ w.cell? ⟨g, 1, none⟩ = some x1 ∧ w.cell? ⟨g, 2, none⟩ = some x2 ∧ w.cell? ⟨g, 3, none⟩ = some x3 ∧ w.cell? ⟨g, 4, none⟩ = some x4 :=
  ⟨by rw [cell_of_row w g 0 _ _ _ h]; rfl, by rw [cell_of_row w g 1 _ _ _ h]; rfl, by rw [cell_of_row w g 2 _ _ _ h]; rfl, by rw [cell_of_row w g 3 _ _ _ h]; rfl, by rw [cell_of_row w g 4 _ _ _ h]; rfl⟩
theorem five_later {w w' : World} {x0 x1 x2 x3 x4 : Value} {T : TypeId} (hb : Below (w.alloc (.cells #[x0, x1, x2, x3, x4] T)).heap.size (w.alloc (.cells #[x0, x1, x2, x3, x4] T)) w') : w'.heap[w.heap.size]? = some (.cells #[x0, x1, x2, x3, x4] T (0, 0)) :=
  (hb.block _ (by simp)).trans (heap_alloc_new w _)

/-- A place of two bytes, compared with 0. -/
theorem run_equal_nil (w : World) (d : Nat) {a b : Nat} (ha : a < 256) (hb : b < 256) : (Op.equalIn (d + 1) 50 (.complex .f64 (fl a) (fl b)) (.complex .f64 0 0)).run Try.prog w = .ok (decide (a = 0 ∧ b = 0)) w := by
  have h1 : (Op.equalIn (d + 1) 50 (.complex .f64 (fl a) (fl b)) (.complex .f64 0 0)).run Try.prog w = .ok (Op.floatEq .f64 (fl a) 0 && Op.floatEq .f64 (fl b) 0) w := by
    simp only [Op.equalIn, Sem.run_bind, run_underlying Try.underlying50 w, Result.andThen_ok]
    rfl
  rw [h1]
  unfold Op.floatEq
  rw [fb_nil a ha, fb_nil b hb, Bool.decide_and]

set_option maxRecDepth 100000 in
set_option maxHeartbeats 800000 in
theorem check1 (v o n a b : Nat) (w : World) (h5 : a < 256) (h6 : b < 256) :
    Calls Try.prog 28 #[Del.val ⟨1, v, o, n, a, b⟩] w (Checked_ ⟨1, v, o, n, a, b⟩ w) := by
  show Calls Try.prog 28 #[.agg #[.int .i64 1, .int .i64 (v : Int), .int .i64 (o : Int), .int .i64 (n : Int), .complex .f64 (fl a) (fl b)]] w _
  have hv := isVolume_any v
  by_cases h1 : v < 8
  · rw [decide_eq_true h1] at hv
    have HV := Lib.hid hv
    clear hv
    have hf := fun w => fields1 v o n a b w
    by_cases hp : 1 ≤ n ∧ n ≤ 32
    · rw [decide_eq_true hp] at hf
      have FF := Lib.hid hf
      have PP := Lib.hid hp
      clear hf hp
      go_enter Try.func28, Try.ntmps28
      go_wp2_with fail
      with_reducible refine (HV.out _).mono ?_
      rintro e w1 ⟨rfl, rfl⟩
      go_wp2_with fail
      with_reducible refine (FF.out _).mono ?_
      rintro e w1 ⟨rfl, hb1⟩
      have B1 : Hid (Below w.heap.size w w1) := Lib.hid (((Below.refl _ w).alloc (Nat.le_refl _) _).trans (hb1.mono (by simp)))
      have H1 := Lib.hid (five_later hb1)
      obtain ⟨c0, c1, c2, c3, c4⟩ := five_cells H1.out
      clear hb1
      go_wp2_with fail
      with_reducible refine (other1 v o n a b _).mono ?_
      rintro e w2 ⟨rfl, hb2⟩
      have B2 : Hid (Below w.heap.size w w2) := Lib.hid (B1.out.trans (hb2.mono B1.out.size))
      clear hb2 c0 c1 c2 c3 c4
      have hq := fun w => run_equal_nil w 9998 h5 h6
      by_cases hx : a = 0 ∧ b = 0
      · have XE := Lib.hid hx
        rw [decide_eq_true hx] at hq
        clear hx
        go_wp2
        all_goals go_ret
        all_goals refine ⟨⟨_, rfl, ?_⟩, B2.out⟩
        all_goals dsimp only [Valid]
        all_goals (have := PP.out; have := XE.out; omega)
      · have XE := Lib.hid hx
        rw [decide_eq_false hx] at hq
        clear hx
        go_wp2
        all_goals go_ret
        all_goals refine ⟨⟨_, rfl, ?_⟩, B2.out⟩
        all_goals dsimp only [Valid]
        all_goals (have := PP.out; have := XE.out; omega)
    · rw [decide_eq_false hp] at hf
      have FF := Lib.hid hf
      have PP := Lib.hid hp
      clear hf hp
      go_enter Try.func28, Try.ntmps28
      go_wp2_with fail
      with_reducible refine (HV.out _).mono ?_
      rintro e w1 ⟨rfl, rfl⟩
      go_wp2_with fail
      with_reducible refine (FF.out _).mono ?_
      rintro e w1 ⟨rfl, hb1⟩
      have B1 : Hid (Below w.heap.size w w1) := Lib.hid (((Below.refl _ w).alloc (Nat.le_refl _) _).trans (hb1.mono (by simp)))
      clear hb1
      go_wp2
      go_ret
      refine ⟨⟨_, rfl, ?_⟩, B1.out⟩
      dsimp only [Valid]
      have := PP.out
      omega
  · rw [decide_eq_false h1] at hv
    have HV := Lib.hid hv
    clear hv
    go_enter Try.func28, Try.ntmps28
    go_wp2_with fail
    with_reducible refine (HV.out _).mono ?_
    rintro e w1 ⟨rfl, rfl⟩
    go_wp2
    go_ret
    refine ⟨⟨_, rfl, ?_⟩, (Below.refl _ w).alloc (Nat.le_refl _) _⟩
    dsimp only [Valid]
    omega

set_option maxRecDepth 100000 in
set_option maxHeartbeats 800000 in
theorem check2 (v o n a b : Nat) (w : World) (h5 : a < 256) (h6 : b < 256) :
    Calls Try.prog 28 #[Del.val ⟨2, v, o, n, a, b⟩] w (Checked_ ⟨2, v, o, n, a, b⟩ w) := by
  show Calls Try.prog 28 #[.agg #[.int .i64 2, .int .i64 (v : Int), .int .i64 (o : Int), .int .i64 (n : Int), .complex .f64 (fl a) (fl b)]] w _
  have hv := isVolume_any v
  by_cases h1 : v < 8
  · rw [decide_eq_true h1] at hv
    have HV := Lib.hid hv
    clear hv
    go_enter Try.func28, Try.ntmps28
    go_wp2_with fail
    with_reducible refine (HV.out _).mono ?_
    rintro e w1 ⟨rfl, rfl⟩
    go_wp2_with fail
    with_reducible refine (fields2 v o n a b _).mono ?_
    rintro e w1 ⟨rfl, hb1⟩
    have B1 : Hid (Below w.heap.size w w1) := Lib.hid (((Below.refl _ w).alloc (Nat.le_refl _) _).trans (hb1.mono (by simp)))
    have H1 := Lib.hid (five_later hb1)
    obtain ⟨c0, c1, c2, c3, c4⟩ := five_cells H1.out
    clear hb1
    go_wp2_with fail
    with_reducible refine (other2 v o n a b _).mono ?_
    rintro e w2 ⟨rfl, hb2⟩
    have B2 : Hid (Below w.heap.size w w2) := Lib.hid (B1.out.trans (hb2.mono B1.out.size))
    clear hb2 c0 c1 c2 c3 c4
    have hq := fun w => run_equal_nil w 9998 h5 h6
    by_cases hx : a = 0 ∧ b = 0
    · have XE := Lib.hid hx
      rw [decide_eq_true hx] at hq
      clear hx
      go_wp2
      all_goals go_ret
      all_goals refine ⟨⟨_, rfl, ?_⟩, B2.out⟩
      all_goals dsimp only [Valid]
      all_goals (have := XE.out; omega)
    · have XE := Lib.hid hx
      rw [decide_eq_false hx] at hq
      clear hx
      go_wp2
      all_goals go_ret
      all_goals refine ⟨⟨_, rfl, ?_⟩, B2.out⟩
      all_goals dsimp only [Valid]
      all_goals (have := XE.out; omega)
  · rw [decide_eq_false h1] at hv
    have HV := Lib.hid hv
    clear hv
    go_enter Try.func28, Try.ntmps28
    go_wp2_with fail
    with_reducible refine (HV.out _).mono ?_
    rintro e w1 ⟨rfl, rfl⟩
    go_wp2
    go_ret
    refine ⟨⟨_, rfl, ?_⟩, (Below.refl _ w).alloc (Nat.le_refl _) _⟩
    dsimp only [Valid]
    omega

set_option maxRecDepth 100000 in
set_option maxHeartbeats 800000 in
theorem check3 (v o n a b : Nat) (w : World) (h5 : a < 256) (h6 : b < 256) :
    Calls Try.prog 28 #[Del.val ⟨3, v, o, n, a, b⟩] w (Checked_ ⟨3, v, o, n, a, b⟩ w) := by
  show Calls Try.prog 28 #[.agg #[.int .i64 3, .int .i64 (v : Int), .int .i64 (o : Int), .int .i64 (n : Int), .complex .f64 (fl a) (fl b)]] w _
  have hv := isVolume_any v
  by_cases h1 : v < 8
  · rw [decide_eq_true h1] at hv
    have HV := Lib.hid hv
    clear hv
    have hf := fun w => fields3 v o n a b w
    by_cases hp : o < 8 ∧ o ≠ v
    · rw [decide_eq_true hp] at hf
      have FF := Lib.hid hf
      have PP := Lib.hid hp
      clear hf hp
      go_enter Try.func28, Try.ntmps28
      go_wp2_with fail
      with_reducible refine (HV.out _).mono ?_
      rintro e w1 ⟨rfl, rfl⟩
      go_wp2_with fail
      with_reducible refine (FF.out _).mono ?_
      rintro e w1 ⟨rfl, hb1⟩
      have B1 : Hid (Below w.heap.size w w1) := Lib.hid (((Below.refl _ w).alloc (Nat.le_refl _) _).trans (hb1.mono (by simp)))
      have H1 := Lib.hid (five_later hb1)
      obtain ⟨c0, c1, c2, c3, c4⟩ := five_cells H1.out
      clear hb1
      go_wp2_with fail
      with_reducible refine (other3 v o n a b _).mono ?_
      rintro e w2 ⟨rfl, hb2⟩
      have B2 : Hid (Below w.heap.size w w2) := Lib.hid (B1.out.trans (hb2.mono B1.out.size))
      clear hb2 c0 c1 c2 c3 c4
      have hq := fun w => run_equal_nil w 9998 h5 h6
      by_cases hx : a = 0 ∧ b = 0
      · have XE := Lib.hid hx
        rw [decide_eq_true hx] at hq
        clear hx
        go_wp2
        all_goals go_ret
        all_goals refine ⟨⟨_, rfl, ?_⟩, B2.out⟩
        all_goals dsimp only [Valid]
        all_goals (have := PP.out; have := XE.out; omega)
      · have XE := Lib.hid hx
        rw [decide_eq_false hx] at hq
        clear hx
        go_wp2
        all_goals go_ret
        all_goals refine ⟨⟨_, rfl, ?_⟩, B2.out⟩
        all_goals dsimp only [Valid]
        all_goals (have := PP.out; have := XE.out; omega)
    · rw [decide_eq_false hp] at hf
      have FF := Lib.hid hf
      have PP := Lib.hid hp
      clear hf hp
      go_enter Try.func28, Try.ntmps28
      go_wp2_with fail
      with_reducible refine (HV.out _).mono ?_
      rintro e w1 ⟨rfl, rfl⟩
      go_wp2_with fail
      with_reducible refine (FF.out _).mono ?_
      rintro e w1 ⟨rfl, hb1⟩
      have B1 : Hid (Below w.heap.size w w1) := Lib.hid (((Below.refl _ w).alloc (Nat.le_refl _) _).trans (hb1.mono (by simp)))
      clear hb1
      go_wp2
      go_ret
      refine ⟨⟨_, rfl, ?_⟩, B1.out⟩
      dsimp only [Valid]
      have := PP.out
      omega
  · rw [decide_eq_false h1] at hv
    have HV := Lib.hid hv
    clear hv
    go_enter Try.func28, Try.ntmps28
    go_wp2_with fail
    with_reducible refine (HV.out _).mono ?_
    rintro e w1 ⟨rfl, rfl⟩
    go_wp2
    go_ret
    refine ⟨⟨_, rfl, ?_⟩, (Below.refl _ w).alloc (Nat.le_refl _) _⟩
    dsimp only [Valid]
    omega

set_option maxRecDepth 100000 in
set_option maxHeartbeats 800000 in
theorem check4 (v o n a b : Nat) (w : World) (h5 : a < 256) (h6 : b < 256) :
    Calls Try.prog 28 #[Del.val ⟨4, v, o, n, a, b⟩] w (Checked_ ⟨4, v, o, n, a, b⟩ w) := by
  show Calls Try.prog 28 #[.agg #[.int .i64 4, .int .i64 (v : Int), .int .i64 (o : Int), .int .i64 (n : Int), .complex .f64 (fl a) (fl b)]] w _
  have hv := isVolume_any v
  by_cases h1 : v < 8
  · rw [decide_eq_true h1] at hv
    have HV := Lib.hid hv
    clear hv
    have hf := fun w => fields4 v o n a b w h5 h6
    by_cases hp : (a < 24 ∧ b < 16) ∧ n < 32
    · rw [decide_eq_true hp] at hf
      have FF := Lib.hid hf
      have PP := Lib.hid hp
      clear hf hp
      go_enter Try.func28, Try.ntmps28
      go_wp2_with fail
      with_reducible refine (HV.out _).mono ?_
      rintro e w1 ⟨rfl, rfl⟩
      go_wp2_with fail
      with_reducible refine (FF.out _).mono ?_
      rintro e w1 ⟨rfl, hb1⟩
      have B1 : Hid (Below w.heap.size w w1) := Lib.hid (((Below.refl _ w).alloc (Nat.le_refl _) _).trans (hb1.mono (by simp)))
      have H1 := Lib.hid (five_later hb1)
      obtain ⟨c0, c1, c2, c3, c4⟩ := five_cells H1.out
      clear hb1
      go_wp2_with fail
      with_reducible refine (other4 v o n a b _).mono ?_
      rintro e w2 ⟨rfl, hb2⟩
      have B2 : Hid (Below w.heap.size w w2) := Lib.hid (B1.out.trans (hb2.mono B1.out.size))
      clear hb2 c0 c1 c2 c3 c4
      have hq : ∀ w, (Op.equalIn 9999 50 (.complex .f64 0 0) (.complex .f64 0 0)).run Try.prog w = .ok true w := fun w => by
        have h := run_equal_nil w 9998 (a := 0) (b := 0) (by omega) (by omega)
        rw [fl_nil] at h
        exact h
      go_wp2
      all_goals go_ret
      all_goals refine ⟨⟨_, rfl, ?_⟩, B2.out⟩
      all_goals dsimp only [Valid]
      all_goals (have := PP.out; omega)
    · rw [decide_eq_false hp] at hf
      have FF := Lib.hid hf
      have PP := Lib.hid hp
      clear hf hp
      go_enter Try.func28, Try.ntmps28
      go_wp2_with fail
      with_reducible refine (HV.out _).mono ?_
      rintro e w1 ⟨rfl, rfl⟩
      go_wp2_with fail
      with_reducible refine (FF.out _).mono ?_
      rintro e w1 ⟨rfl, hb1⟩
      have B1 : Hid (Below w.heap.size w w1) := Lib.hid (((Below.refl _ w).alloc (Nat.le_refl _) _).trans (hb1.mono (by simp)))
      clear hb1
      go_wp2
      go_ret
      refine ⟨⟨_, rfl, ?_⟩, B1.out⟩
      dsimp only [Valid]
      have := PP.out
      omega
  · rw [decide_eq_false h1] at hv
    have HV := Lib.hid hv
    clear hv
    go_enter Try.func28, Try.ntmps28
    go_wp2_with fail
    with_reducible refine (HV.out _).mono ?_
    rintro e w1 ⟨rfl, rfl⟩
    go_wp2
    go_ret
    refine ⟨⟨_, rfl, ?_⟩, (Below.refl _ w).alloc (Nat.le_refl _) _⟩
    dsimp only [Valid]
    omega

set_option maxRecDepth 100000 in
set_option maxHeartbeats 800000 in
theorem check5 (v o n a b : Nat) (w : World) (h5 : a < 256) (h6 : b < 256) :
    Calls Try.prog 28 #[Del.val ⟨5, v, o, n, a, b⟩] w (Checked_ ⟨5, v, o, n, a, b⟩ w) := by
  show Calls Try.prog 28 #[.agg #[.int .i64 5, .int .i64 (v : Int), .int .i64 (o : Int), .int .i64 (n : Int), .complex .f64 (fl a) (fl b)]] w _
  have hv := isVolume_any v
  by_cases h1 : v < 8
  · rw [decide_eq_true h1] at hv
    have HV := Lib.hid hv
    clear hv
    have hf := fun w => fields5 v o n a b w
    by_cases hp : n < 32
    · rw [decide_eq_true hp] at hf
      have FF := Lib.hid hf
      have PP := Lib.hid hp
      clear hf hp
      go_enter Try.func28, Try.ntmps28
      go_wp2_with fail
      with_reducible refine (HV.out _).mono ?_
      rintro e w1 ⟨rfl, rfl⟩
      go_wp2_with fail
      with_reducible refine (FF.out _).mono ?_
      rintro e w1 ⟨rfl, hb1⟩
      have B1 : Hid (Below w.heap.size w w1) := Lib.hid (((Below.refl _ w).alloc (Nat.le_refl _) _).trans (hb1.mono (by simp)))
      have H1 := Lib.hid (five_later hb1)
      obtain ⟨c0, c1, c2, c3, c4⟩ := five_cells H1.out
      clear hb1
      go_wp2_with fail
      with_reducible refine (other5 v o n a b _).mono ?_
      rintro e w2 ⟨rfl, hb2⟩
      have B2 : Hid (Below w.heap.size w w2) := Lib.hid (B1.out.trans (hb2.mono B1.out.size))
      clear hb2 c0 c1 c2 c3 c4
      have hq := fun w => run_equal_nil w 9998 h5 h6
      by_cases hx : a = 0 ∧ b = 0
      · have XE := Lib.hid hx
        rw [decide_eq_true hx] at hq
        clear hx
        go_wp2
        all_goals go_ret
        all_goals refine ⟨⟨_, rfl, ?_⟩, B2.out⟩
        all_goals dsimp only [Valid]
        all_goals (have := PP.out; have := XE.out; omega)
      · have XE := Lib.hid hx
        rw [decide_eq_false hx] at hq
        clear hx
        go_wp2
        all_goals go_ret
        all_goals refine ⟨⟨_, rfl, ?_⟩, B2.out⟩
        all_goals dsimp only [Valid]
        all_goals (have := PP.out; have := XE.out; omega)
    · rw [decide_eq_false hp] at hf
      have FF := Lib.hid hf
      have PP := Lib.hid hp
      clear hf hp
      go_enter Try.func28, Try.ntmps28
      go_wp2_with fail
      with_reducible refine (HV.out _).mono ?_
      rintro e w1 ⟨rfl, rfl⟩
      go_wp2_with fail
      with_reducible refine (FF.out _).mono ?_
      rintro e w1 ⟨rfl, hb1⟩
      have B1 : Hid (Below w.heap.size w w1) := Lib.hid (((Below.refl _ w).alloc (Nat.le_refl _) _).trans (hb1.mono (by simp)))
      clear hb1
      go_wp2
      go_ret
      refine ⟨⟨_, rfl, ?_⟩, B1.out⟩
      dsimp only [Valid]
      have := PP.out
      omega
  · rw [decide_eq_false h1] at hv
    have HV := Lib.hid hv
    clear hv
    go_enter Try.func28, Try.ntmps28
    go_wp2_with fail
    with_reducible refine (HV.out _).mono ?_
    rintro e w1 ⟨rfl, rfl⟩
    go_wp2
    go_ret
    refine ⟨⟨_, rfl, ?_⟩, (Below.refl _ w).alloc (Nat.le_refl _) _⟩
    dsimp only [Valid]
    omega

set_option maxRecDepth 100000 in
set_option maxHeartbeats 800000 in
theorem check0 (k v o n a b : Nat) (w : World) (hk : k = 0 ∨ 5 < k) :
    Calls Try.prog 28 #[Del.val ⟨k, v, o, n, a, b⟩] w (Checked_ ⟨k, v, o, n, a, b⟩ w) := by
  show Calls Try.prog 28 #[.agg #[.int .i64 (k : Int), .int .i64 (v : Int), .int .i64 (o : Int), .int .i64 (n : Int), .complex .f64 (fl a) (fl b)]] w _
  rcases hk with h0 | h5
  · have e1 : decide ((k : Int) < 1) = true := by simp; omega
    have H0 := Lib.hid h0
    clear h0
    go_enter Try.func28, Try.ntmps28
    go_wp2
    go_ret
    refine ⟨⟨_, rfl, ?_⟩, (Below.refl _ w).alloc (Nat.le_refl _) _⟩
    dsimp only [Valid]
    have := H0.out
    omega
  · have e1 : decide ((k : Int) < 1) = false := by simp; omega
    have e2 : decide ((5 : Int) < (k : Int)) = true := by simp; omega
    go_enter Try.func28, Try.ntmps28
    go_wp2
    go_ret
    refine ⟨⟨_, rfl, ?_⟩, (Below.refl _ w).alloc (Nat.le_refl _) _⟩
    dsimp only [Valid]
    omega

theorem dcheck_any (d : Del) (w : World) (h5 : d.a < 256) (h6 : d.b < 256) : Calls Try.prog 28 #[d.val] w (Checked_ d w) := by
  obtain ⟨k, v, o, n, a, b⟩ := d
  rcases (by omega : k = 1 ∨ k = 2 ∨ k = 3 ∨ k = 4 ∨ k = 5 ∨ (k = 0 ∨ 5 < k)) with rfl | rfl | rfl | rfl | rfl | hk
  · exact check1 v o n a b w h5 h6
  · exact check2 v o n a b w h5 h6
  · exact check3 v o n a b w h5 h6
  · exact check4 v o n a b w h5 h6
  · exact check5 v o n a b w h5 h6
  · exact check0 k v o n a b w hk
end Go.Proofs.Ytmgeifolgdgapaa
