
/- Whether small numbers are a delta: the document's answer, any kind. -/
import Derived.Test.YtmgeifolgdgapaaDeCheck
namespace Go.Proofs.Ytmgeifolgdgapaa
open Go.RowKit

set_option maxRecDepth 100000 in
set_option maxHeartbeats 800000 in
theorem refCheck4 (v o n a b : Nat) (w : World) (h5 : a < 256) (h6 : b < 256) :
    Calls Try.prog 38 #[Del.val ⟨4, v, o, n, a, b⟩] w (Checked_ ⟨4, v, o, n, a, b⟩ w) := by
  show Calls Try.prog 38 #[.agg #[.int .i64 4, .int .i64 (v : Int), .int .i64 (o : Int), .int .i64 (n : Int), .complex .f64 (fl a) (fl b)]] w _
  have hW := fun w => refWhole_byte a b w h5 h6
  by_cases hv : v < 8
  · have d1 : decide ((v : Int) < 8) = true := by simp; omega
    by_cases hn : n < 32
    · have d2 : decide ((n : Int) < 32) = true := by simp; omega
      by_cases hw : a < 24 ∧ b < 16
      · rw [decide_eq_true hw] at hW
        have HW := Lib.hid hW
        have AB := Lib.hid hw
        clear hW hw
        rcases nil_int o with ⟨o0, y, z⟩ | ⟨o0, y, z⟩
        · have O0 := Lib.hid o0
          clear o0
          go_enter Try.func38, Try.ntmps38
          go_wp2_with fail
          with_reducible refine (HW.out _).mono ?_
          rintro e w1 ⟨rfl, rfl⟩
          go_wp2
          go_ret
          refine ⟨⟨_, rfl, ?_⟩, (Below.refl _ _).alloc (Nat.le_refl _) _⟩
          dsimp only [Valid]
          have := O0.out
          have := AB.out
          omega
        · have O0 := Lib.hid o0
          clear o0
          go_enter Try.func38, Try.ntmps38
          go_wp2_with fail
          with_reducible refine (HW.out _).mono ?_
          rintro e w1 ⟨rfl, rfl⟩
          go_wp2
          go_ret
          refine ⟨⟨_, rfl, ?_⟩, (Below.refl _ _).alloc (Nat.le_refl _) _⟩
          dsimp only [Valid]
          have := O0.out
          omega
      · rw [decide_eq_false hw] at hW
        have HW := Lib.hid hW
        have AB := Lib.hid hw
        clear hW hw
        go_enter Try.func38, Try.ntmps38
        go_wp2_with fail
        with_reducible refine (HW.out _).mono ?_
        rintro e w1 ⟨rfl, rfl⟩
        go_wp2
        go_ret
        refine ⟨⟨_, rfl, ?_⟩, (Below.refl _ _).alloc (Nat.le_refl _) _⟩
        dsimp only [Valid]
        have := AB.out
        omega
    · have d2 : decide ((n : Int) < 32) = false := by simp; omega
      clear hW
      go_enter Try.func38, Try.ntmps38
      go_wp2
      go_ret
      refine ⟨⟨_, rfl, ?_⟩, (Below.refl _ _).alloc (Nat.le_refl _) _⟩
      dsimp only [Valid]
      omega
  · have d1 : decide ((v : Int) < 8) = false := by simp; omega
    clear hW
    go_enter Try.func38, Try.ntmps38
    go_wp2
    go_ret
    refine ⟨⟨_, rfl, ?_⟩, (Below.refl _ _).alloc (Nat.le_refl _) _⟩
    dsimp only [Valid]
    omega

set_option maxRecDepth 100000 in
set_option maxHeartbeats 800000 in
theorem refCheck0 (k v o n a b : Nat) (w : World) (hk : k = 0 ∨ 5 < k) :
    Calls Try.prog 38 #[Del.val ⟨k, v, o, n, a, b⟩] w (Checked_ ⟨k, v, o, n, a, b⟩ w) := by
  show Calls Try.prog 38 #[.agg #[.int .i64 (k : Int), .int .i64 (v : Int), .int .i64 (o : Int), .int .i64 (n : Int), .complex .f64 (fl a) (fl b)]] w _
  have e1 : ((k : Int) == 1) = false := by simp; omega
  have e2 : ((k : Int) == 2) = false := by simp; omega
  have e3 : ((k : Int) == 3) = false := by simp; omega
  have e4 : ((k : Int) == 4) = false := by simp; omega
  have e5 : ((k : Int) == 5) = false := by simp; omega
  have HK := Lib.hid hk
  clear hk
  go_enter Try.func38, Try.ntmps38
  go_wp2
  go_ret
  refine ⟨⟨_, rfl, ?_⟩, (Below.refl _ _).alloc (Nat.le_refl _) _⟩
  dsimp only [Valid]
  have := HK.out
  omega

theorem refCheck_any (d : Del) (w : World) (h5 : d.a < 256) (h6 : d.b < 256) : Calls Try.prog 38 #[d.val] w (Checked_ d w) := by
  obtain ⟨k, v, o, n, a, b⟩ := d
  rcases (by omega : k = 1 ∨ k = 2 ∨ k = 3 ∨ k = 4 ∨ k = 5 ∨ (k = 0 ∨ 5 < k)) with rfl | rfl | rfl | rfl | rfl | hk
  · exact refCheck1 v o n a b w h5 h6
  · exact refCheck2 v o n a b w h5 h6
  · exact refCheck3 v o n a b w h5 h6
  · exact refCheck4 v o n a b w h5 h6
  · exact refCheck5 v o n a b w h5 h6
  · exact refCheck0 k v o n a b w hk
end Go.Proofs.Ytmgeifolgdgapaa
