/- The document's May and Capacity. -/
import Derived.Test.YthkeedgjhkpgjaaPlatAt
namespace Go.Proofs.Ythkeedgjhkpgjaa
open Go.RowKit

theorem may_ok (s b : Int) (w : World) (g : Geo s b) :
    Calls Try.prog 9 #[.agg #[.int .i64 s, .int .i64 b]] w (Fresh (.bool true) w) := by
  obtain ⟨⟨g1, g2⟩, g3, g4⟩ := g
  go_enter Try.func9, Try.ntmps9
  go_wp2
  go_ret
  exact ⟨rfl, (Below.refl _ _).alloc (Nat.le_refl _) _⟩

theorem may_no (s b : Int) (w : World) (g : ¬ Geo s b) :
    Calls Try.prog 9 #[.agg #[.int .i64 s, .int .i64 b]] w (Fresh (.bool false) w) := by
  unfold Geo at g
  by_cases g1 : s < 6
  · clear g
    go_enter Try.func9, Try.ntmps9
    go_wp2
    go_ret
    exact ⟨rfl, (Below.refl _ _).alloc (Nat.le_refl _) _⟩
  by_cases g2 : 24 < s
  · clear g
    go_enter Try.func9, Try.ntmps9
    go_wp2
    go_ret
    exact ⟨rfl, (Below.refl _ _).alloc (Nat.le_refl _) _⟩
  by_cases g3 : b < 2
  · clear g
    go_enter Try.func9, Try.ntmps9
    go_wp2
    go_ret
    exact ⟨rfl, (Below.refl _ _).alloc (Nat.le_refl _) _⟩
  have g4 : decide (b ≤ 16) = false := decide_eq_false (by omega)
  clear g
  go_enter Try.func9, Try.ntmps9
  go_wp2
  go_ret
  exact ⟨rfl, (Below.refl _ _).alloc (Nat.le_refl _) _⟩

/-- What a geometry holds, as the chapter says it and as the document's answer does. -/
theorem holds_same (s b : Int) : (s - 2 - 2) * b = (s - 4) * b := by congr 1; omega
theorem holds_in {s b : Int} (g : Geo s b) : 4 ≤ (s - 4) * b ∧ (s - 4) * b ≤ 320 :=
  ⟨show 2 * 2 ≤ (s - 4) * b from Int.mul_le_mul (by have := g.1; omega) g.2.1 (by omega) (by have := g.1; omega), show (s - 4) * b ≤ 20 * 16 from Int.mul_le_mul (by have := g.1; omega) g.2.2 (by have := g.2; omega) (by omega)⟩
theorem capacity_is (s b : Int) (w : World) (g : Geo s b) :
    Calls Try.prog 7 #[.agg #[.int .i64 s, .int .i64 b]] w (Fresh (.tuple #[.int .i64 ((s - 4) * b), .int .i64 0]) w) := by
  rw [← holds_same]; exact capacity_ok s b w g
theorem refCapacity_ok (s b : Int) (w : World) (g : Geo s b) :
    Calls Try.prog 12 #[.agg #[.int .i64 s, .int .i64 b]] w (Fresh (.int .i64 ((s - 4) * b)) w) := by
  obtain ⟨h1, h2⟩ := holds_in g
  obtain ⟨g1, g2⟩ := g.1
  clear g
  go_enter Try.func12, Try.ntmps12
  go_wp2
  go_ret
  exact ⟨rfl, (Below.refl _ _).alloc (Nat.le_refl _) _⟩
end Go.Proofs.Ythkeedgjhkpgjaa
