/- Whether a geometry may be: the program and the document, a contract each. A geometry comes by value, as two numbers. -/
import Derived.Test.YtiolhdilfjomcaaLawKit
import Derived.Test.YtiolhdilfjomcaaRows
import Derived.WalkKit
import Derived.WalkSpells
import Derived.WalkLawsBesides
import Derived.Deep.QuietTactic
import Derived.BigQuiet
import Derived.IntWalk
import Derived.OwnWalk
import Derived.Lib.Hide
namespace Go.Proofs.Ytiolhdilfjomcaa
open Go.RowKit

/-- A geometry that may be. -/
def Geo (s b : Int) : Prop := (6 ≤ s ∧ s ≤ 24) ∧ 2 ≤ b ∧ b ≤ 16

section
variable {w W : World} {s b : Int} {T : TypeId}
/-- A geometry that was laid into a block of its own reads on. -/
theorem geo_s (h : Below (w.alloc (.cells #[.int .i64 s, .int .i64 b] T)).heap.size (w.alloc (.cells #[.int .i64 s, .int .i64 b] T)) W) : W.cell? ⟨w.heap.size, 0, none⟩ = some (.int .i64 s) :=
  cell_later h (by rw [cell_of_row _ _ _ _ _ _ (heap_alloc_new w _)]; rfl)
theorem geo_b (h : Below (w.alloc (.cells #[.int .i64 s, .int .i64 b] T)).heap.size (w.alloc (.cells #[.int .i64 s, .int .i64 b] T)) W) : W.cell? ⟨w.heap.size, 1, none⟩ = some (.int .i64 b) :=
  cell_later h (by rw [cell_of_row _ _ _ _ _ _ (heap_alloc_new w _)]; rfl)
theorem geo_below (h : Below (w.alloc (.cells #[.int .i64 s, .int .i64 b] T)).heap.size (w.alloc (.cells #[.int .i64 s, .int .i64 b] T)) W) : Below w.heap.size w W :=
  ((Below.refl _ _).alloc (Nat.le_refl _) _).trans (h.mono (by simp))
end

theorem check_ok (s b : Int) (w : World) (g : Geo s b) :
    Calls Try.prog 25 #[.agg #[.int .i64 s, .int .i64 b]] w (Fresh (.int .i64 0) w) := by
  obtain ⟨⟨g1, g2⟩, g3, g4⟩ := g
  go_enter Try.func25, Try.ntmps25
  go_wp2
  go_ret
  exact ⟨rfl, (Below.refl _ _).alloc (Nat.le_refl _) _⟩

theorem check_bad (s b : Int) (w : World) (g : ¬ Geo s b) :
    Calls Try.prog 25 #[.agg #[.int .i64 s, .int .i64 b]] w (Fresh (.int .i64 1) w) := by
  unfold Geo at g
  by_cases g1 : s < 6
  · clear g
    go_enter Try.func25, Try.ntmps25
    go_wp2
    go_ret
    exact ⟨rfl, (Below.refl _ _).alloc (Nat.le_refl _) _⟩
  by_cases g2 : 24 < s
  · clear g
    go_enter Try.func25, Try.ntmps25
    go_wp2
    go_ret
    exact ⟨rfl, (Below.refl _ _).alloc (Nat.le_refl _) _⟩
  by_cases g3 : b < 2
  · clear g
    go_enter Try.func25, Try.ntmps25
    go_wp2
    go_ret
    exact ⟨rfl, (Below.refl _ _).alloc (Nat.le_refl _) _⟩
  have g4 : 16 < b := by omega
  clear g
  go_enter Try.func25, Try.ntmps25
  go_wp2
  go_ret
  exact ⟨rfl, (Below.refl _ _).alloc (Nat.le_refl _) _⟩

theorem refMay_ok (s b : Int) (w : World) (g : Geo s b) :
    Calls Try.prog 21 #[.agg #[.int .i64 s, .int .i64 b]] w (Fresh (.bool true) w) := by
  obtain ⟨⟨g1, g2⟩, g3, g4⟩ := g
  go_enter Try.func21, Try.ntmps21
  go_wp2
  go_ret
  exact ⟨rfl, (Below.refl _ _).alloc (Nat.le_refl _) _⟩

theorem refMay_no (s b : Int) (w : World) (g : ¬ Geo s b) :
    Calls Try.prog 21 #[.agg #[.int .i64 s, .int .i64 b]] w (Fresh (.bool false) w) := by
  unfold Geo at g
  by_cases g1 : s < 6
  · clear g
    go_enter Try.func21, Try.ntmps21
    go_wp2
    go_ret
    exact ⟨rfl, (Below.refl _ _).alloc (Nat.le_refl _) _⟩
  by_cases g2 : 24 < s
  · clear g
    go_enter Try.func21, Try.ntmps21
    go_wp2
    go_ret
    exact ⟨rfl, (Below.refl _ _).alloc (Nat.le_refl _) _⟩
  by_cases g3 : b < 2
  · clear g
    go_enter Try.func21, Try.ntmps21
    go_wp2
    go_ret
    exact ⟨rfl, (Below.refl _ _).alloc (Nat.le_refl _) _⟩
  have g4 : decide (b ≤ 16) = false := decide_eq_false (by omega)
  clear g
  go_enter Try.func21, Try.ntmps21
  go_wp2
  go_ret
  exact ⟨rfl, (Below.refl _ _).alloc (Nat.le_refl _) _⟩

end Go.Proofs.Ytiolhdilfjomcaa
