/- Whether a geometry may be, and how much it holds: package plat, a contract each. -/
import Derived.Test.YtdocclkphffpkaaGreatLawKit
import Derived.Test.YtdocclkphffpkaaGreatRows
import Derived.WalkKit
import Derived.WalkSpells
import Derived.WalkLawsBesides
import Derived.Deep.QuietTactic
import Derived.BigQuiet
import Derived.IntWalk
import Derived.OwnWalk
import Derived.Lib.Hide
namespace Go.Proofs.YtdocclkphffpkaaGreat
open Go.RowKit

/-- A geometry that may be. -/
def Geo (s b : Int) : Prop := (6 ≤ s ∧ s ≤ 24) ∧ 2 ≤ b ∧ b ≤ 16

section
variable {w W : World} {s b : Int} {T : TypeId}
/-- A geometry that was laid into a block of its own reads on. -/
theorem geo_s (h : Below (w.alloc (.cells #[.int .i64 s, .int .i64 b] T)).heap.size (w.alloc (.cells #[.int .i64 s, .int .i64 b] T)) W) : W.cell? ⟨w.heap.size, 0, none⟩ = some (.int .i64 s) :=
  cell_later h (by rw [cell_of_row _ _ _ _ _ _ (heap_alloc_new w _)]; rfl)
theorem geo_b (h : Below (w.alloc (.cells #[.int .i64 s, .int .i64 b] T)).heap.size (w.alloc (.cells #[.int .i64 s, .int .i64 b] T)) W) : W.cell? ⟨w.heap.size, 1, none⟩ = some (.int .i64 b) :=
  cell_later h (by rw [cell_of_row _ _ _ _ _ _ (heap_alloc_new w _)]; rfl)
theorem geo_below (h : Below (w.alloc (.cells #[.int .i64 s, .int .i64 b] T)).heap.size (w.alloc (.cells #[.int .i64 s, .int .i64 b] T)) W) : Below w.heap.size w W :=
  ((Below.refl _ _).alloc (Nat.le_refl _) _).trans (h.mono (by simp))
end

theorem check_ok (s b : Int) (w : World) (g : Geo s b) :
    Calls Tryz.prog 88 #[.agg #[.int .i64 s, .int .i64 b]] w (Fresh (.int .i64 0) w) := by
  obtain ⟨⟨g1, g2⟩, g3, g4⟩ := g
  go_enter Tryz.func88, Tryz.ntmps88
  go_wp2
  go_ret
  exact ⟨rfl, (Below.refl _ _).alloc (Nat.le_refl _) _⟩

theorem check_bad (s b : Int) (w : World) (g : ¬ Geo s b) :
    Calls Tryz.prog 88 #[.agg #[.int .i64 s, .int .i64 b]] w (Fresh (.int .i64 1) w) := by
  unfold Geo at g
  by_cases g1 : s < 6
  · clear g
    go_enter Tryz.func88, Tryz.ntmps88
    go_wp2
    go_ret
    exact ⟨rfl, (Below.refl _ _).alloc (Nat.le_refl _) _⟩
  by_cases g2 : 24 < s
  · clear g
    go_enter Tryz.func88, Tryz.ntmps88
    go_wp2
    go_ret
    exact ⟨rfl, (Below.refl _ _).alloc (Nat.le_refl _) _⟩
  by_cases g3 : b < 2
  · clear g
    go_enter Tryz.func88, Tryz.ntmps88
    go_wp2
    go_ret
    exact ⟨rfl, (Below.refl _ _).alloc (Nat.le_refl _) _⟩
  have g4 : 16 < b := by omega
  clear g
  go_enter Tryz.func88, Tryz.ntmps88
  go_wp2
  go_ret
  exact ⟨rfl, (Below.refl _ _).alloc (Nat.le_refl _) _⟩

theorem capacity_ok (s b : Int) (w : World) (g : Geo s b) :
    Calls Tryz.prog 65 #[.agg #[.int .i64 s, .int .i64 b]] w (Fresh (.tuple #[.int .i64 ((s - 2 - 2) * b), .int .i64 0]) w) := by
  have hm : (s - 2 - 2) * b ≤ 24 * 16 := Int.mul_le_mul (by have := g.1; omega) g.2.2 (by have := g.2; omega) (by omega)
  have hm0 : 0 ≤ (s - 2 - 2) * b := Int.mul_nonneg (by have := g.1; omega) (by have := g.2; omega)
  have g1 := g.1
  have G := Lib.hid g
  clear g
  go_enter Tryz.func65, Tryz.ntmps65
  go_wp2_with fail
  refine (check_ok s b _ G.out).mono ?_
  rintro e w1 ⟨rfl, hb⟩
  have c0 := geo_s hb
  have c1 := geo_b hb
  have HB := Lib.hid (geo_below hb)
  clear hb
  obtain ⟨g2, g3⟩ := g1
  go_wp2
  go_ret2
  exact ⟨rfl, HB.out⟩

theorem capacity_bad (s b : Int) (w : World) (g : ¬ Geo s b) :
    Calls Tryz.prog 65 #[.agg #[.int .i64 s, .int .i64 b]] w (Fresh (.tuple #[.int .i64 0, .int .i64 1]) w) := by
  have G := Lib.hid g
  clear g
  go_enter Tryz.func65, Tryz.ntmps65
  go_wp2_with fail
  refine (check_bad s b _ G.out).mono ?_
  rintro e w1 ⟨rfl, hb⟩
  have HB := Lib.hid (geo_below hb)
  clear hb
  go_wp2
  go_ret2
  exact ⟨rfl, HB.out⟩
end Go.Proofs.YtdocclkphffpkaaGreat
