/- The first facts, which the statements of package ratio ask at their ends. -/
import Derived.Test.YtdebhebleojdbaaRatioBest
import Derived.Below
namespace Go.Proofs.Ytdebhebleojdbaa
open Go.RowKit

theorem compare_1325 (w : World) :
    Calls Try.prog 10 #[.int .i64 1, .int .i64 3, .int .i64 2, .int .i64 5] w fun e w' => e = .returned (.tuple #[.int .i64 (-1), .int .i64 0]) ∧ w = w' :=
  compare_yes 1 3 2 5 w (by unfold Fit; omega) (by unfold Fit; omega)

theorem score_149 (w : World) :
    Calls Try.prog 13 #[.int .i64 1, .int .i64 4, .int .i64 9] w fun e w' => e = .returned (.tuple #[.int .i64 30, .int .i64 5, .int .i64 0]) ∧ w = w' :=
  score_yes 1 4 9 w (by unfold Seg; omega)

def over3 : Nat → Int | 0 => 1 | 1 => 2 | _ => 1
def under3 : Nat → Int | 0 => 2 | 1 => 3 | _ => 1
theorem fit3 (i : Nat) (h : i < 3) : Fit (over3 i) (under3 i) := by
  have : ∀ i : Fin 3, Fit (over3 i.val) (under3 i.val) := by decide
  exact this ⟨i, h⟩
theorem best3 : bestAt over3 under3 3 3 = 2 := by decide
theorem lt3 {t : Nat} (h : t < 3) : t = 0 ∨ t = 1 ∨ t = 2 := by omega

theorem awake_any (w : World) : Calls Try.prog 12 #[] w (Fresh (.bool true) w) := by
  go_enter Try.func12, Try.ntmps12
  go_wp2_with fail
  refine (compare_1325 _).mono ?_
  rintro e w' ⟨rfl, rfl⟩
  go_wp2_with fail
  refine (score_149 _).mono ?_
  rintro e w' ⟨rfl, rfl⟩
  go_wp2_with fail
  refine (best_any over3 under3 _ _ 3 3 _ _ _ (by omega) (by omega) (by omega) ?_ ?_ fit3 (by omega)).mono ?_
  · intro t ht
    rcases lt3 ht with rfl | rfl | rfl
    · go_simp; rfl
    · go_simp; rfl
    · go_simp; rfl
  · intro t ht
    rcases lt3 ht with rfl | rfl | rfl
    · go_simp; rfl
    · go_simp; rfl
    · go_simp; rfl
  rw [best3]
  rintro e w' ⟨m, rfl, rfl⟩
  go_wp2
  go_ret
  exact ⟨rfl, below_drewN (((Below.refl _ _).alloc (Nat.le_refl _) _).alloc (by simp) _) _⟩

end Go.Proofs.Ytdebhebleojdbaa
