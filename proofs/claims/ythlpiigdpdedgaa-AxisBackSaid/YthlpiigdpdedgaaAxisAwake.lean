/- The first facts, which the statements of package axis ask at their heads. -/
import Derived.Test.YthlpiigdpdedgaaAxisPlace
namespace Go.Proofs.Ythlpiigdpdedgaa
open Go.RowKit

theorem flat_17 (w : World) :
    Calls Try.prog 4 #[.complex .f64 4613937818241073152 4611686018427387904, .int .i64 5] w fun e w' => e = .returned (.tuple #[.int .i64 17, .int .i64 0]) ∧ w = w' := by
  have h := flat_any 3 2 5 w (by omega) (by omega) (by omega) (by omega)
  rw [three, two] at h
  exact h

theorem place_17 (w : World) :
    Calls Try.prog 5 #[.int .i64 17, .int .i64 5] w (Drawn (.tuple #[.complex .f64 4613937818241073152 4611686018427387904, .int .i64 0]) w) := by
  have h := place_any 17 5 w (by omega) (by omega) (by omega) (by omega)
  rw [show ((17 : Int) / 5).toNat = 3 from rfl, show ((17 : Int) % 5).toNat = 2 from rfl, three, two] at h
  exact h

theorem whole_17 (w : World) :
    Calls Try.prog 11 #[.complex .f64 4613937818241073152 4611686018427387904] w fun e w' => e = .returned (.bool true) ∧ w = w' := by
  have h := whole_any 3 2 w (by omega) (by omega)
  rw [three, two] at h
  exact h

theorem awake_any (w : World) : Calls Try.prog 7 #[] w (Drawn (.bool true) w) := by
  have h3 : FloatKind.f64.format.order 4613937818241073152 4613937818241073152 = some .eq := by decide +kernel
  have h2 : FloatKind.f64.format.order 4611686018427387904 4611686018427387904 = some .eq := by decide +kernel
  go_enter Try.func7, Try.ntmps7
  go_wp2_with fail
  refine (flat_17 _).mono ?_
  rintro e w' ⟨rfl, rfl⟩
  go_wp2_with fail
  refine (place_17 _).mono ?_
  rintro e w' ⟨nq, rfl, rfl⟩
  go_wp2_with fail
  refine (whole_17 _).mono ?_
  rintro e w' ⟨rfl, rfl⟩
  go_wp2_with fail
  refine (whole_half _).mono ?_
  rintro e w' ⟨rfl, rfl⟩
  go_wp2
  go_ret
  exact ⟨_, rfl, rfl⟩

end Go.Proofs.Ythlpiigdpdedgaa
