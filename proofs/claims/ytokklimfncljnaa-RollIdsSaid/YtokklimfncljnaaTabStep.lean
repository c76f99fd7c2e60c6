/- Put of package table. -/
import Derived.Test.YtokklimfncljnaaTabPut
import Derived.Test.YtokklimfncljnaaAxisStep
namespace Go.Proofs.Ytokklimfncljnaa
open Go.RowKit

theorem put_ok {w : World} {g n : Nat} {Z : Nat → Pl} (h : TabAt w g n Z) {i : Nat} (hi : i < n) {a b : Nat} (ha : a < 24) (hb : b < 16) :
    Calls Try.prog 18 #[.pointer (some ⟨g, 0, none⟩), .int .i64 (i : Int), .complex .f64 (fl a) (fl b)] w
      fun e w' => ∃ g', e = .returned (.tuple #[.pointer (some ⟨g', 0, none⟩), .int .i64 0]) ∧ TabAt w' g' n (upd Z i (some (a, b))) ∧ Below w.heap.size w w' := by
  go_enter Try.func18, Try.ntmps18
  go_wp2_with fail
  refine (check_ok h hi).mono ?_
  rintro e w' ⟨rfl, rfl⟩
  go_wp2_with fail
  refine (step_still a b _ ha hb).mono ?_
  rintro e w' ⟨nq, rfl, rfl⟩
  have hd : Below w.heap.size w (w.drewN nq) := below_drewN (Below.refl _ _) nq
  have HD := Lib.hid hd
  have HT := Lib.hid (h.below hd)
  clear h hd
  go_wp2_with fail
  refine (with_any (p := some (a, b)) HT.out hi (good_some ha hb)).mono ?_
  rintro e w2 ⟨g', rfl, ht, hb2⟩
  have H2 := Lib.hid ht
  have B2 := Lib.hid (HD.out.trans (hb2.mono HD.out.size))
  clear ht hb2
  go_wp2
  go_ret2
  exact ⟨g', rfl, H2.out, B2.out⟩
end Go.Proofs.Ytokklimfncljnaa
