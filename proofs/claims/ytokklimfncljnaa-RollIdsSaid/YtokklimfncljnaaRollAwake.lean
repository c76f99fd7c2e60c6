/- The first facts of package roll, which its statements ask at their heads. -/
import Derived.Test.YtokklimfncljnaaRollSnap
namespace Go.Proofs.Ytokklimfncljnaa
open Go.RowKit

/-- Of a roll that was made behind w only its own block has changed. -/
theorem Apart.fresh {w a b : World} {g : Nat} (h : Apart (fun k => k = g) a b) (ha : Below w.heap.size w a) (hg : w.heap.size ≤ g) : Below w.heap.size w b :=
  ha.trans (h.below ha.size fun k hk e => by omega)

theorem awake_any (w : World) : Calls Try.prog 5 #[] w (Fresh (.bool true) w) := by
  have o2 : FloatKind.f64.format.order 4611686018427387904 4611686018427387904 = some .eq := by decide +kernel
  go_enter Try.func5, Try.ntmps5
  go_wp2_with fail
  refine (rnew_any _).mono ?_
  rintro e w1 ⟨g, rfl, hr, hg, hb⟩
  have R1 := Lib.hid hr
  have G := Lib.hid hg
  have B1 := Lib.hid hb
  clear hr hg hb
  go_wp2_with fail
  refine (create_ok R1.out (i := 0) (by omega) rfl (fun j hj => by omega) 3 (by omega) (by omega)).mono ?_
  rintro e w2 ⟨t, rfl, hr, ht, ha⟩
  have R2 := Lib.hid hr
  have T2 := Lib.hid ht
  have B2 := Lib.hid (Apart.fresh ha B1.out G.out)
  clear hr ht ha
  go_wp2_with fail
  have hs := set_ok R2.out (v := 0) (by omega) rfl (t := t) rfl T2.out (i := 1) (by omega) (a := 2) (b := 2) (by omega) (by omega)
  rw [two] at hs
  refine hs.mono ?_
  rintro e w3 ⟨t3, rfl, hr, ht, ha⟩
  have R3 := Lib.hid hr
  have T3 := Lib.hid ht
  have B3 := Lib.hid (Apart.fresh ha B2.out G.out)
  clear hr ht ha hs
  go_wp2_with fail
  refine (snap_ok R3.out (v := 0) (by omega) (by decide) (i := 1) (by omega) rfl (fun j hj => by
    have h5 : j = 0 := (by omega)
    subst h5
    decide)).mono ?_
  rintro e w4 ⟨rfl, hr, ha⟩
  have R4 := Lib.hid hr
  have T4 : Hid (TabAt w4 t3 3 (upd (fun _ => none) 1 (some (2, 2)))) := Lib.hid (T3.out.besides R3.out (by decide) (by decide) ha)
  have B4 := Lib.hid (Apart.fresh ha B3.out G.out)
  clear hr ha
  go_wp2_with fail
  have hs := get_ok R4.out (v := 1) (by omega) (by decide) (t := t3) rfl T4.out (i := 1) (by omega) (a := 2) (b := 2) rfl (by omega)
  rw [two] at hs
  refine hs.mono ?_
  rintro e w5 ⟨rfl, hb⟩
  have R5 := Lib.hid (RowIs.below R4.out hb)
  have B5 := Lib.hid (B4.out.trans (hb.mono B4.out.size))
  clear hb hs
  go_wp2_with fail
  refine (set_read R5.out (v := 1) (by omega) rfl 1 0 0 false).mono ?_
  rintro e w6 ⟨rfl, hb⟩
  have B6 := Lib.hid (B5.out.trans (hb.mono B5.out.size))
  clear hb
  go_wp2
  go_ret
  exact ⟨rfl, B6.out⟩
end Go.Proofs.Ytokklimfncljnaa
