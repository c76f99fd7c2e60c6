/- What At and Bound of package plat answer; the document's May and Capacity. -/
import Derived.Test.YthkeedgjhkpgjaaPlatWalks
import Derived.Test.YthkeedgjhkpgjaaAxisFlat
namespace Go.Proofs.Ythkeedgjhkpgjaa
open Go.RowKit

/-- A place that the geometry has: its sector. -/
theorem at_ok (s b x y : Int) (w : World) (g : Geo s b) (hx0 : 0 ≤ x) (hx : x < s) (hy0 : 0 ≤ y) (hy : y < b) :
    Calls Try.prog 13 #[.agg #[.int .i64 s, .int .i64 b], .complex .f64 (floatOfInt .f64 x) (floatOfInt .f64 y)] w (Fresh (.tuple #[.int .i64 (40 + (x * b + y)), .int .i64 0]) w) := by
  have hm : x * b ≤ 24 * 16 := Int.mul_le_mul (by have := g.1; omega) g.2.2 (by omega) (by omega)
  have hm0 : 0 ≤ x * b := Int.mul_nonneg (by omega) (by omega)
  have hf := lt_int hx0 hx (by have := g.1; omega)
  have hb16 : y < 16 := by have := g.2; omega
  have G := Lib.hid g
  have X := Lib.hid hx
  have Y := Lib.hid hy
  clear g hx hy
  go_enter Try.func13, Try.ntmps13
  go_wp2_with fail
  refine (check_ok s b _ G.out).mono ?_
  rintro e w1 ⟨rfl, hb⟩
  have c0 := geo_s hb
  have c1 := geo_b hb
  have HB := Lib.hid (geo_below hb)
  clear hb
  go_wp2_with fail
  refine (flat_int x y b _ hx0 (by have := G.out.1; have := X.out; omega) (by have := G.out.2; omega) G.out.2.2 hy0 Y.out).mono ?_
  rintro e w2 ⟨rfl, rfl⟩
  go_wp2
  go_ret2
  exact ⟨rfl, HB.out⟩

theorem bound_ok (s b p n : Int) (w : World) (g : Geo s b) (hp0 : 0 ≤ p) (hp : p ≤ 15) (hn0 : 1 ≤ n) (hn : n ≤ 4096) :
    Calls Try.prog 8 #[.agg #[.int .i64 s, .int .i64 b], .int .i64 p, .int .i64 n] w (Fresh (.tuple #[.int .i64 (2 * n * (p + 1) * (s * b + 2)), .int .i64 0]) w) := by
  have hm : s * b ≤ 24 * 16 := Int.mul_le_mul (by have := g.1; omega) g.2.2 (by have := g.2; omega) (by omega)
  have hm0 : 0 ≤ s * b := Int.mul_nonneg (by have := g.1; omega) (by have := g.2; omega)
  have hk : 2 * n * (p + 1) ≤ 8192 * 16 := Int.mul_le_mul (by omega) (by omega) (by omega) (by omega)
  have hk0 : 0 ≤ 2 * n * (p + 1) := Int.mul_nonneg (by omega) (by omega)
  have hj : 2 * n * (p + 1) * (s * b + 2) ≤ 131072 * 386 := Int.mul_le_mul (by omega) (by omega) (by omega) (by omega)
  have hj0 : 0 ≤ 2 * n * (p + 1) * (s * b + 2) := Int.mul_nonneg (by omega) (by omega)
  have G := Lib.hid g
  clear g
  go_enter Try.func8, Try.ntmps8
  go_wp2_with fail
  refine (check_ok s b _ G.out).mono ?_
  rintro e w1 ⟨rfl, hb⟩
  have c0 := geo_s hb
  have c1 := geo_b hb
  have HB := Lib.hid (geo_below hb)
  clear hb
  go_wp2_with fail
  refine (slots_any s b _ G.out).mono ?_
  rintro e w2 ⟨rfl, hb⟩
  have HC := Lib.hid (HB.out.trans (hb.mono HB.out.size))
  clear hb c0 c1
  go_wp2
  go_ret2
  exact ⟨rfl, HC.out⟩

theorem bound_arg (s b p n : Int) (w : World) (g : Geo s b) (h : ¬ ((0 ≤ p ∧ p ≤ 15) ∧ 1 ≤ n ∧ n ≤ 4096)) :
    Calls Try.prog 8 #[.agg #[.int .i64 s, .int .i64 b], .int .i64 p, .int .i64 n] w (Fresh (.tuple #[.int .i64 0, .int .i64 1]) w) := by
  have G := Lib.hid g
  clear g
  by_cases h1 : p < 0
  · clear h
    go_enter Try.func8, Try.ntmps8
    go_wp2_with fail
    refine (check_ok s b _ G.out).mono ?_
    rintro e w1 ⟨rfl, hb⟩
    have HB := Lib.hid (geo_below hb)
    clear hb
    go_wp2
    go_ret2
    exact ⟨rfl, HB.out⟩
  by_cases h2 : 16 ≤ p
  · clear h
    go_enter Try.func8, Try.ntmps8
    go_wp2_with fail
    refine (check_ok s b _ G.out).mono ?_
    rintro e w1 ⟨rfl, hb⟩
    have HB := Lib.hid (geo_below hb)
    clear hb
    go_wp2
    go_ret2
    exact ⟨rfl, HB.out⟩
  by_cases h3 : n < 1
  · clear h
    go_enter Try.func8, Try.ntmps8
    go_wp2_with fail
    refine (check_ok s b _ G.out).mono ?_
    rintro e w1 ⟨rfl, hb⟩
    have HB := Lib.hid (geo_below hb)
    clear hb
    go_wp2
    go_ret2
    exact ⟨rfl, HB.out⟩
  have h4 : 4096 < n := by omega
  clear h
  go_enter Try.func8, Try.ntmps8
  go_wp2_with fail
  refine (check_ok s b _ G.out).mono ?_
  rintro e w1 ⟨rfl, hb⟩
  have HB := Lib.hid (geo_below hb)
  clear hb
  go_wp2
  go_ret2
  exact ⟨rfl, HB.out⟩

theorem bound_bad (s b p n : Int) (w : World) (g : ¬ Geo s b) :
    Calls Try.prog 8 #[.agg #[.int .i64 s, .int .i64 b], .int .i64 p, .int .i64 n] w (Fresh (.tuple #[.int .i64 0, .int .i64 1]) w) := by
  have G := Lib.hid g
  clear g
  go_enter Try.func8, Try.ntmps8
  go_wp2_with fail
  refine (check_bad s b _ G.out).mono ?_
  rintro e w1 ⟨rfl, hb⟩
  have HB := Lib.hid (geo_below hb)
  clear hb
  go_wp2
  go_ret2
  exact ⟨rfl, HB.out⟩

/-- The first facts. -/
theorem awake_any (w : World) : Calls Try.prog 10 #[] w (Fresh (.bool true) w) := by
  have g : Geo 8 4 := by unfold Geo; omega
  have hat : ∀ W, Calls Try.prog 13 #[.agg #[.int .i64 8, .int .i64 4], .complex .f64 4611686018427387904 4613937818241073152] W (Fresh (.tuple #[.int .i64 51, .int .i64 0]) W) := fun W => by
    have h := at_ok 8 4 2 3 W g (by omega) (by omega) (by omega) (by omega)
    rw [show floatOfInt .f64 2 = 4611686018427387904 from two, show floatOfInt .f64 3 = 4613937818241073152 from three] at h
    exact h
  have G := Lib.hid g
  clear g
  go_enter Try.func10, Try.ntmps10
  go_wp2_with fail
  refine (sectors_ok 8 4 _ G.out).mono ?_
  rintro e w1 ⟨rfl, h1⟩
  go_wp2_with fail
  refine (hat _).mono ?_
  rintro e w2 ⟨rfl, h2⟩
  go_wp2_with fail
  refine (capacity_ok 8 4 _ G.out).mono ?_
  rintro e w3 ⟨rfl, h3⟩
  have HB := Lib.hid ((h1.trans (h2.mono h1.size)).trans (h3.mono (Nat.le_trans h1.size h2.size)))
  clear h1 h2 h3 hat
  go_wp2
  go_ret
  exact ⟨rfl, HB.out⟩
end Go.Proofs.Ythkeedgjhkpgjaa
