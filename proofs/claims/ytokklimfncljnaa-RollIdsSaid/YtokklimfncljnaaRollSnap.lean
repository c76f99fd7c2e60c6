/- Snap, Get and Set of package roll. -/
import Derived.Test.YtokklimfncljnaaRollMore
import Derived.Deep.RegionHeld3
namespace Go.Proofs.Ytokklimfncljnaa
open Go.RowKit

/-- A snapshot has been made. -/
def Snapped (w : World) (g : Nat) (K S : Nat → Nat) (T : Nat → Option Addr) (i v : Nat) (e : Ending) (w' : World) : Prop :=
  e = .returned (.tuple #[.int .i64 (i : Int), .int .i64 0]) ∧ RollIs w' g (at_ K i 2) (at_ S i (S v)) (at_ T i (T v)) ∧ Apart (fun b => b = g) w w'

set_option maxHeartbeats 1600000 in
theorem snap_full {w : World} {g : Nat} {K S : Nat → Nat} {T : Nat → Option Addr} (h : RollIs w g K S T) {v : Nat} (hv : v < 8) (hf : ∀ j, j < 8 → K j ≠ 0) :
    Calls Try.prog 7 #[.pointer (some ⟨g, 0, none⟩), .int .i64 (v : Int)] w (Fresh (.tuple #[.int .i64 0, .int .i64 7]) w) := by
  have HR := Lib.hid h
  have HF := Lib.hid hf
  have hk := hf v hv
  clear h hf
  go_enter Try.func7, Try.ntmps7
  go_wp2_with fail
  refine (entry_ok HR.out hv hk).mono ?_
  rintro e w1 ⟨rfl, hb⟩
  have B1 := Lib.hid hb
  have R1 : Hid (RollIs w1 g K S T) := Lib.hid (RowIs.below HR.out hb)
  obtain ⟨x, hx⟩ : ∃ x, x = K v := ⟨_, rfl⟩
  obtain ⟨y, hy⟩ : ∃ y, y = S v := ⟨_, rfl⟩
  rw [← hx, ← hy]
  clear hb hx hy hk
  go_wp2
  generalize hw : World.alloc w1 _ = w2
  have hb2 : Below w1.heap.size w1 w2 := by rw [← hw]; exact (Below.refl _ _).alloc (Nat.le_refl _) _
  have d0 : w2.cell? ⟨w1.heap.size, 1, none⟩ = some (.int .i64 (y : Int)) := by rw [← hw, cell_of_row _ _ _ _ _ _ (heap_alloc_new _ _)]; rfl
  have B2 := Lib.hid (B1.out.trans (hb2.mono B1.out.size))
  have R2 : Hid (RollIs w2 g K S T) := Lib.hid (RowIs.below R1.out hb2)
  have c2 := RollIs.tab R2.out hv
  have RD : Hid (RollIs w2.drew g K S T) := Lib.hid (RowIs.apart R2.out ((Apart.refl (fun _ => False) _).drew) fun e => e)
  clear hw hb2
  go_region_with (go_at_call 12; refine (add_full RD.out HF.out 2 y (T v)).mono ?_; rintro e w3 ⟨rfl, hb3⟩)
  all_goals
    have B3 := Lib.hid (B2.out.drew.trans (hb3.mono B2.out.size))
    clear d0 c2 hb3
    go_wp2
    go_ret2
    exact ⟨rfl, B3.out⟩

set_option maxHeartbeats 1600000 in
theorem snap_ok {w : World} {g : Nat} {K S : Nat → Nat} {T : Nat → Option Addr} (h : RollIs w g K S T) {v : Nat} (hv : v < 8) (hk : K v ≠ 0) {i : Nat} (hi : i < 8) (h0 : K i = 0) (hf : ∀ j, j < i → K j ≠ 0) :
    Calls Try.prog 7 #[.pointer (some ⟨g, 0, none⟩), .int .i64 (v : Int)] w (Snapped w g K S T i v) := by
  have HR := Lib.hid h
  have HF := Lib.hid hf
  have H0 := Lib.hid h0
  clear h hf h0
  go_enter Try.func7, Try.ntmps7
  go_wp2_with fail
  refine (entry_ok HR.out hv hk).mono ?_
  rintro e w1 ⟨rfl, hb⟩
  have B1 := Lib.hid hb
  have R1 : Hid (RollIs w1 g K S T) := Lib.hid (RowIs.below HR.out hb)
  obtain ⟨x, hx⟩ : ∃ x, x = K v := ⟨_, rfl⟩
  obtain ⟨y, hy⟩ : ∃ y, y = S v := ⟨_, rfl⟩
  rw [← hx, ← hy]
  have HY := Lib.hid hy
  clear hb hx hy hk
  go_wp2
  generalize hw : World.alloc w1 _ = w2
  have hb2 : Below w1.heap.size w1 w2 := by rw [← hw]; exact (Below.refl _ _).alloc (Nat.le_refl _) _
  have d0 : w2.cell? ⟨w1.heap.size, 1, none⟩ = some (.int .i64 (y : Int)) := by rw [← hw, cell_of_row _ _ _ _ _ _ (heap_alloc_new _ _)]; rfl
  have B2 := Lib.hid (B1.out.trans (hb2.mono B1.out.size))
  have R2 : Hid (RollIs w2 g K S T) := Lib.hid (RowIs.below R1.out hb2)
  have c2 := RollIs.tab R2.out hv
  have RD : Hid (RollIs w2.drew g K S T) := Lib.hid (RowIs.apart R2.out ((Apart.refl (fun _ => False) _).drew) fun e => e)
  clear hw hb2
  go_region_with (go_at_call 12; refine (add_ok RD.out hi H0.out HF.out 2 y (T v)).mono ?_; rintro e w3 ⟨rfl, hr3, ha3⟩)
  all_goals
    have R3 := Lib.hid hr3
    have A3 := Lib.hid (((Apart.of_below (F := fun b => b = g) B2.out).drew).trans ha3 fun _ _ e => e)
    clear d0 c2 hr3 ha3
    go_wp2
    go_ret2
    exact ⟨rfl, by rw [← HY.out]; exact R3.out, A3.out⟩

theorem get_ok {w : World} {g : Nat} {K S : Nat → Nat} {T : Nat → Option Addr} (h : RollIs w g K S T) {v : Nat} (hv : v < 8) (hk : K v ≠ 0) {t n : Nat} {Z : Nat → Pl} (hT : T v = some ⟨t, 0, none⟩) (ht : TabAt w t n Z) {i : Nat} (hi : i < n) {a b : Nat} (hz : Z i = some (a, b)) (ha : a < 24) :
    Calls Try.prog 10 #[.pointer (some ⟨g, 0, none⟩), .int .i64 (v : Int), .int .i64 (i : Int)] w (Fresh (.tuple #[.complex .f64 (fl a) (fl b), .bool true, .int .i64 0]) w) := by
  have HR := Lib.hid h
  have HT := Lib.hid ht
  have HE := Lib.hid hT
  have HZ := Lib.hid hz
  clear h ht hT hz
  go_enter Try.func10, Try.ntmps10
  go_wp2_with fail
  refine (entry_ok HR.out hv hk).mono ?_
  rintro e w1 ⟨rfl, hb⟩
  have B1 := Lib.hid hb
  have R1 : Hid (RollIs w1 g K S T) := Lib.hid (RowIs.below HR.out hb)
  have T1 := Lib.hid (HT.out.below hb)
  obtain ⟨x, hx⟩ : ∃ x, x = K v := ⟨_, rfl⟩
  obtain ⟨y, hy⟩ : ∃ y, y = S v := ⟨_, rfl⟩
  rw [← hx, ← hy]
  have c1 := RollIs.tab R1.out hv
  rw [HE.out] at c1
  have c2 : ∀ o : Obj, (w1.alloc o).cell? ⟨g, 16 + v, none⟩ = some (.pointer (some ⟨t, 0, none⟩)) := fun o => cell_later ((Below.refl _ w1).alloc (Nat.le_refl _) o) c1
  clear hb hx hy hk c1
  go_wp2_with fail
  refine (tget_ok (T1.out.below ((Below.refl _ w1).alloc (Nat.le_refl _) _)) hi HZ.out ha).mono ?_
  rintro e w2 ⟨rfl, hb2⟩
  have B2 := Lib.hid ((B1.out.alloc B1.out.size _).trans (hb2.mono (by have := B1.out.size; simp; omega)))
  clear hb2 c2
  go_wp2
  go_ret3
  exact ⟨rfl, B2.out⟩

/-- A block of a volume has another place. -/
def SetTo (w : World) (g : Nat) (K S : Nat → Nat) (T : Nat → Option Addr) (v n : Nat) (Z : Nat → Pl) (e : Ending) (w' : World) : Prop :=
  ∃ t, e = .returned (.int .i64 0) ∧ RollIs w' g K S (at_ T v (some ⟨t, 0, none⟩)) ∧ TabAt w' t n Z ∧ Apart (fun b => b = g) w w'

theorem set_read {w : World} {g : Nat} {K S : Nat → Nat} {T : Nat → Option Addr} (h : RollIs w g K S T) {v : Nat} (hv : v < 8) (hk : K v = 2) (z : Int) (r s : Nat) (b : Bool) :
    Calls Try.prog 9 #[.pointer (some ⟨g, 0, none⟩), .int .i64 (v : Int), .int .i64 z, .complex .f64 r s, .bool b] w (Fresh (.int .i64 8) w) := by
  have HR := Lib.hid h
  have hk0 : K v ≠ 0 := by omega
  clear h
  go_enter Try.func9, Try.ntmps9
  go_wp2_with fail
  refine (entry_ok HR.out hv hk0).mono ?_
  rintro e w1 ⟨rfl, hb⟩
  have B1 := Lib.hid hb
  rw [hk]
  obtain ⟨y, hy⟩ : ∃ y, y = S v := ⟨_, rfl⟩
  rw [← hy]
  clear hb hy hk0
  go_wp2
  go_ret
  exact ⟨rfl, B1.out.alloc B1.out.size _⟩

theorem changed_put {w : World} {t n : Nat} {Z : Nat → Pl} (ht : TabAt w t n Z) {i : Nat} (hi : i < n) {a b : Nat} (ha : a < 24) (hb : b < 16) :
    Calls Try.prog 14 #[.pointer (some ⟨t, 0, none⟩), .int .i64 (i : Int), .complex .f64 (fl a) (fl b), .bool true] w
      fun e w' => ∃ g', e = .returned (.tuple #[.pointer (some ⟨g', 0, none⟩), .int .i64 0]) ∧ TabAt w' g' n (upd Z i (some (a, b))) ∧ Below w.heap.size w w' := by
  go_enter Try.func14, Try.ntmps14
  go_wp2_with fail
  refine (put_ok ht hi ha hb).mono ?_
  rintro e w1 ⟨g', rfl, h1, h2⟩
  have H1 := Lib.hid h1
  have H2 := Lib.hid h2
  clear h1 h2 ht
  go_wp2
  go_ret2
  exact ⟨g', rfl, H1.out, H2.out⟩

theorem set_ok {w : World} {g : Nat} {K S : Nat → Nat} {T : Nat → Option Addr} (h : RollIs w g K S T) {v : Nat} (hv : v < 8) (hk : K v = 1) {t n : Nat} {Z : Nat → Pl} (hT : T v = some ⟨t, 0, none⟩) (ht : TabAt w t n Z) {i : Nat} (hi : i < n) {a b : Nat} (ha : a < 24) (hb : b < 16) :
    Calls Try.prog 9 #[.pointer (some ⟨g, 0, none⟩), .int .i64 (v : Int), .int .i64 (i : Int), .complex .f64 (fl a) (fl b), .bool true] w (SetTo w g K S T v n (upd Z i (some (a, b)))) := by
  have HR := Lib.hid h
  have HT := Lib.hid ht
  have HE := Lib.hid hT
  have hk0 : K v ≠ 0 := by omega
  clear h ht hT
  go_enter Try.func9, Try.ntmps9
  go_wp2_with fail
  refine (entry_ok HR.out hv hk0).mono ?_
  rintro e w1 ⟨rfl, hb⟩
  have B1 := Lib.hid hb
  have R1 : Hid (RollIs w1 g K S T) := Lib.hid (RowIs.below HR.out hb)
  have T1 := Lib.hid (HT.out.below hb)
  rw [hk]
  obtain ⟨y, hy⟩ : ∃ y, y = S v := ⟨_, rfl⟩
  rw [← hy]
  have c1 := RollIs.tab R1.out hv
  rw [HE.out] at c1
  have c2 : ∀ o : Obj, (w1.alloc o).cell? ⟨g, 16 + v, none⟩ = some (.pointer (some ⟨t, 0, none⟩)) := fun o => cell_later ((Below.refl _ w1).alloc (Nat.le_refl _) o) c1
  clear hb hy hk0 c1 hk
  go_wp2_with fail
  have hb1 := (Below.refl _ w1).alloc (Nat.le_refl _) (.cells #[.int .i64 1, .int .i64 (y : Int)] 33)
  refine (changed_put (T1.out.below hb1) hi ha hb).mono ?_
  rintro e w2 ⟨t2, rfl, ht2, hb2⟩
  have hb3 := hb1.trans (hb2.mono hb1.size)
  have B2 := Lib.hid (B1.out.trans (hb3.mono B1.out.size))
  have R2 : Hid (RollIs w2 g K S T) := Lib.hid (RowIs.below R1.out hb3)
  have T2 := Lib.hid ht2
  have d1 := RollIs.tab R2.out hv
  have d2 := RowIs.free R2.out (16 + v)
  clear hb1 hb2 hb3 c2 ht2
  go_wp2
  go_ret
  have ha := apart_set w2 g (16 + v) (.pointer (some ⟨t2, 0, none⟩))
  exact ⟨t2, rfl, RowIs.set_ R2.out (fun _ => by rw [rcell_tab]; unfold at_; rw [if_pos rfl]) (fun t _ ht => rcell_tab_ ht), T2.out.besides R2.out (by decide) (by decide) ha, (Apart.of_below (F := fun b => b = g) B2.out).trans ha fun _ _ e => e⟩
end Go.Proofs.Ytokklimfncljnaa
