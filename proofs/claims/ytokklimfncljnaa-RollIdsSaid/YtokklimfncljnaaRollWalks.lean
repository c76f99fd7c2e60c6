/- What package roll answers: Entry, add, Create, Delete. -/
import Derived.Test.YtokklimfncljnaaRollWords
import Derived.Laws.ResultCell
namespace Go.Proofs.Ytokklimfncljnaa
open Go.RowKit

theorem results_row_tmp {P : Program} {fn : Func} {p u : Tmp} {ty : TypeId} (h : fn.results = #[.cell p ty, .tmp u]) (tmps : Array Value) (w : World) (g : Nat) (t : TypeId) (cs : Array Value) (fr : Nat × Nat) (d : TypeDesc)
    (hp : tmps.getD p undef = .pointer (some ⟨g, 0, none⟩)) (hg : w.heap[g]? = some (.cells cs t fr)) (hu : P.underlying ty = some d) (hd : (match d with | .struct _ | .array _ _ => true | _ => false) = true) (hi : (P.info? ty).map (·.size) = some cs.size) :
    (results fn tmps).run P w = .ok (.tuple #[.agg cs, tmps.getD u undef]) w := by
  rw [results_cell_tmp h, hp]
  simp only [asAddr, Sem.run_pure, Result.andThen_ok, run_loadVar_row w g t ty cs fr d hg hu hd hi]
theorem entry_len : (Try.prog.info? 33).map (·.size) = some 2 := by kernel_rfl
theorem entry_ok {w : World} {g : Nat} {K S : Nat → Nat} {T : Nat → Option Addr} (h : RollIs w g K S T) {i : Nat} (hi : i < 8) (hk : K i ≠ 0) :
    Calls Try.prog 13 #[.pointer (some ⟨g, 0, none⟩), .int .i64 (i : Int)] w (Fresh (.tuple #[.agg #[.int .i64 (K i : Int), .int .i64 (S i : Int)], .int .i64 0]) w) := by
  have c0 := RollIs.kind h hi
  have c1 := RollIs.size h hi
  obtain ⟨x, hx⟩ : ∃ x, x = K i := ⟨_, rfl⟩
  obtain ⟨y, hy⟩ : ∃ y, y = S i := ⟨_, rfl⟩
  rw [← hx] at c0 hk
  rw [← hy] at c1
  have hb : ∀ o : Obj, (w.alloc o).cell? ⟨g, i * 2, none⟩ = some (.int .i64 (x : Int)) := fun o => cell_later ((Below.refl _ w).alloc (Nat.le_refl _) o) c0
  have hb1 : ∀ o : Obj, (w.alloc o).cell? ⟨g, i * 2 + 1, none⟩ = some (.int .i64 (y : Int)) := fun o => cell_later ((Below.refl _ w).alloc (Nat.le_refl _) o) c1
  rw [← hx, ← hy]
  have HX := Lib.hid hx
  have hn : ((x : Int) == 0) = false := by simpa using hk
  clear hx hy c0 c1 h hk
  go_enter Try.func13, Try.ntmps13
  go_wp2
  refine bodyPost_ret (results_row_tmp (fn := Try.f13) rfl _ _ w.heap.size 33 #[.int .i64 (x : Int), .int .i64 (y : Int)] (0, 0) _ rfl ?_ Try.underlying33 rfl entry_len) rfl ⟨rfl, ?_⟩
  · exact heap_alloc_new _ _
  · exact (Below.refl _ _).alloc (Nat.le_refl _) _

theorem add_full {w : World} {g : Nat} {K S : Nat → Nat} {T : Nat → Option Addr} (h : RollIs w g K S T) (hf : ∀ j, j < 8 → K j ≠ 0) (k s : Nat) (A : Option Addr) :
    Calls Try.prog 12 #[.pointer (some ⟨g, 0, none⟩), .agg #[.int .i64 (k : Int), .int .i64 (s : Int)], .pointer A] w (Fresh (.tuple #[.int .i64 0, .int .i64 7]) w) := by
  have HB : Hid (Below w.heap.size w (w.alloc (.cells #[.int .i64 (k : Int), .int .i64 (s : Int)] 33))) := Lib.hid ((Below.refl _ w).alloc (Nat.le_refl _) _)
  have HR := Lib.hid (RowIs.below h HB.out)
  clear h
  go_enter Try.func12, Try.ntmps12
  go_wp2_with fail
  refine (first_any (S := S) (T := T) HR.out).mono ?_
  rintro e w1 ⟨v, rfl, hl, hb⟩
  have B1 := Lib.hid (HB.out.trans (hb.mono HB.out.size))
  rcases hl with ⟨i, hi, -, h0, -⟩ | ⟨rfl, -⟩
  · exact absurd h0 (hf i hi)
  clear hb
  go_wp2
  go_ret2
  exact ⟨rfl, B1.out⟩

theorem rcell_kind_ {K S : Nat → Nat} {T : Nat → Option Addr} {i k t : Nat} (h : t ≠ i * 2) : rcell K S T t = rcell (at_ K i k) S T t := by
  unfold rcell at_
  split
  · split
    · rw [if_neg (by omega)]
    · rfl
  · rfl
theorem rcell_size_ {K S : Nat → Nat} {T : Nat → Option Addr} {i k t : Nat} (h : t ≠ i * 2 + 1) : rcell K S T t = rcell K (at_ S i k) T t := by
  unfold rcell at_
  split
  · split
    · rfl
    · rw [if_neg (by omega)]
  · rfl
theorem rcell_tab_ {K S : Nat → Nat} {T : Nat → Option Addr} {i t : Nat} {A : Option Addr} (h : t ≠ 16 + i) : rcell K S T t = rcell K S (at_ T i A) t := by
  unfold rcell at_
  split
  · rfl
  · rw [if_neg (by omega)]
theorem RollIs.put {w : World} {g : Nat} {K S : Nat → Nat} {T : Nat → Option Addr} (h : RollIs w g K S T) {i : Nat} (hi : i < 8) (k s : Nat) (A : Option Addr) :
    RollIs (((w.setCell ⟨g, i * 2, none⟩ (.int .i64 (k : Int))).setCell ⟨g, i * 2 + 1, none⟩ (.int .i64 (s : Int))).setCell ⟨g, 16 + i, none⟩ (.pointer A)) g (at_ K i k) (at_ S i s) (at_ T i A) := by
  have h1 : RollIs (w.setCell ⟨g, i * 2, none⟩ (.int .i64 (k : Int))) g (at_ K i k) S T := RowIs.set_ h (fun _ => by rw [rcell_kind _ _ _ hi]; unfold at_; rw [if_pos rfl]) fun t _ ht => rcell_kind_ ht
  have h2 : RollIs ((w.setCell ⟨g, i * 2, none⟩ (.int .i64 (k : Int))).setCell ⟨g, i * 2 + 1, none⟩ (.int .i64 (s : Int))) g (at_ K i k) (at_ S i s) T := RowIs.set_ h1 (fun _ => by rw [rcell_size _ _ _ hi]; unfold at_; rw [if_pos rfl]) fun t _ ht => rcell_size_ ht
  exact RowIs.set_ h2 (fun _ => by rw [rcell_tab]; unfold at_; rw [if_pos rfl]) fun t _ ht => rcell_tab_ ht
theorem apart_put (w : World) (g : Nat) (a b c : Nat) (x y z : Value) : Apart (fun k => k = g) w (((w.setCell ⟨g, a, none⟩ x).setCell ⟨g, b, none⟩ y).setCell ⟨g, c, none⟩ z) :=
  ((apart_set w g a x).trans (apart_set _ g b y) fun _ _ e => e).trans (apart_set _ g c z) fun _ _ e => e

/-- An id has been given. -/
def Given (w : World) (g : Nat) (K S : Nat → Nat) (T : Nat → Option Addr) (i k s : Nat) (A : Option Addr) (e : Ending) (w' : World) : Prop :=
  e = .returned (.tuple #[.int .i64 (i : Int), .int .i64 0]) ∧ RollIs w' g (at_ K i k) (at_ S i s) (at_ T i A) ∧ Apart (fun b => b = g) w w'

theorem add_ok {w : World} {g : Nat} {K S : Nat → Nat} {T : Nat → Option Addr} (h : RollIs w g K S T) {i : Nat} (hi : i < 8) (h0 : K i = 0) (hf : ∀ j, j < i → K j ≠ 0) (k s : Nat) (A : Option Addr) :
    Calls Try.prog 12 #[.pointer (some ⟨g, 0, none⟩), .agg #[.int .i64 (k : Int), .int .i64 (s : Int)], .pointer A] w (Given w g K S T i k s A) := by
  have HB : Hid (Below w.heap.size w (w.alloc (.cells #[.int .i64 (k : Int), .int .i64 (s : Int)] 33))) := Lib.hid ((Below.refl _ w).alloc (Nat.le_refl _) _)
  have HR := Lib.hid (RowIs.below h HB.out)
  clear h
  go_enter Try.func12, Try.ntmps12
  go_wp2_with fail
  refine (first_any (S := S) (T := T) HR.out).mono ?_
  rintro e w1 ⟨v, rfl, hl, hb⟩
  have B1 := Lib.hid (HB.out.trans (hb.mono HB.out.size))
  obtain rfl : v = (i : Int) := by
    rcases hl with ⟨j, hj, rfl, h1, h2⟩ | ⟨-, h2⟩
    · rcases Nat.lt_trichotomy i j with h5 | rfl | h5
      · exact absurd h0 (h2 i h5)
      · rfl
      · exact absurd h1 (hf j h5)
    · exact absurd h0 (h2 i hi)
  have R1 : Hid (RollIs w1 g K S T) := Lib.hid (RowIs.below HR.out hb)
  have d0 : w1.cell? ⟨w.heap.size, 0, none⟩ = some (.int .i64 (k : Int)) := cell_later hb (by rw [cell_of_row _ _ _ _ _ _ (heap_alloc_new _ _)]; rfl)
  have d1 : w1.cell? ⟨w.heap.size, 1, none⟩ = some (.int .i64 (s : Int)) := cell_later hb (by rw [cell_of_row _ _ _ _ _ _ (heap_alloc_new _ _)]; rfl)
  have c0 := RollIs.kind R1.out hi
  have c1 := RollIs.size R1.out hi
  have c2 := RollIs.tab R1.out hi
  have f0 := RowIs.free R1.out (i * 2)
  have f1 := RowIs.free R1.out (i * 2 + 1)
  have f2 := RowIs.free R1.out (16 + i)
  have e2 : ((w1.setCell ⟨g, i * 2, none⟩ (.int .i64 (k : Int))).setCell ⟨g, i * 2 + 1, none⟩ (.int .i64 (s : Int))).cell? ⟨g, 16 + i, none⟩ = some (.pointer (T i)) := by
    rw [World.cell?_setCell_other _ _ _ _ (by intro e; have h5 : i * 2 + 1 = 16 + i := congrArg Addr.off e; omega), World.cell?_setCell_other _ _ _ _ (by intro e; have h5 : i * 2 = 16 + i := congrArg Addr.off e; omega)]
    exact c2
  clear hl hb
  go_wp2
  go_region
  clear d0 d1 c0 c1 c2 f0 f1 f2 e2
  go_wp2
  go_ret2
  exact ⟨rfl, RowIs.apart (RollIs.put R1.out hi k s A) (((Apart.refl (fun _ => False) _)).drew) (fun e => e), (((Apart.of_below (F := fun b => b = g) B1.out)).trans (apart_put w1 g _ _ _ _ _ _) fun _ _ e => e).drew⟩

/-- An id is free again. -/
def Freed (w : World) (g : Nat) (K S : Nat → Nat) (T : Nat → Option Addr) (i : Nat) (e : Ending) (w' : World) : Prop :=
  e = .returned (.int .i64 0) ∧ RollIs w' g (at_ K i 0) (at_ S i 0) (at_ T i none) ∧ Apart (fun b => b = g) w w'

theorem delete_ok {w : World} {g : Nat} {K S : Nat → Nat} {T : Nat → Option Addr} (h : RollIs w g K S T) {i : Nat} (hi : i < 8) (hk : K i ≠ 0) :
    Calls Try.prog 8 #[.pointer (some ⟨g, 0, none⟩), .int .i64 (i : Int)] w (Freed w g K S T i) := by
  have HR := Lib.hid h
  clear h
  go_enter Try.func8, Try.ntmps8
  go_wp2_with fail
  refine (entry_ok HR.out hi hk).mono ?_
  rintro e w1 ⟨rfl, hb⟩
  have B1 := Lib.hid hb
  have R1 : Hid (RollIs w1 g K S T) := Lib.hid (RowIs.below HR.out hb)
  obtain ⟨x, hx⟩ : ∃ x, x = K i := ⟨_, rfl⟩
  obtain ⟨y, hy⟩ : ∃ y, y = S i := ⟨_, rfl⟩
  rw [← hx, ← hy]
  have HX := Lib.hid hx
  have HY := Lib.hid hy
  have HK := Lib.hid hk
  clear hb hx hy hk
  go_wp2
  generalize hw : World.alloc w1 _ = w2
  have hb2 : Below w1.heap.size w1 w2 := by rw [← hw]; exact (Below.refl _ _).alloc (Nat.le_refl _) _
  have B2 := Lib.hid (B1.out.trans (hb2.mono B1.out.size))
  have R2 : Hid (RollIs w2 g K S T) := Lib.hid (RowIs.below R1.out hb2)
  have c0 := RollIs.kind R2.out hi
  have c1 := RollIs.size R2.out hi
  have c2 := RollIs.tab R2.out hi
  have f0 := RowIs.free R2.out (i * 2)
  have f1 := RowIs.free R2.out (i * 2 + 1)
  have f2 := RowIs.free R2.out (16 + i)
  have e2 : ((w2.setCell ⟨g, i * 2, none⟩ (.int .i64 0)).setCell ⟨g, i * 2 + 1, none⟩ (.int .i64 0)).cell? ⟨g, 16 + i, none⟩ = some (.pointer (T i)) := by
    rw [World.cell?_setCell_other _ _ _ _ (by intro e; have h5 : i * 2 + 1 = 16 + i := congrArg Addr.off e; omega), World.cell?_setCell_other _ _ _ _ (by intro e; have h5 : i * 2 = 16 + i := congrArg Addr.off e; omega)]
    exact c2
  clear hw hb2
  go_region
  clear c0 c1 c2 f0 f1 f2 e2
  go_wp2
  go_ret
  exact ⟨rfl, RowIs.apart (RollIs.put R2.out hi 0 0 none) (((Apart.refl (fun _ => False) _)).drew) (fun e => e), (((Apart.of_below (F := fun b => b = g) B2.out)).trans (apart_put w2 g _ _ _ _ _ _) fun _ _ e => e).drew⟩
end Go.Proofs.Ytokklimfncljnaa
