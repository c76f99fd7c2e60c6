
/- Flush; New; Crash. -/
import Derived.Test.YtmgeifolgdgapaaDvGet
namespace Go.Proofs.Ytmgeifolgdgapaa
open Go.RowKit

/-- What Flush answers: the device behind it, or none the wiser. -/
def Flushed (w : World) (base g h : Nat) (L : Value) (D : Dev) (e : Ending) (w' : World) : Prop :=
  Apart (fun k => k = g ∨ k = h) w w' ∧
    ((D.power.1 = true ∧ e = .returned (.int .i64 0) ∧ IsDev w' base g h (.slice none 0 0) (D.power.2.settle (fun _ => true))) ∨
      (D.power.1 = false ∧ e = .returned (.int .i64 10) ∧ IsDev w' base g h L D.power.2))

/-- A device of n sectors of bytes 0. -/
def fresh (n : Nat) : Dev := ⟨n, fun _ _ => 0, [], false, false, 0⟩
def Born (n : Nat) (w : World) (e : Ending) (w' : World) : Prop :=
  ∃ g h, e = .returned (.tuple #[.pointer (some ⟨g, 0, none⟩), .int .i64 0]) ∧ IsDev w' w.heap.size g h (.slice none 0 0) (fresh n) ∧ Below w.heap.size w w'

set_option maxRecDepth 100000 in
theorem sector_three : (Try.prog.info? 57).map (fun i => (i.zero, i.size, i.bytes)) = some (some (.agg (cellsOf (fun _ => 0) 64).toArray), 64, 64) := by kernel_rfl
set_option maxRecDepth 100000 in
theorem make_sectors (n : Nat) (hn : n ≤ 424) (u : World) :
    ∃ w', (Instr.makeSlice 45 (.int .i64 (n : Int)) (.int .i64 (n : Int))).run Try.prog u = .ok (.slice (some ⟨u.heap.size, 0, none⟩) n n) w' ∧ RowIs w' u.heap.size 57 (dcell fun _ _ => 0) (n * 64) ∧ Below u.heap.size u w' ∧ w'.heap.size = u.heap.size + 1 := by
  obtain ⟨i0, hi, hz0, hz1, hz2⟩ := info_parts sector_three
  have h := run_make (P := Try.prog) u 45 57 i0 _ Try.underlying45 hi hz0 .i64 .i64 (n : Int) (n : Int) (by omega) (Int.le_refl _) (by rw [hz2]; omega) (by omega)
  rw [hz1, Int.toNat_natCast] at h
  refine ⟨_, h, ?_, (Below.refl _ _).alloc (Nat.le_refl _) _, by simp⟩
  unfold RowIs
  rw [heap_alloc_new]
  congr 2
  apply Array.ext'
  unfold madeCells
  simp only [Array.toList_map, Array.toList_range]
  apply List.map_congr_left
  intro i _
  have hz : (cellsOf (fun _ => 0) 64).toArray.size = 64 := by simp [cellsOf_length]
  show (cellsOf (fun _ => 0) 64).toArray[i % (cellsOf (fun _ => 0) 64).toArray.size]! = .int .u8 0
  rw [hz]
  have hi : i % 64 < 64 := by omega
  have h5 := cellsOf_at (fun _ => 0) hi
  have h6 : (cellsOf (fun _ => 0) 64).toArray[i % 64]? = some (.int .u8 0) := by rw [List.getElem?_toArray]; exact h5
  show (cellsOf (fun _ => 0) 64).toArray[i % 64]! = .int .u8 0
  rw [Array.getElem!_eq_getD, Array.getD_eq_getD_getElem?, h6]
  rfl

set_option maxRecDepth 100000 in
theorem new_arg (z : Int) (w : World) (h : ¬ (1 ≤ z ∧ z ≤ 424)) :
    Calls Try.prog 5 #[.int .i64 z] w fun e w' => e = .returned (.tuple #[.pointer none, .int .i64 1]) ∧ w = w' := by
  by_cases h1 : z < 1
  · go_enter Try.func5, Try.ntmps5
    go_wp2
    go_ret2
    exact ⟨rfl, rfl⟩
  · have h2 : 424 < z := by omega
    have d1 : decide (z < 1) = false := by simpa using h1
    clear h
    go_enter Try.func5, Try.ntmps5
    go_wp2
    go_ret2
    exact ⟨rfl, rfl⟩

set_option maxRecDepth 100000 in
theorem dev_new_ok (n : Nat) (w : World) (h1 : 1 ≤ n) (h2 : n ≤ 424) :
    Calls Try.prog 5 #[.int .i64 (n : Int)] w (Born n w) := by
  obtain ⟨w1, hmk, hr, hb, hs⟩ := make_sectors n h2 w
  have HR := Lib.hid hr
  have HB := Lib.hid hb
  have HS := Lib.hid hs
  have d1 : ¬ (n : Int) < 1 := by omega
  have d2 : ¬ (424 : Int) < (n : Int) := by omega
  clear hr hb hs
  go_enter Try.func5, Try.ntmps5
  go_wp2
  go_ret2
  refine ⟨w1.heap.size, w.heap.size, rfl, ?_, HB.out.alloc HB.out.size _⟩
  have hne : w1.heap.size ≠ w.heap.size := by have := HS.out; omega
  exact ⟨heap_alloc_new _ _, HR.out.below ((Below.refl _ _).alloc (Nat.le_refl _) _), World.ownsRow_nil _ _ _ _, HB.out.size, Nat.le_refl _, hne, (by intro e; cases e), (by intro e; cases e), ⟨h1, h2⟩, (fun _ _ _ _ => by show (0 : Nat) < 256; omega), (fun x hx => by cases hx), by show (_ : Int) ≤ 0; omega, by show (0 : Int) ≤ _; omega, fun h => by cases h⟩

/-- Does the list name write t? -/
def named (Z : List Int) (i t : Nat) : Bool := decide ((t : Int) ∈ Z.take i)
theorem named_next {Z : List Int} {i t : Nat} (hi : i < Z.length) : named Z (i + 1) t = (named Z i t || decide ((t : Int) = Z[i])) := by
  unfold named
  rw [List.take_succ_eq_append_getElem hi]
  rw [Bool.eq_iff_iff]
  simp only [List.mem_append, List.mem_singleton, decide_eq_true_eq, Bool.or_eq_true]

set_option maxRecDepth 100000 in
theorem dbool_info : (Try.prog.info? 4).map (fun i => (i.zero, i.size, i.bytes)) = some (some (.bool false), 1, 1) := by kernel_rfl
/-- The device behind a crash that spares those writes that the list names. -/
def Dev.crash (D : Dev) (Z : List Int) : Dev := { D.settle (fun t => named Z Z.length t) with off := false, limited := false, left := 0 }
def Crashed (w : World) (base g h : Nat) (D : Dev) (Z : List Int) (e : Ending) (w' : World) : Prop :=
  e = .returned (.tuple #[]) ∧ IsDev w' base g h (.slice none 0 0) (D.crash Z) ∧ Apart (fun k => k = g ∨ k = h) w w'

def Marking (w w1 : World) (m : Nat) (Z : List Int) (v : Value) (wr : World) : Prop :=
  ∃ i, i ≤ Z.length ∧ v = .int .i64 (i : Int) ∧ RowIs wr w.heap.size 4 (fun t => .bool (named Z i t)) m ∧ Below w.heap.size w wr ∧ Apart (fun k => k = w.heap.size) w1 wr

theorem RowIs.marks {w : World} {g n : Nat} {T : TypeId} {p : Nat → Bool} (h : RowIs w g T (fun t => .bool (p t)) n) : MarksAt w (some ⟨g, 0, none⟩) n p :=
  fun i hi => ⟨_, rfl, by rw [add_nil]; exact h.cell hi⟩

end Go.Proofs.Ytmgeifolgdgapaa
