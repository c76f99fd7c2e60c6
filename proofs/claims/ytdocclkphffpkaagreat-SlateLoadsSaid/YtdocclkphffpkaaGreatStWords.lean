/- States: how they lie in memory, and one entry of their row of entries. Nothing of the program's functions. -/
import Derived.Test.YtdocclkphffpkaaGreatMerge3
import Derived.Test.YtdocclkphffpkaaGreatMerge1
import Derived.Deep.WholeRow
import Derived.ChangeKeysEq
namespace Go.Proofs.YtdocclkphffpkaaGreat
open Go.RowKit

/-- Cell t of a state: kinds K, sizes S, rows of places V. -/
def scell (K S : Nat → Nat) (V : Nat → Value) (t : Nat) : Value :=
  if t < 16 then (if t % 2 = 0 then .int .i64 (K (t / 2) : Int) else .int .i64 (S (t / 2) : Int)) else V (t - 16)
def scells (K S : Nat → Nat) (V : Nat → Value) : List Value := (List.range 24).map (scell K S V)
def ecells (K S : Nat → Nat) : List Value := (List.range 16).map (scell K S fun _ => .slice none 0 0)
theorem scell_kind (K S : Nat → Nat) (V : Nat → Value) {i : Nat} (h : i < 8) : scell K S V (i * 2) = .int .i64 (K i : Int) := by
  unfold scell
  rw [if_pos (by omega), if_pos (by omega), show i * 2 / 2 = i by omega]
theorem scell_size (K S : Nat → Nat) (V : Nat → Value) {i : Nat} (h : i < 8) : scell K S V (i * 2 + 1) = .int .i64 (S i : Int) := by
  unfold scell
  rw [if_pos (by omega), if_neg (by omega), show (i * 2 + 1) / 2 = i by omega]
theorem scell_row (K S : Nat → Nat) (V : Nat → Value) (i : Nat) : scell K S V (16 + i) = V i := by
  unfold scell
  rw [if_neg (by omega), show 16 + i - 16 = i by omega]
theorem scells_length (K S : Nat → Nat) (V : Nat → Value) : (scells K S V).length = 24 := by simp [scells]
theorem ecells_length (K S : Nat → Nat) : (ecells K S).length = 16 := by simp [ecells]
theorem ecells_at (K S : Nat → Nat) (V : Nat → Value) {j : Nat} (h : j < 16) : (ecells K S)[j]? = some (scell K S V j) := by
  unfold ecells
  rw [List.getElem?_map, List.getElem?_range h]
  show some _ = some _
  congr 1
  unfold scell
  rw [if_pos h, if_pos h]

/-- The box of a state. -/
def StIs (w : World) (b : Nat) (K S : Nat → Nat) (V : Nat → Value) : Prop := RowIs w b 32 (scell K S V) 24
theorem StIs.kind {w : World} {b : Nat} {K S : Nat → Nat} {V : Nat → Value} (h : StIs w b K S V) {i : Nat} (hi : i < 8) : w.cell? ⟨b, i * 2, none⟩ = some (.int .i64 (K i : Int)) := by
  rw [RowIs.cell h (by omega), scell_kind K S V hi]
theorem StIs.size {w : World} {b : Nat} {K S : Nat → Nat} {V : Nat → Value} (h : StIs w b K S V) {i : Nat} (hi : i < 8) : w.cell? ⟨b, i * 2 + 1, none⟩ = some (.int .i64 (S i : Int)) := by
  rw [RowIs.cell h (by omega), scell_size K S V hi]
theorem StIs.row {w : World} {b : Nat} {K S : Nat → Nat} {V : Nat → Value} (h : StIs w b K S V) {i : Nat} (hi : i < 8) : w.cell? ⟨b, 16 + i, none⟩ = some (V i) := by
  rw [RowIs.cell h (by omega), scell_row]
theorem StIs.entries {w : World} {b : Nat} {K S : Nat → Nat} {V : Nat → Value} (h : StIs w b K S V) : w.rangeAt b 0 (ecells K S) := by
  refine RowIs.range h (by rw [ecells_length]; omega) fun j hj => ?_
  rw [ecells_length] at hj
  rw [ecells_at K S V hj, Nat.zero_add]
theorem StIs.whole {w : World} {b : Nat} {K S : Nat → Nat} {V : Nat → Value} (h : StIs w b K S V) : w.rangeAt b 0 (scells K S V) := by
  refine RowIs.range h (by rw [scells_length]; omega) fun j hj => ?_
  rw [scells_length] at hj
  unfold scells
  rw [List.getElem?_map, List.getElem?_range hj, Nat.zero_add]
  rfl
theorem StIs.below {w w' : World} {b : Nat} {K S : Nat → Nat} {V : Nat → Value} (h : StIs w b K S V) (hb : Below w.heap.size w w') : StIs w' b K S V := RowIs.below h hb
theorem st_new (w : World) (K S : Nat → Nat) (V : Nat → Value) : StIs (w.alloc (.cells (scells K S V).toArray 32)) w.heap.size K S V :=
  row_new w 32 (scell K S V) 24 _ (scells_length K S V) fun i hi => by
    unfold scells
    rw [List.getElem?_map, List.getElem?_range hi]
    rfl

theorem entries_info : (Tryz.prog.info? 28).map (·.size) = some 16 := by kernel_rfl
theorem entries_len (K S : Nat → Nat) : (Tryz.prog.info? 28).map (·.size) = some (ecells K S).length := by rw [ecells_length]; exact entries_info
theorem state_size : (Tryz.prog.info? 32).map (·.size) = some 24 := by kernel_rfl
theorem state_len (K S : Nat → Nat) (V : Nat → Value) : (Tryz.prog.info? 32).map (·.size) = some (scells K S V).length := by rw [scells_length]; exact state_size
theorem entry_size : ∃ i, Tryz.prog.info? 27 = some i ∧ i.size = 2 := by
  have h : (Tryz.prog.info? 27).map (·.size) = some 2 := by kernel_rfl
  cases e : Tryz.prog.info? 27 with
  | none => rw [e] at h; cases h
  | some i => rw [e] at h; exact ⟨i, rfl, Option.some.inj h⟩
theorem entry_cells : Tryz.prog.cellsOf 27 = 2 := by kernel_rfl

/-- Entry j of a row of entries that was loaded. -/
theorem run_entry (w : World) (K S : Nat → Nat) {j : Nat} (hj : j < 8) :
    (Instr.index 28 (.agg (ecells K S).toArray) (.int .i64 (j : Int))).run Tryz.prog w = .ok (.agg #[.int .i64 (K j : Int), .int .i64 (S j : Int)]) w := by
  obtain ⟨i, hi, hs⟩ := entry_size
  have h : 0 ≤ (j : Int) ∧ (j : Int) < ((8 : Nat) : Int) := by omega
  have ha : (isAgg 27).run Tryz.prog w = .ok true w := by
    unfold isAgg
    rw [Sem.run_bind, run_underlying Tryz.underlying27 w]
    rfl
  have hx : (ecells K S).toArray.extract (j * 2) (j * 2 + 2) = #[.int .i64 (K j : Int), .int .i64 (S j : Int)] := by
    apply Array.ext_getElem?
    intro t
    rw [Array.getElem?_extract]
    by_cases ht : t < 2
    · rw [if_pos (by simp [ecells_length]; omega)]
      rw [List.getElem?_toArray, ecells_at K S (fun _ => .slice none 0 0) (by omega)]
      rcases (by omega : t = 0 ∨ t = 1) with rfl | rfl
      · rw [Nat.add_zero, scell_kind _ _ _ hj]; rfl
      · rw [scell_size _ _ _ hj]; rfl
    · rw [if_neg (by simp [ecells_length]; omega)]
      exact (Array.getElem?_eq_none (by simp; omega)).symm
  simp only [Instr.index, Sem.run_bind, run_underlying Tryz.underlying28 w, Result.andThen_ok, asIntOf, Sem.run_pure, if_pos h, run_sizeOf w hi, entry_cells]
  rw [Int.toNat_natCast]
  simp only [part, Sem.run_bind, ha, Result.andThen_ok, if_true, run_sizeOf w hi, entry_cells, Sem.run_pure, hx]

/-- A state is stored whole. -/
theorem StIs.stored {w : World} {b : Nat} {K S K' S' : Nat → Nat} {V V' : Nat → Value} (h : StIs w b K S V) : StIs (w.setCells b 0 (scells K' S' V')) b K' S' V' := by
  refine (RowIs.sets _ 0 h).congr fun i hi => ?_
  unfold over
  rw [if_pos (by rw [scells_length]; omega), Nat.sub_zero, List.getD_eq_getElem?_getD]
  unfold scells
  rw [List.getElem?_map, List.getElem?_range hi]
  rfl
theorem StIs.there_ {w : World} {b : Nat} {K S K' S' : Nat → Nat} {V V' : Nat → Value} (h : StIs w b K S V) : w.there b 0 (scells K' S' V').toArray.size := by
  have e : (scells K' S' V').toArray.size = 24 := by simp [scells_length]
  rw [e]
  exact RowIs.there h (by omega)
theorem state_len' (K S : Nat → Nat) (V : Nat → Value) : (Tryz.prog.info? 32).map (·.size) = some (scells K S V).toArray.size := by rw [List.size_toArray]; exact state_len K S V
theorem scells_one {K S : Nat → Nat} {V : Nat → Value} (hV : ∀ i, i < 8 → (V i).oneCell' = true) : (scells K S V).toArray.all (·.oneCell') = true := by
  rw [Array.all_eq_true_iff_forall_mem]
  intro v hv
  simp only [List.mem_toArray] at hv
  unfold scells at hv
  rw [List.mem_map] at hv
  obtain ⟨i, hi, rfl⟩ := hv
  have := List.mem_range.1 hi
  unfold scell
  split
  · split <;> rfl
  · exact hV _ (by omega)

theorem zero_state : ∀ w, (zeroValue 32).run Tryz.prog w = .ok (.agg (scells (fun _ => 0) (fun _ => 0) fun _ => .slice none 0 0).toArray) w :=
  (zero_of_info (t := 32) (v := .agg (scells (fun _ => 0) (fun _ => 0) fun _ => .slice none 0 0).toArray) (n := 24) (by kernel_rfl)).1
end Go.Proofs.YtdocclkphffpkaaGreat
