/- Places, pages and tables: what they are, by their words, and how they lie in memory. -/
import Derived.Test.YtokklimfncljnaaApart
import Derived.Test.YtokklimfncljnaaAxisFlat
import Derived.ChangeKeysEq
import Derived.Deep.WholeRow
namespace Go.Proofs.Ytokklimfncljnaa
open Go.RowKit

/-- A place by its parts, or none. -/
abbrev Pl := Option (Nat × Nat)
def zre : Pl → Nat
  | none => 13830554455654793216
  | some p => fl p.1
def zim : Pl → Nat
  | none => 0
  | some p => fl p.2
def zval (p : Pl) : Value := .complex .f64 (zre p) (zim p)
/-- A place that may be, or none. -/
def Good (p : Pl) : Prop := ∀ q, p = some q → q.1 < 24 ∧ q.2 < 16
theorem good_none : Good none := fun _ h => by cases h
theorem good_some {a b : Nat} (ha : a < 24) (hb : b < 16) : Good (some (a, b)) := fun _ h => by cases h; exact ⟨ha, hb⟩

theorem order_none_some (a : Nat) (ha : a < 25) : FloatKind.f64.format.order 13830554455654793216 (fl a) = some .lt := by
  have h : ∀ a : Fin 25, FloatKind.f64.format.order 13830554455654793216 (fl a.val) = some .lt := by decide +kernel
  exact h ⟨a, ha⟩
theorem order_some_none (a : Nat) (ha : a < 25) : FloatKind.f64.format.order (fl a) 13830554455654793216 = some .gt := by
  have h : ∀ a : Fin 25, FloatKind.f64.format.order (fl a.val) 13830554455654793216 = some .gt := by decide +kernel
  exact h ⟨a, ha⟩
theorem order_none : FloatKind.f64.format.order 13830554455654793216 13830554455654793216 = some .eq := by decide +kernel
theorem order_zero : FloatKind.f64.format.order 0 0 = some .eq := by decide +kernel

/-- How two of them compare: their first parts, and where these are equal, their second ones. -/
theorem z_order {p q : Pl} (hp : Good p) (hq : Good q) :
    (p = q → FloatKind.f64.format.order (zre p) (zre q) = some .eq ∧ FloatKind.f64.format.order (zim p) (zim q) = some .eq) ∧
      (p ≠ q → (FloatKind.f64.format.order (zre p) (zre q) == some .eq) = false ∨ (FloatKind.f64.format.order (zre p) (zre q) = some .eq ∧ (FloatKind.f64.format.order (zim p) (zim q) == some .eq) = false)) := by
  cases p with
  | none =>
    cases q with
    | none => exact ⟨fun _ => ⟨order_none, order_zero⟩, fun h => absurd rfl h⟩
    | some q => exact ⟨(fun h => by cases h), fun _ => .inl (by show (FloatKind.f64.format.order 13830554455654793216 (fl q.1) == some .eq) = false; rw [order_none_some _ (by have := (hq q rfl).1; omega)]; rfl)⟩
  | some p =>
    have hp1 := hp p rfl
    cases q with
    | none => exact ⟨(fun h => by cases h), fun _ => .inl (by show (FloatKind.f64.format.order (fl p.1) 13830554455654793216 == some .eq) = false; rw [order_some_none _ (by omega)]; rfl)⟩
    | some q =>
      have hq1 := hq q rfl
      have e1 := fl_order p.1 q.1 (by omega) (by omega)
      have e2 := fl_order p.2 q.2 (by omega) (by omega)
      refine ⟨fun h => ?_, fun h => ?_⟩
      · obtain rfl := Option.some.inj h
        exact ⟨fl_eq _ (by omega), fl_eq _ (by omega)⟩
      · show (FloatKind.f64.format.order (fl p.1) (fl q.1) == some .eq) = false ∨ (FloatKind.f64.format.order (fl p.1) (fl q.1) = some .eq ∧ (FloatKind.f64.format.order (fl p.2) (fl q.2) == some .eq) = false)
        by_cases h1 : p.1 = q.1
        · have h2 : p.2 ≠ q.2 := fun e => h (by rw [Prod.ext h1 e])
          refine .inr ⟨by rw [e1, Nat.compare_eq_eq.2 h1], ?_⟩
          rw [e2]
          have : compare p.2 q.2 ≠ .eq := fun e => h2 (Nat.compare_eq_eq.1 e)
          cases hc : compare p.2 q.2 <;> first | rfl | exact absurd hc this
        · refine .inl ?_
          rw [e1]
          have : compare p.1 q.1 ≠ .eq := fun e => h1 (Nat.compare_eq_eq.1 e)
          cases hc : compare p.1 q.1 <;> first | rfl | exact absurd hc this

/-- The eight places of a page. -/
def zcells (Z : Nat → Pl) : List Value := (List.range 8).map fun j => zval (Z j)
theorem zcells_length (Z : Nat → Pl) : (zcells Z).length = 8 := by simp [zcells]
theorem zcells_at (Z : Nat → Pl) {j : Nat} (hj : j < 8) : (zcells Z)[j]? = some (zval (Z j)) := by simp [zcells, List.getElem?_range hj]
theorem zcells_one (Z : Nat → Pl) (v : Value) (h : v ∈ zcells Z) : v.oneCell' = true := by
  simp only [zcells, List.mem_map] at h
  obtain ⟨j, _, rfl⟩ := h
  rfl
theorem zcells_all (Z : Nat → Pl) : (zcells Z).toArray.all (·.oneCell') = true := all_oneCell_toArray (zcells_one Z)
theorem zcells_congr {Z Z' : Nat → Pl} (h : ∀ j, j < 8 → Z j = Z' j) : zcells Z = zcells Z' := List.map_congr_left fun j hj => by rw [h j (List.mem_range.1 hj)]
theorem page_size : (Try.prog.info? 64).map (·.size) = some 8 := by kernel_rfl
theorem page_len (Z : Nat → Pl) : (Try.prog.info? 64).map (·.size) = some (zcells Z).length := by rw [zcells_length]; exact page_size
theorem page_len' (Z : Nat → Pl) : (Try.prog.info? 64).map (·.size) = some (zcells Z).toArray.size := by simp only [List.size_toArray, zcells_length]; exact page_size
theorem page_there {w : World} {b o : Nat} (Z : Nat → Pl) (h : w.there b o 8) : w.there b o (zcells Z).toArray.size := by simpa [zcells_length] using h

/-- Block g is just these eight places. -/
abbrev PageIs (w : World) (g : Nat) (Z : Nat → Pl) : Prop := RowIs w g 64 (fun j => zval (Z j)) 8
theorem PageIs.range {w : World} {g : Nat} {Z : Nat → Pl} (h : PageIs w g Z) : w.rangeAt g 0 (zcells Z) :=
  RowIs.range h (by rw [zcells_length]; omega) fun j hj => by rw [zcells_length] at hj; rw [zcells_at Z hj, Nat.zero_add]
/-- What a page holds behind a store of eight places. -/
theorem stored_page {w : World} {g : Nat} {C : Nat → Value} (h : RowIs w g 64 C 8) (Z : Nat → Pl) : PageIs (w.setCells g 0 (zcells Z)) g Z :=
  (h.sets (zcells Z) 0).congr fun i hi => by
    unfold over
    rw [if_pos (by rw [zcells_length]; omega), List.getD_eq_getElem?_getD, Nat.sub_zero, zcells_at Z hi]
    rfl
theorem PageIs.cells {w : World} {g : Nat} {Z : Nat → Pl} (h : PageIs w g Z) : w.heap[g]? = some (.cells (zcells Z).toArray 64 (0, 0)) := h
/-- The value is a pointer to a page that has these places; nil: none of them. -/
def PageAt (w : World) (v : Value) (Z : Nat → Pl) : Prop := (v = .pointer none ∧ ∀ j, j < 8 → Z j = none) ∨ ∃ h, v = .pointer (some ⟨h, 0, none⟩) ∧ PageIs w h Z
theorem PageAt.keep {w w' : World} {v : Value} {Z : Nat → Pl} {F : Nat → Prop} (h : PageAt w v Z) (b : Apart F w w') (hf : ∀ k, v = .pointer (some ⟨k, 0, none⟩) → ¬ F k) : PageAt w' v Z := by
  rcases h with h | ⟨k, e, h⟩
  · exact .inl h
  · exact .inr ⟨k, e, h.apart b (hf k e)⟩
theorem PageAt.below {w w' : World} {v : Value} {Z : Nat → Pl} (h : PageAt w v Z) (b : Below w.heap.size w w') : PageAt w' v Z :=
  h.keep (F := fun _ => False) (Apart.of_below b) fun _ _ e => e
theorem PageAt.congr {w : World} {v : Value} {Z Z' : Nat → Pl} (h : PageAt w v Z) (he : ∀ j, j < 8 → Z j = Z' j) : PageAt w v Z' := by
  rcases h with ⟨e, h⟩ | ⟨k, e, h⟩
  · exact .inl ⟨e, fun j hj => by rw [← he j hj]; exact h j hj⟩
  · exact .inr ⟨k, e, RowIs.congr h fun j hj => by rw [he j hj]⟩

/-- A block has one type. -/
theorem RowIs.unlike {w : World} {g h n m : Nat} {T U : TypeId} {C D : Nat → Value} (h1 : RowIs w g T C n) (h2 : RowIs w h U D m) (ht : T ≠ U) : g ≠ h := fun e => by
  subst e
  have := h1.symm.trans h2
  simp only [Option.some.injEq, Obj.cells.injEq] at this
  exact ht this.2.1
theorem PageAt.besides {w w' : World} {v : Value} {Z : Nat → Pl} {g n : Nat} {T : TypeId} {C : Nat → Value} (h : PageAt w v Z) (hr : RowIs w g T C n) (ht : T ≠ 64) (a : Apart (fun k => k = g) w w') : PageAt w' v Z := by
  rcases h with h | ⟨k, e, h⟩
  · exact .inl h
  · exact .inr ⟨k, e, RowIs.apart h a fun e2 => RowIs.unlike hr h ht e2.symm⟩

/-- The cells of a table. -/
def tcell (n : Nat) (pg : Nat → Option Addr) (t : Nat) : Value := if t = 0 then .int .i64 (n : Int) else .pointer (pg (t - 1))
def tcells (n : Nat) (pg : Nat → Option Addr) : List Value := [.int .i64 (n : Int), .pointer (pg 0), .pointer (pg 1), .pointer (pg 2), .pointer (pg 3)]
theorem tcells_at (n : Nat) (pg : Nat → Option Addr) {j : Nat} (hj : j < 5) : (tcells n pg)[j]? = some (tcell n pg j) := by
  rcases j with _ | _ | _ | _ | _ | j <;> first | rfl | omega
theorem tcells_one (n : Nat) (pg : Nat → Option Addr) : (tcells n pg).toArray.all (·.oneCell') = true := all_oneCell_toArray fun v hv => by
  simp only [tcells, List.mem_cons, List.not_mem_nil, or_false] at hv
  rcases hv with rfl | rfl | rfl | rfl | rfl <;> rfl
theorem tcell_page (n : Nat) (pg : Nat → Option Addr) (k : Nat) : tcell n pg (1 + k) = .pointer (pg k) := by
  unfold tcell
  rw [if_neg (by omega), show 1 + k - 1 = k by omega]
theorem table_size : (Try.prog.info? 53).map (·.size) = some 5 := by kernel_rfl
theorem table_zero : (Try.prog.info? 53).map (fun i => (i.zero, i.size)) = some (some (.agg (tcells 0 fun _ => none).toArray), 5) := by kernel_rfl
theorem zero_table (w : World) : (zeroValue 53).run Try.prog w = .ok (.agg (tcells 0 fun _ => none).toArray) w := (zero_of_info table_zero).1 w
abbrev TableIs (w : World) (g n : Nat) (pg : Nat → Option Addr) : Prop := RowIs w g 53 (tcell n pg) 5
theorem TableIs.range {w : World} {g n : Nat} {pg : Nat → Option Addr} (h : TableIs w g n pg) : w.rangeAt g 0 (tcells n pg) :=
  RowIs.range h (by show 0 + 5 ≤ 5; omega) fun j hj => by rw [tcells_at n pg hj, Nat.zero_add]
theorem table_new (w : World) (n : Nat) (pg : Nat → Option Addr) : TableIs (w.alloc (.cells (tcells n pg).toArray 53)) w.heap.size n pg := row_new w _ _ 5 _ rfl fun _ hi => tcells_at n pg hi
theorem stored_table {w : World} {g : Nat} {C : Nat → Value} (h : RowIs w g 53 C 5) (n : Nat) (pg : Nat → Option Addr) : TableIs (w.setCells g 0 (tcells n pg)) g n pg :=
  (h.sets (tcells n pg) 0).congr fun i hi => by
    unfold over
    rw [if_pos (by show 0 ≤ i ∧ i < 0 + 5; omega), List.getD_eq_getElem?_getD, Nat.sub_zero, tcells_at n pg hi]
    rfl
/-- A table of n blocks with these places lies in block g. -/
structure TabAt (w : World) (g n : Nat) (Z : Nat → Pl) : Prop where
  ex : ∃ pg : Nat → Option Addr, TableIs w g n pg ∧ ∀ k, k < 4 → PageAt w (.pointer (pg k)) fun j => Z (8 * k + j)
  size : 1 ≤ n ∧ n ≤ 32
  good : ∀ i, Good (Z i)
theorem TabAt.below {w w' : World} {g n : Nat} {Z : Nat → Pl} (h : TabAt w g n Z) (b : Below w.heap.size w w') : TabAt w' g n Z := by
  obtain ⟨pg, h1, h2⟩ := h.ex
  exact ⟨⟨pg, RowIs.below h1 b, fun k hk => (h2 k hk).below b⟩, h.size, h.good⟩
theorem TabAt.lt {w : World} {g n : Nat} {Z : Nat → Pl} (h : TabAt w g n Z) : g < w.heap.size := by
  obtain ⟨pg, h1, _⟩ := h.ex
  exact RowIs.lt h1
/-- Nothing of a table lies in a block of another type than its own two. -/
theorem TabAt.besides {w w' : World} {g n f m : Nat} {Z : Nat → Pl} {T : TypeId} {C : Nat → Value} (h : TabAt w g n Z) (hr : RowIs w f T C m) (h1 : T ≠ 64) (h2 : T ≠ 53) (a : Apart (fun k => k = f) w w') : TabAt w' g n Z := by
  obtain ⟨pg, k1, k2⟩ := h.ex
  exact ⟨⟨pg, RowIs.apart k1 a (fun e => RowIs.unlike hr k1 h2 e.symm), fun k hk => (k2 k hk).besides hr h1 a⟩, h.size, h.good⟩
/-- One block has another place. -/
def upd (Z : Nat → Pl) (i : Nat) (p : Pl) (j : Nat) : Pl := if j = i then p else Z j
end Go.Proofs.Ytokklimfncljnaa
