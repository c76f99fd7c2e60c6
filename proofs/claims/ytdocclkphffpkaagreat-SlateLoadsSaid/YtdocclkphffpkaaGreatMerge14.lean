/- The state of any text. stateOf, of any text. -/
import Derived.Test.YtdocclkphffpkaaGreatLfState
import Derived.Test.YtdocclkphffpkaaGreatMerge5
import Derived.Test.YtdocclkphffpkaaGreatMerge2
import Derived.Test.YtdocclkphffpkaaGreatRoundHeld
namespace Go.Proofs.YtdocclkphffpkaaGreat
open Go.RowKit Go.Shelf

attribute [local go_sem] Oper.semAt_some

/-- What the state of a text holds of its first k volumes: kinds, sizes, how many places, and which. -/
def stK (n : Nat) (f : Nat → Nat) (k i : Nat) : Nat := if i < k then f (vpos n f i) else 0
def stS (n : Nat) (f : Nat → Nat) (k i : Nat) : Nat := if i < k then f (vpos n f i + 1) else 0
def stM (n : Nat) (f : Nat → Nat) (k i : Nat) : Nat := if i < k then halves (vstep n f (vpos n f i) - 2) else 0
def stZ (b n : Nat) (f : Nat → Nat) (i j : Nat) : Pl := plOf b (rowN (fun t => f (vpos n f i + (2 + t))) 2 j)

/-- A function at one place is another. -/
def upd {α : Type} (g : Nat → α) (k : Nat) (v : α) (i : Nat) : α := if i = k then v else g i
theorem upd_here {α : Type} (g : Nat → α) (k : Nat) (v : α) : upd g k v k = v := by unfold upd; rw [if_pos rfl]
theorem upd_other {α : Type} {g : Nat → α} {k i : Nat} {v : α} (h : i ≠ k) : upd g k v i = g i := by unfold upd; rw [if_neg h]

theorem upd_upd {α : Type} (g : Nat → α) (k : Nat) (a b : α) : upd (upd g k a) k b = upd g k b := by
  funext i
  unfold upd
  split <;> rfl

/-- These volumes are the first ones. -/
def Ids (pre : List Vol) : Prop := pre.map (·.1) = List.range pre.length
theorem ids_snoc {pre : List Vol} {x : Vol} (h : Ids (pre ++ [x])) : Ids pre ∧ x.1 = pre.length := by
  unfold Ids at h ⊢
  rw [List.map_append, List.length_append, List.map_cons, List.map_nil, List.length_singleton, List.range_succ] at h
  have h1 := List.append_inj' h rfl
  exact ⟨h1.1, by have := h1.2; simpa using this⟩

/-- The eight slices lie in unlike blocks. -/
def Apt (V : Nat → Value) : Prop := ∀ i j, i < 8 → j < 8 → i ≠ j → ∀ g, (V i).ownBlock = some g → (V j).ownBlock ≠ some g

/-- The variables of the loop: the state in its block, its eight rows, the width. -/
structure RowsI (sz b : Nat) (K S : Nat → Nat) (V : Nat → Value) (M : Nat → Nat) (Z : Nat → Nat → Pl) (W : World) : Prop where
  st : StIs W (sz + 1) K S V
  row : ∀ i, i < 8 → OwnZ W (sz + 3) (V i) (M i) (Z i)
  apt : Apt V
  wid : Boxed W sz 3 (.int .i64 (b : Int))
  size : sz + 3 ≤ W.heap.size
/-- The state, as far as these volumes have come. -/
def StateJ (w : World) (b n : Nat) (f : Nat → Nat) (pre : List Vol) (W : World) : Prop :=
  ∃ (K S : Nat → Nat) (V : Nat → Value) (M : Nat → Nat) (Z : Nat → Nat → Pl), RowsI w.heap.size b K S V M Z W ∧ (∀ i, i < 8 → M i ≤ 1000 * pre.length) ∧
    (Ids pre → ∀ i, i < 8 → K i = stK n f pre.length i ∧ S i = stS n f pre.length i ∧ M i = stM n f pre.length i ∧ ∀ j, j < M i → Z i j = stZ b n f i j) ∧ Below w.heap.size w W
theorem ownZ_cells {X Y : World} {base n : Nat} {v : Value} {Z : Nat → Pl} (h : OwnZ X base v n Z) (hk : ∀ (g : Nat) (cs : Array Value) (fr : Nat × Nat), v.ownBlock = some g → X.heap[g]? = some (.cells cs 55 fr) → Y.heap[g]? = X.heap[g]?) : OwnZ Y base v n Z := by
  refine ⟨h.1, ?_⟩
  rcases h.2 with h3 | ⟨g, cap, cur, e, hb, hg, rest⟩
  · exact .inl h3
  · exact .inr ⟨g, cap, cur, e, hb, (hk g _ _ (by rw [e]; rfl) hg).trans hg, rest⟩
theorem rowsI_cells {sz b : Nat} {K S : Nat → Nat} {V : Nat → Value} {M : Nat → Nat} {Z : Nat → Nat → Pl} {X Y : World} (h : RowsI sz b K S V M Z X) (hs : X.heap.size ≤ Y.heap.size) (hk : ∀ (g : Nat) (cs : Array Value) (t : TypeId) (fr : Nat × Nat), X.heap[g]? = some (.cells cs t fr) → Y.heap[g]? = X.heap[g]?) : RowsI sz b K S V M Z Y :=
  ⟨(hk _ _ _ _ h.st).trans h.st, fun i hi => ownZ_cells (h.row i hi) (fun g cs fr _ hc => hk g cs _ fr hc), h.apt, boxed_kept h.wid hk, Nat.le_trans h.size hs⟩
theorem stateJ_own (w : World) (b n : Nat) (f : Nat → Nat) {B : Nat} (hB : w.heap.size ≤ B) : OwnFrom B (StateJ w b n f) := by
  rintro s X Y row ⟨K, S, V, M, Z, h1, h2, h3, h5⟩ hg hrow
  have hk : ∀ (g : Nat) (cs : Array Value) (t : TypeId) (fr : Nat × Nat), X.heap[g]? = some (.cells cs t fr) → Y.heap[g]? = X.heap[g]? := fun g cs t fr h => cells_kept hg (fun r e => (hrow r e).2) h
  exact ⟨K, S, V, M, Z, rowsI_cells h1 hg.size hk, h2, h3, ownFrom_below (w₀ := w) (Nat.le_refl _) hB s X Y row h5 hg hrow⟩

theorem OwnZ.not_block {w : World} {base n g : Nat} {v : Value} {Z : Nat → Pl} {T : TypeId} {cs : Array Value} {fr : Nat × Nat} (h : OwnZ w base v n Z) (hg : w.heap[g]? = some (.cells cs T fr)) (hT : T ≠ 55) : some g ≠ v.ownBlock := fun e => by
  rcases h.2 with ⟨rfl, _⟩ | ⟨k, cap, cur, rfl, _, hk, _⟩
  · cases e
  · have : g = k := by simpa [Value.ownBlock] using e
    subst this
    rw [hg] at hk
    simp only [Option.some.injEq, Obj.cells.injEq] at hk
    exact hT hk.2.1
theorem OwnZ.lt {w : World} {base n g : Nat} {v : Value} {Z : Nat → Pl} (h : OwnZ w base v n Z) (hg : v.ownBlock = some g) : base ≤ g ∧ g < w.heap.size ∧ ∃ cs, w.heap[g]? = some (.cells cs 55 (0, 0)) := by
  rcases h.2 with ⟨rfl, _⟩ | ⟨k, cap, cur, rfl, hb, hk, _⟩
  · cases hg
  · obtain rfl : k = g := by simpa [Value.ownBlock] using hg
    exact ⟨hb, (Array.getElem?_eq_some_iff.1 hk).1, _, hk⟩
/-- A state's row is written anew. -/
theorem StIs.put_row {w : World} {g k : Nat} {K S : Nat → Nat} {V : Nat → Value} {v : Value} (h : StIs w g K S V) : StIs (w.setCell ⟨g, 16 + k, none⟩ v) g K S (upd V k v) :=
  RowIs.set_ h (fun _ => by rw [scell_row, upd_here]) (fun t ht hne => by
    unfold scell
    split
    · rfl
    · rw [upd_other (by omega)])

/-- One place more in row k. -/
theorem row_step {sz b k : Nat} {K S : Nat → Nat} {V : Nat → Value} {M : Nat → Nat} {Z : Nat → Nat → Pl} {wr : World} {p : Pl} (h : RowsI sz b K S V M Z wr) (h8 : k < 8) (hp : p = Z k (M k)) (hM : M k ≤ 1000000) (mm : Nat) :
    ∃ v' w', (Builtin.append_ #[29, 29] 29 #[V k, .slice (some ⟨wr.heap.size, 0, none⟩) 1 1]).run Tryz.prog ((wr.drewN mm).alloc (.cells #[zval p] 55)) = .ok v' w' ∧ (∃ g cap, v' = .slice (some ⟨g, 0, none⟩) (M k + 1) cap) ∧
      w'.cell? ⟨sz + 1, 16 + k, none⟩ = some (V k) ∧ w'.frozen? ⟨sz + 1, 16 + k, none⟩ = false ∧ Boxed w' sz 3 (.int .i64 (b : Int)) ∧
      RowsI sz b K S (upd V k v') (upd M k (M k + 1)) Z (w'.setCell ⟨sz + 1, 16 + k, none⟩ v') ∧ (∀ B, KeepsFrom B wr (w'.setCell ⟨sz + 1, 16 + k, none⟩ v')) ∧ Below sz wr (w'.setCell ⟨sz + 1, 16 + k, none⟩ v') ∧
      (∀ g f n, IntsLie wr g f n → g ≠ sz + 1 → IntsLie (w'.setCell ⟨sz + 1, 16 + k, none⟩ v') g f n) := by
  obtain ⟨W, hW⟩ : ∃ W, W = wr.drewN mm := ⟨_, rfl⟩
  have hh : ∀ g : Nat, W.heap[g]? = wr.heap[g]? := fun g => by rw [hW]; rfl
  have hs : W.heap.size = wr.heap.size := by rw [hW]; rfl
  have ho : OwnZ W (sz + 3) (V k) (M k) (Z k) := by rw [hW]; exact h.row k h8
  rw [← hW]
  obtain ⟨v', w', r1, r2, r3, r4, r5⟩ := run_z_at 29 ho hp (by omega) (by rw [hs]; exact h.size)
  rw [hs] at r1
  have hnb : ∀ {g : Nat} {cs : Array Value} {T : TypeId} {fr : Nat × Nat}, wr.heap[g]? = some (.cells cs T fr) → T ≠ 55 → w'.heap[g]? = some (.cells cs T fr) := fun {g cs T fr} hg hT => by
    have hlt : g < W.heap.size := by rw [hs]; exact (Array.getElem?_eq_some_iff.1 hg).1
    rw [r4.block g (by simp; omega) (OwnZ.not_block ho (by rw [hh]; exact hg) hT), heap_alloc_old W _ hlt, hh]
    exact hg
  have st' : StIs w' (sz + 1) K S V := hnb h.st (by decide)
  have wd' : Boxed w' sz 3 (.int .i64 (b : Int)) := hnb h.wid (by decide)
  have hfar : ∀ {g : Nat}, g ≠ sz + 1 → (w'.setCell ⟨sz + 1, 16 + k, none⟩ v').heap[g]? = w'.heap[g]? := fun {g} hg => Below.heap_setCell _ _ _ _ hg
  have hsz : wr.heap.size ≤ w'.heap.size := by have := r4.size; rw [World.size_alloc, hs] at this; omega
  refine ⟨v', w', r1, r3, (by have := RowIs.cell st' (i := 16 + k) (by omega); rw [scell_row] at this; exact this), RowIs.free st' _, wd', ⟨StIs.put_row st', fun i hi => ?_, ?_, (hfar (by omega)).trans wd', ?_⟩, fun B => ?_, ?_, fun g f n hg hne => (hfar hne).trans (hnb hg (by decide))⟩
  · by_cases hik : i = k
    · subst hik
      rw [upd_here, upd_here]
      exact ownZ_cells r2 fun g cs fr hv hc => hfar (fun e => by subst e; have hx := (show w'.heap[sz + 1]? = _ from st').symm.trans hc; simp only [Option.some.injEq, Obj.cells.injEq] at hx; exact absurd hx.2.1 (by decide))
    · rw [upd_other hik, upd_other hik]
      refine ownZ_cells (h.row i hi) fun g cs fr hv hc => ?_
      have hlt : g < W.heap.size := by rw [hs]; exact (Array.getElem?_eq_some_iff.1 hc).1
      rw [hfar (fun e => by subst e; have hx := (show wr.heap[sz + 1]? = _ from h.st).symm.trans hc; simp only [Option.some.injEq, Obj.cells.injEq] at hx; exact absurd hx.2.1 (by decide)),
        r4.block g (by simp; omega) (fun e => h.apt i k hi h8 hik g hv e.symm), heap_alloc_old W _ hlt, hh]
  · intro i j hi hj hij g hgi hgj
    by_cases hik : i = k
    · subst hik
      rw [upd_here] at hgi
      rw [upd_other (Ne.symm hij)] at hgj
      rcases r5 with e | e
      · exact h.apt i j hi hj hij g (e ▸ hgi) hgj
      · have := ((h.row j hj).lt hgj).2.1
        rw [e] at hgi
        have := Option.some.inj hgi
        omega
    · rw [upd_other hik] at hgi
      by_cases hjk : j = k
      · subst hjk
        rw [upd_here] at hgj
        rcases r5 with e | e
        · exact h.apt i j hi hj hij g hgi (e ▸ hgj)
        · have := ((h.row i hi).lt hgi).2.1
          rw [e] at hgj
          have := Option.some.inj hgj
          omega
      · rw [upd_other hjk] at hgj
        exact h.apt i j hi hj hij g hgi hgj
  · have := h.size
    have e : (w'.setCell ⟨sz + 1, 16 + k, none⟩ v').heap.size = w'.heap.size := by simp [World.setCell]
    omega
  · refine ⟨by have e : (w'.setCell ⟨sz + 1, 16 + k, none⟩ v').heap.size = w'.heap.size := by simp [World.setCell]
               omega, fun g o hB hg hc => ?_⟩
    have hlt : g < W.heap.size := by rw [hs]; exact (Array.getElem?_eq_some_iff.1 hg).1
    rw [hfar (fun e => by subst e; rw [show wr.heap[sz + 1]? = _ from h.st] at hg; cases hg; cases hc),
      r4.block g (by simp; omega) (fun e => by
        obtain ⟨_, _, cs, hcs⟩ := (h.row k h8).lt e.symm
        rw [hcs] at hg; cases hg; cases hc), heap_alloc_old W _ hlt, hh]
    exact hg
  · have b1 : Below sz wr W := by rw [hW]; exact below_drewN (Below.refl _ _) mm
    have b2 : Below sz wr (W.alloc (.cells #[zval p] 55)) := b1.alloc (by rw [hs]; have := h.size; omega) _
    have b3 := b2.trans ((Below.refl sz (W.alloc (.cells #[zval p] 55))).grown r4 (by simp; have := h.size; omega) fun j hj => by have := (ho.lt hj).1; omega)
    exact b3.setCell (p := ⟨sz + 1, 16 + k, none⟩) (by show sz ≤ sz + 1; omega) v'
theorem scells_congr {K K' S S' : Nat → Nat} {V : Nat → Value} (hK : ∀ i, i < 8 → K i = K' i) (hS : ∀ i, i < 8 → S i = S' i) : scells K S V = scells K' S' V := by
  unfold scells
  refine List.map_congr_left fun t ht => ?_
  have h24 := List.mem_range.1 ht
  unfold scell
  split
  · split
    · rw [hK _ (by omega)]
    · rw [hS _ (by omega)]
  · rfl
end Go.Proofs.YtdocclkphffpkaaGreat

namespace Go.Proofs.YtdocclkphffpkaaGreat
open Go.RowKit Go.Shelf

attribute [local go_sem] Oper.semAt_some

theorem cell_besides {X Y : World} {b : Nat} {p : Addr} {u : Value} (h : Apart (fun k => k = b) X Y) (hc : X.cell? p = some u) (hne : p.block ≠ b) : Y.cell? p = some u :=
  (World.cell?_of_block (h.block p.block (World.block_lt_of_cell? _ _ hc) hne)).trans hc
theorem block_add (a : Addr) (i : Nat) : (a.add i).block = a.block := by unfold Addr.add; split <;> rfl
theorem row_unlike {w : World} {g n : Nat} {T : TypeId} {C : Nat → Value} {ad : Addr} {u : Value} (h : RowIs w g T C n) (hc : w.cell? ad = some u) (hne : ∀ i, i < n → C i ≠ u) : ad.block ≠ g := fun e => by
  unfold World.cell? at hc
  unfold RowIs at h
  rw [e, h] at hc
  dsimp only at hc
  split at hc
  · cases hc
  · rw [List.getElem?_toArray, List.getElem?_map] at hc
    by_cases hi : ad.off < n
    · rw [List.getElem?_range hi] at hc
      exact hne _ hi (Option.some.inj hc)
    · rw [List.getElem?_eq_none (by simp; omega)] at hc
      cases hc
theorem scell_no_byte {K S : Nat → Nat} {V : Nat → Value} (hV : ∀ i, i < 8 → ∃ A n c, V i = .slice A n c) (z : Nat) (i : Nat) (hi : i < 24) : scell K S V i ≠ .int .u8 (z : Int) := by
  unfold scell
  split
  · split <;> (intro h; cases h)
  · obtain ⟨A, n, c, e⟩ := hV (i - 16) (by omega)
    rw [e]
    intro h; cases h

/-- Row k, with the new places behind its own. -/
def zNew (b : Nat) (f : Nat → Nat) (p k n : Nat) (Z : Nat → Nat → Pl) (i j : Nat) : Pl := if i = k ∧ n ≤ j then plOf b (rowN (fun t => f (p + (2 + t))) 2 (j - n)) else Z i j

theorem stateJ_next {w W' : World} {b n k q : Nat} {f : Nat → Nat} {pre : List Vol} {K S : Nat → Nat} {V' : Nat → Value} {M : Nat → Nat} {Z : Nat → Nat → Pl} {u : Value × (Nat × (Nat → Nat))}
    (hr : RowsI w.heap.size b (upd K k (f (vpos n f k))) (upd S k (f (vpos n f k + 1))) V' (upd M k (M k + q)) (zNew b f (vpos n f k) k (M k) Z) W') (h8 : k < 8) (hq : q = halves (vstep n f (vpos n f k) - 2)) (hq2 : q ≤ 255)
    (hm : ∀ i, i < 8 → M i ≤ 1000 * pre.length) (hi : Ids pre → ∀ i, i < 8 → K i = stK n f pre.length i ∧ S i = stS n f pre.length i ∧ M i = stM n f pre.length i ∧ ∀ j, j < M i → Z i j = stZ b n f i j) (hb : Below w.heap.size w W') : StateJ w b n f (pre ++ [(k, u)]) W' := by
  refine ⟨_, _, _, _, _, hr, fun i h => ?_, fun hid i h => ?_, hb⟩
  · rw [List.length_append, List.length_singleton]
    by_cases hik : i = k
    · subst hik; rw [upd_here]; have := hm i h; omega
    · rw [upd_other hik]; have := hm i h; omega
  · obtain ⟨hp, hx⟩ := ids_snoc hid
    have hx : k = pre.length := hx
    rw [List.length_append, List.length_singleton, ← hx]
    obtain ⟨h1, h2, h3, h4⟩ := hi hp i h
    rw [← hx] at h1 h2 h3
    by_cases hik : i = k
    · subst hik
      have hM0 : M i = 0 := by rw [h3]; unfold stM; rw [if_neg (by omega)]
      rw [upd_here, upd_here, upd_here, hM0, Nat.zero_add]
      refine ⟨by unfold stK; rw [if_pos (by omega)], by unfold stS; rw [if_pos (by omega)], by unfold stM; rw [if_pos (by omega)]; exact hq, fun j hj => ?_⟩
      unfold zNew stZ
      rw [if_pos ⟨rfl, Nat.zero_le _⟩, Nat.sub_zero]
    · rw [upd_other hik, upd_other hik, upd_other hik, h1, h2, h3]
      refine ⟨?_, ?_, ?_, fun j hj => ?_⟩
      · unfold stK; by_cases hl : i < k
        · rw [if_pos hl, if_pos (by omega)]
        · rw [if_neg hl, if_neg (by omega)]
      · unfold stS; by_cases hl : i < k
        · rw [if_pos hl, if_pos (by omega)]
        · rw [if_neg hl, if_neg (by omega)]
      · unfold stM; by_cases hl : i < k
        · rw [if_pos hl, if_pos (by omega)]
        · rw [if_neg hl, if_neg (by omega)]
      · unfold zNew
        rw [if_neg (fun e => hik e.1)]
        exact h4 j (by rw [h3]; exact hj)

theorem cells_still {w : World} {g : Nat} {cs : Array Value} {T : TypeId} {fr : Nat × Nat} (h : w.heap[g]? = some (.cells cs T fr)) : ∀ (vs : List Value) (o : Nat), (∀ (j : Nat) (v : Value), vs[j]? = some v → cs[o + j]? = some v) → w.setCells g o vs = w
  | [], _, _ => rfl
  | v :: r, o, hv => by
    rw [World.setCells, setCell_still h (by have := hv 0 v rfl; exact this)]
    exact cells_still h r (o + 1) fun j u hu => by rw [Nat.add_assoc, Nat.add_comm 1 j]; exact hv (j + 1) u hu
theorem state_still {w : World} {b : Nat} {K S : Nat → Nat} {V : Nat → Value} (h : StIs w b K S V) : w.setCells b 0 (scells K S V) = w :=
  cells_still h _ 0 fun j v hj => by rw [Nat.zero_add, List.getElem?_toArray]; exact hj
theorem OwnZ.base {w : World} {b1 b2 n : Nat} {v : Value} {Z : Nat → Pl} (h : OwnZ w b1 v n Z) (hb : b2 ≤ b1) : OwnZ w b2 v n Z :=
  ⟨h.1, h.2.imp id fun ⟨g, cap, cur, e, h1, h2⟩ => ⟨g, cap, cur, e, Nat.le_trans hb h1, h2⟩⟩

set_option linter.unusedSimpArgs false in
set_option maxRecDepth 100000 in
set_option maxHeartbeats 4000000 in
theorem stateOf_any (v : Value) (n b : Nat) (f : Nat → Nat) (w : World) (hv : Reads w v n f) (hb : b < 256) :
    Calls Tryz.prog 82 #[v, .int .i64 (b : Int)] w fun e w' => ∃ nv V, Vols n f nv ∧ e = .returned (.agg (scells (stK n f nv) (stS n f nv) V).toArray) ∧ (∀ i, i < 8 → OwnZ w' w.heap.size (V i) (stM n f nv i) (stZ b n f i)) ∧ Below w.heap.size w w' := by
  obtain ⟨A, c, rfl, q1, q2, q3, q4⟩ := id hv
  have HV := Lib.hid hv
  clear hv
  have hzs := zero_state
  refine (callsIn_wide (n := 3)).1 ?_
  refine callsIn_of_wp_marks Tryz.func82 rfl trivial ?_ rfl
  simp only [Tryz.ntmps82, List.size_toArray, List.length_cons, List.length_nil, Nat.reduceAdd, Nat.reduceSub, Array.replicate_succ, Array.replicate_zero, List.push_toArray, List.append_toArray, List.nil_append, List.cons_append]
  gi_wp2_with fail
  refine ⟨trivial, ?_⟩
  refine (volumes_in Fence.wide _ trivial rfl _ _ _ _).mono ?_
  rintro e w' ⟨rfl, rfl⟩
  gi_wp2_with fail
  have bT := Boxed.new ((w.alloc (.cells #[.int .i64 (b : Int)] 3)).alloc (.cells (scells z0 z0 zV).toArray 32)) 44 (.slice A n c)
  have bW : Boxed (((w.alloc (.cells #[.int .i64 (b : Int)] 3)).alloc (.cells (scells z0 z0 zV).toArray 32)).alloc (.cells #[.slice A n c] 44)) w.heap.size 3 (.int .i64 (b : Int)) := ((Boxed.new w 3 (.int .i64 (b : Int))).alloc _).alloc _
  simp only [World.size_alloc] at bT
  have hB0 : Below w.heap.size w (((w.alloc (.cells #[.int .i64 (b : Int)] 3)).alloc (.cells (scells z0 z0 zV).toArray 32)).alloc (.cells #[.slice A n c] 44)) := (((Below.refl _ w).alloc (Nat.le_refl _) _).alloc (by simp) _).alloc (by simp; omega) _
  have hS0 : StIs (((w.alloc (.cells #[.int .i64 (b : Int)] 3)).alloc (.cells (scells z0 z0 zV).toArray 32)).alloc (.cells #[.slice A n c] 44)) (w.heap.size + 1) z0 z0 zV := by
    have h := (st_new (w.alloc (.cells #[.int .i64 (b : Int)] 3)) z0 z0 zV).below ((Below.refl _ _).alloc (Nat.le_refl _) (.cells #[.slice A n c] 44))
    rw [World.size_alloc] at h
    exact h
  refine wpIn_range_told rfl (by omega) (gf := 109) (lb := #[.pointer (some ⟨w.heap.size + 2, 0, none⟩)]) rfl trivial (enters_of Tryz.func109 (by kernel_rfl) rfl)
    (volumes_tells _ (by omega) (w.heap.size + 2) _ n f w _ (by simp) bT.cell hB0 HV.out) (fun h k => h.trans k) (fun X l o o' hl h1 h2 h3 => belowK_b (w := w) (Nat.le_refl _) X l o o' (by simp at hl; omega) h1 h2 h3) (fun _ => rfl) (volOk_own _ _ _)
    (StateJ w b n f) (stateJ_own w b n f (by simp; omega)) ⟨z0, z0, zV, z0, fun _ _ => none, ⟨hS0, fun i _ => ownZ_none _ _ _, fun i j _ _ _ g hg => (by cases hg), bW, by simp⟩, fun i _ => by simp, fun _ i _ => ⟨rfl, rfl, rfl, fun j hj => absurd hj (by simp)⟩, hB0⟩
    (fun x => { tmps := #[.slice A n c, .int .i64 (b : Int), undef, .pointer (some ⟨w.heap.size, 0, none⟩), .pointer (some ⟨w.heap.size + 1, 0, none⟩), .int .i64 (x.1 : Int), x.2.1, undef, undef, undef, undef, .slice A n c, .func (.func 109) #[] #[.pointer (some ⟨w.heap.size + 2, 0, none⟩)], .int .i64 (x.1 : Int), x.2.1, undef, undef, undef, undef, undef, undef, undef, undef, undef, undef, undef, undef, undef, undef, undef, undef, undef, undef, undef, undef, undef, undef, undef, undef, undef, undef, undef, undef, undef, undef, undef, undef, undef, undef, undef, undef, undef, undef], defers := [] }) ?assign ?body ?done
  case assign =>
    intro l x W K hK
    gi_wp2
    exact hK
  case body =>
    rintro l pre ⟨k, xv, m, xf⟩ W ⟨K, S, V, M, Z, hrows, hmm, hid, hbl⟩ hlt ⟨hr, h8, hp, hx⟩
    dsimp only at hr h8 hp hx
    obtain ⟨rfl, rfl⟩ : m = vstep n f (vpos n f k) ∧ xf = fun j => f (vpos n f k + j) := by unfold vol at hx; exact ⟨congrArg Prod.fst hx, congrArg Prod.snd hx⟩
    obtain ⟨p, ep⟩ : ∃ p, p = vpos n f k := ⟨_, rfl⟩
    obtain ⟨m, em⟩ : ∃ m, m = vstep n f (vpos n f k) := ⟨_, rfl⟩
    rw [← em, ← ep] at hr
    have EP := Lib.hid ep
    have EM := Lib.hid em
    have HPN : Hid (p + m ≤ n) := Lib.hid (by rw [em, ← ep]; have := vpos_le n f k; rw [← ep] at this; unfold vstep; omega)
    obtain ⟨A1, c1, rfl, r1, r2, r3, r4⟩ := id hr
    have hm2 : 2 ≤ m := by rw [em]; unfold vstep; omega
    obtain ⟨bd, rfl⟩ := r4.addr (by omega)
    obtain ⟨y0, e0⟩ : ∃ y, y = f p := ⟨_, rfl⟩
    obtain ⟨y1, e1⟩ : ∃ y, y = f (p + 1) := ⟨_, rfl⟩
    have y0s : y0 < 256 := by rw [e0]; exact r4.small 0 (by omega)
    have y1s : y1 < 256 := by rw [e1]; exact r4.small 1 (by omega)
    have hm512 : m ≤ 512 := by rw [em, ← ep]; unfold vstep; rw [← e1]; omega
    have x0 : W.cell? bd = some (.int .u8 (y0 : Int)) := by have h := r4.at_ (i := 0) (by omega); rw [e0]; simpa [Addr.add] using h
    have x1 : W.cell? ⟨bd.block, bd.off + 1, none⟩ = some (.int .u8 (y1 : Int)) := by rw [e1]; exact r4.at_ (i := 1) (by omega)
    have hne : bd.block ≠ w.heap.size + 1 := row_unlike hrows.st x0 fun i hi => scell_no_byte (fun j hj => by obtain ⟨A, c, e⟩ := (hrows.row j hj).shape; exact ⟨A, _, c, e⟩) y0 i hi
    have hs := hrows.st
    have HS := Lib.hid hs
    have HI := Lib.hid hid
    have HMM := Lib.hid hmm
    have HB := Lib.hid hbl
    have HR := Lib.hid r4
    have E0 := Lib.hid e0
    have E1 := Lib.hid e1
    have s0 := hs.kind h8
    have s1 := hs.size h8
    have f0 := RowIs.free hs (k * 2)
    have f1 := RowIs.free hs (k * 2 + 1)
    -- the entry
    obtain ⟨w4, hw4⟩ : ∃ w4, w4 = ((W.setCell ⟨w.heap.size + 1, k * 2, none⟩ (.int .i64 (y0 : Int))).setCell ⟨w.heap.size + 1, k * 2 + 1, none⟩ (.int .i64 (y1 : Int))).drew := ⟨_, rfl⟩
    have hs4 : StIs w4 (w.heap.size + 1) (upd K k y0) (upd S k y1) V := by
      rw [hw4]
      show RowIs ((W.setCell ⟨w.heap.size + 1, k * 2, none⟩ (.int .i64 (y0 : Int))).setCell ⟨w.heap.size + 1, k * 2 + 1, none⟩ (.int .i64 (y1 : Int))) _ _ _ _
      refine RowIs.set_ (C := fun t => if t = k * 2 then .int .i64 (y0 : Int) else scell K S V t) (RowIs.set_ (w := W) HS.out (fun _ => by rw [if_pos rfl]) (fun t _ ht => by rw [if_neg ht])) (fun ht => ?_) (fun t ht hne => ?_)
      · rw [scell_size _ _ _ h8, upd_here]
      · by_cases htk : t = k * 2
        · subst htk
          rw [if_pos rfl, scell_kind _ _ _ h8, upd_here]
        · rw [if_neg htk]
          unfold scell
          split
          · split
            · rw [upd_other (by omega)]
            · rw [upd_other (by omega)]
          · rfl
    have ap4 : Apart (fun g => g = w.heap.size + 1) W w4 := by
      rw [hw4]
      exact (((Apart.refl (fun g => g = w.heap.size + 1) W).setCell (p := ⟨w.heap.size + 1, k * 2, none⟩) (fun _ => rfl) _).setCell (p := ⟨w.heap.size + 1, k * 2 + 1, none⟩) (fun _ => rfl) _).drew
    have hr5 : RowsI w.heap.size b (upd K k y0) (upd S k y1) V M Z w4 := by
      refine ⟨hs4, fun i hi => ownZ_cells (hrows.row i hi) fun g cs fr hv hc => ap4.block g (Array.getElem?_eq_some_iff.1 hc).1 (fun e => ?_), hrows.apt, (ap4.block _ hrows.wid.lt (by omega)).trans hrows.wid, Nat.le_trans hrows.size ap4.size⟩
      have e' : g = w.heap.size + 1 := e
      subst e'
      have hx := (show W.heap[w.heap.size + 1]? = _ from hrows.st).symm.trans hc
      simp only [Option.some.injEq, Obj.cells.injEq] at hx
      exact absurd hx.2.1 (by decide)
    have HR5 := Lib.hid hr5
    have KF4 : Hid (∀ B, KeepsFrom B W w4) := Lib.hid fun B => ⟨ap4.size, fun g o _ hg hc => (ap4.block g (Array.getElem?_eq_some_iff.1 hg).1 (fun e => by
      have e' : g = w.heap.size + 1 := e
      subst e'
      rw [show W.heap[w.heap.size + 1]? = _ from hrows.st] at hg; cases hg; cases hc)).trans hg⟩
    have BL4 : Hid (Below w.heap.size W w4) := Lib.hid (ap4.below (Nat.le_of_lt (Nat.lt_of_lt_of_le (by omega) hrows.size)) fun g hg e => by omega)
    have y0c : w4.cell? bd = some (.int .u8 (y0 : Int)) := cell_besides ap4 x0 hne
    have y1c : w4.cell? ⟨bd.block, bd.off + 1, none⟩ = some (.int .u8 (y1 : Int)) := cell_besides ap4 x1 hne
    have hr4 : BytesAt w4 (some bd) m fun j => f (p + j) := ⟨r4.small, fun i hi => by
      obtain ⟨ad, e, hc⟩ := r4.cell i hi
      exact ⟨ad, e, cell_besides ap4 hc (by have e' := Option.some.inj e; rw [← e', block_add]; exact hne)⟩⟩
    have HSUB : Hid (∀ B : Option Addr, c1 = 2 ∨ (c1 ≠ 2 ∧ B = some (bd.add 2)) → BytesAt w4 B (m - 2) fun t => f (p + (2 + t))) := Lib.hid fun B h => by
      rcases h with h | ⟨_, rfl⟩
      · have : m - 2 = 0 := by omega
        rw [this]
        exact ⟨fun i hi => absurd hi (by omega), fun i hi => absurd hi (by omega)⟩
      · refine ⟨fun i hi => hr4.small (2 + i) (by omega), fun i hi => ⟨_, rfl, ?_⟩⟩
        rw [Addr.add_add]
        obtain ⟨ad, e, hc⟩ := hr4.cell (2 + i) (by omega)
        cases e
        exact hc
    clear hs hrows hmm hid hbl hr r4 e0 e1 ep em hp hx hs4 ap4 hr4 hr5
    have d0 : ¬ m = 0 := by omega
    have d1 : ¬ (m : Int) ≤ 1 := by omega
    have d2 : ¬ (8 : Int) ≤ (k : Int) := by omega
    have i0 : IntKind.i64.wrap (y0 : Int) = (y0 : Int) := IntWalk.i64_in _ (by omega)
    have i1 : IntKind.i64.wrap (y1 : Int) = (y1 : Int) := IntWalk.i64_in _ (by omega)
    gi_wp2
    refine region_round_held (S := fun w' => w'.cell? bd = some (.int .u8 (y0 : Int)) ∧ w'.cell? ⟨bd.block, bd.off + 1, none⟩ = some (.int .u8 (y1 : Int))) (by kernel_rfl) (by rintro ⟨a, w, h⟩; exact h) (by kernel_rfl) ⟨x0, x1⟩ (fun hH => ?_)
    refine wpAnyH_take (i := 0) (v := (.int .i64 (k : Int))) rfl (by kernel_rfl) (by kernel_rfl) (by kernel_rfl) (fun _ _ _ h => h) (Or.inl ⟨by rfl, fun w' hS => by go_simp⟩) hH ?_
    simp only [Act.put, List.setIfInBounds_toArray, List.set_cons_zero, List.set_cons_succ]
    refine wpAnyH_take (i := 1) (v := (.slice (some bd) m c1)) rfl (by kernel_rfl) (by kernel_rfl) (by kernel_rfl) (fun _ _ _ h => h) (Or.inl ⟨by rfl, fun w' hS => by go_simp⟩) hH ?_
    simp only [Act.put, List.setIfInBounds_toArray, List.set_cons_zero, List.set_cons_succ]
    refine wpAnyH_take (i := 2) (v := (.pointer (some bd))) rfl (by kernel_rfl) (by kernel_rfl) (by kernel_rfl) (fun _ _ _ h => h) (Or.inl ⟨by rfl, fun w' hS => by go_simp⟩) hH ?_
    simp only [Act.put, List.setIfInBounds_toArray, List.set_cons_zero, List.set_cons_succ]
    refine wpAnyH_take (i := 3) (v := (.int .u8 (y0 : Int))) rfl (by kernel_rfl) (by kernel_rfl) (by kernel_rfl) (fun _ _ _ h => h) (Or.inl ⟨by rfl, fun w' hS => by have s1 := hS.1; go_simp⟩) hH ?_
    simp only [Act.put, List.setIfInBounds_toArray, List.set_cons_zero, List.set_cons_succ]
    refine wpAnyH_take (i := 4) (v := (.int .i64 (y0 : Int))) rfl (by kernel_rfl) (by kernel_rfl) (by kernel_rfl) (fun _ _ _ h => h) (Or.inl ⟨by rfl, fun w' hS => by go_simp⟩) hH ?_
    simp only [Act.put, List.setIfInBounds_toArray, List.set_cons_zero, List.set_cons_succ]
    refine wpAnyH_take (i := 5) (v := (.slice (some bd) m c1)) rfl (by kernel_rfl) (by kernel_rfl) (by kernel_rfl) (fun _ _ _ h => h) (Or.inl ⟨by rfl, fun w' hS => by go_simp⟩) hH ?_
    simp only [Act.put, List.setIfInBounds_toArray, List.set_cons_zero, List.set_cons_succ]
    refine wpAnyH_take (i := 6) (v := (.pointer (some ⟨bd.block, bd.off + 1, none⟩))) rfl (by kernel_rfl) (by kernel_rfl) (by kernel_rfl) (fun _ _ _ h => h) (Or.inl ⟨by rfl, fun w' hS => by go_simp⟩) hH ?_
    simp only [Act.put, List.setIfInBounds_toArray, List.set_cons_zero, List.set_cons_succ]
    refine wpAnyH_take (i := 7) (v := (.int .u8 (y1 : Int))) rfl (by kernel_rfl) (by kernel_rfl) (by kernel_rfl) (fun _ _ _ h => h) (Or.inl ⟨by rfl, fun w' hS => by have s1 := hS.2; go_simp⟩) hH ?_
    simp only [Act.put, List.setIfInBounds_toArray, List.set_cons_zero, List.set_cons_succ]
    refine wpAnyH_take (i := 8) (v := (.int .i64 (y1 : Int))) rfl (by kernel_rfl) (by kernel_rfl) (by kernel_rfl) (fun _ _ _ h => h) (Or.inl ⟨by rfl, fun w' hS => by go_simp⟩) hH ?_
    simp only [Act.put, List.setIfInBounds_toArray, List.set_cons_zero, List.set_cons_succ]
    refine wpAnyH_take (i := 9) (v := (.agg #[.int .i64 (y0 : Int), .int .i64 (y1 : Int)])) rfl (by kernel_rfl) (by kernel_rfl) (by kernel_rfl) (fun _ _ _ h => h) (Or.inl ⟨by rfl, fun w' hS => by go_simp⟩) hH ?_
    simp only [Act.put, List.setIfInBounds_toArray, List.set_cons_zero, List.set_cons_succ]
    refine wpAnyH_take (i := 10) (v := (.pointer (some ⟨w.heap.size + 1, 0, none⟩))) rfl (by kernel_rfl) (by kernel_rfl) (by kernel_rfl) (fun _ _ _ h => h) (Or.inl ⟨by rfl, fun w' hS => by go_simp⟩) hH ?_
    simp only [Act.put, List.setIfInBounds_toArray, List.set_cons_zero, List.set_cons_succ]
    refine wpAnyH_take (i := 11) (v := (.pointer (some ⟨w.heap.size + 1, k * 2, none⟩))) rfl (by kernel_rfl) (by kernel_rfl) (by kernel_rfl) (fun _ _ _ h => h) (Or.inl ⟨by rfl, fun w' hS => by go_simp⟩) hH ?_
    simp only [Act.put, List.setIfInBounds_toArray, List.set_cons_zero, List.set_cons_succ]
    refine wpAnyH_ready (rs := [12]) (by kernel_rfl) (by simp) ?_
    refine AllReadyH.cons rfl (fun K_ hK_ => ?_) AllReadyH.nil
    go_simp
    rw [← hw4]
    clear hw4
    refine hK_.out _ _ ⟨y0c, y1c⟩ (fun hH => ?_)
    clear hK_ K_ hH y0c y1c x0 x1 s0 s1 f0 f1 i0 i1 d0 d1
    refine wpAnyH_done (by kernel_rfl) ?_ _
    refine NoPanic.normal ?_
    gi_wp2_with fail
    all_goals (
      refine ⟨trivial, ?_⟩
      refine (CallsIn.inRound l (callsIn_wide.2 (unrow_two _ (m - 2) _ (fun t => f (p + (2 + t))) w4 (by omega) (by omega) (by omega) (HSUB.out _ (by first | exact .inl (by omega) | exact .inr ⟨by omega, rfl⟩))))).mono ?_
      rintro e w5 ⟨B, d, x, rfl, hnum, hb5⟩
      have HN5 := Lib.hid hnum
      have HB5 := Lib.hid hb5
      clear hnum hb5
      obtain ⟨q, eq⟩ : ∃ q, q = halves (m - 2) := ⟨_, rfl⟩
      rw [← eq] at HN5 ⊢
      have q255 : q ≤ 255 := by rw [eq]; unfold halves; split <;> omega
      have hr6 : RowsI w.heap.size b (upd K k y0) (upd S k y1) V (upd M k (M k + 0)) (zNew b f p k (M k) Z) w5 := by
        have h0 := HR5.out
        refine ⟨h0.st.below HB5.out, fun i hi => ?_, h0.apt, (HB5.out.block _ h0.wid.lt).trans h0.wid, Nat.le_trans h0.size HB5.out.size⟩
        by_cases hik : i = k
        · subst hik
          rw [upd_here]
          exact ((h0.row i hi).congr fun j hj => by unfold zNew; rw [if_neg (by omega)]).below_ HB5.out
        · rw [upd_other hik]
          exact ((h0.row i hi).congr fun j hj => by unfold zNew; rw [if_neg (by omega)]).below_ HB5.out
      have HR6 := Lib.hid hr6
      have KF5 : Hid (∀ B, KeepsFrom B W w5) := Lib.hid fun B' => (KF4.out B').trans ((keepsFrom_below HB5.out : KeepsFrom B' w4 w5))
      have BL5 : Hid (Below w.heap.size W w5) := Lib.hid (BL4.out.trans (HB5.out.mono (by have := HR5.out.size; omega)))
      have EQ := Lib.hid eq
      have HQM : Hid (2 * q + 2 ≤ m) := Lib.hid (by rw [eq]; unfold halves; split <;> omega)
      have SZ4 := Lib.hid HR5.out.size
      clear hr6 eq HSUB
      gi_wp2
      gi_loopw [35] (fun x wr => ∃ (i : Nat) (V' : Nat → Value), i ≤ q ∧ x = .int .i64 (i : Int) ∧ RowsI w.heap.size b (upd K k y0) (upd S k y1) V' (upd M k (M k + i)) (zNew b f p k (M k) Z) wr ∧ (q = 0 ∨ (B = some ⟨w4.heap.size, 0, none⟩ ∧ IntsLie wr w4.heap.size (fun i => (rowN (fun t => f (p + (2 + t))) 2 i : Int)) q)) ∧ (∀ B', KeepsFrom B' W wr) ∧ Below w.heap.size W wr) (fun x _ => q - (intOf x).toNat)
      case atStart => exact ⟨0, V, by omega, rfl, HR6.out, HN5.out, KF5.out, BL5.out⟩
      case round =>
        obtain ⟨i, V', hi, rfl, hrr, hnn, hkf, hbl⟩ := hrel
        have HKF := Lib.hid hkf
        have HBL := Lib.hid hbl
        have HRR := Lib.hid hrr
        by_cases hlt2 : i < q
        · obtain ⟨rfl, hl⟩ : B = some ⟨w4.heap.size, 0, none⟩ ∧ IntsLie wr w4.heap.size (fun i => (rowN (fun t => f (p + (2 + t))) 2 i : Int)) q := by
            rcases hnn with h | h
            · omega
            · exact h
          have HL := Lib.hid hl
          obtain ⟨z, ez⟩ : ∃ z, z = rowN (fun t => f (p + (2 + t))) 2 i := ⟨_, rfl⟩
          have c0 : wr.cell? ⟨w4.heap.size, i, none⟩ = some (.int .i64 (z : Int)) := by rw [ez]; exact hl.cell hlt2
          have EZ := Lib.hid ez
          have cw := hrr.wid.cell
          have cr := StIs.row hrr.st h8
          have hsh := (hrr.row k h8).shape
          have ev : ∃ v7, v7 = V' k := ⟨_, rfl⟩
          obtain ⟨v7, ev⟩ := ev
          rw [← ev] at cr
          have EV := Lib.hid ev
          have zs : z < 65536 := by
            rw [EZ.out]
            have h := rowN_lt (f := fun t => f (p + (2 + t))) (k := 2) (i := i) (fun j hj => by
              obtain ⟨_, _, _, _, _, _, q⟩ := HV.out
              exact q.small _ (by have := HPN.out; have := HQM.out; omega))
            exact h
          have CWA : Hid (∀ (mm : Nat) (o : Obj), ((wr.drewN mm).alloc o).cell? ⟨w.heap.size, 0, none⟩ = some (.int .i64 (b : Int))) := Lib.hid fun mm o => cell_later (w := wr.drewN mm) ((Below.refl _ _).alloc (Nat.le_refl _) o) cw
          have CRA : Hid (∀ (mm : Nat) (o : Obj), ((wr.drewN mm).alloc o).cell? ⟨w.heap.size + 1, 16 + k, none⟩ = some v7) := Lib.hid fun mm o => cell_later (w := wr.drewN mm) ((Below.refl _ _).alloc (Nat.le_refl _) o) cr
          have c1 : ∀ W1, Calls Tryz.prog 101 #[.int .i64 (z : Int), .int .i64 (b : Int)] W1 (Drawn (zval (plOf b z)) W1) := fun W1 => placeOf_any z b W1 zs hb
          have step := row_step HRR.out h8 (p := plOf b z) (by unfold zNew; rw [if_pos ⟨rfl, by rw [upd_here]; omega⟩, upd_here, Nat.add_sub_cancel_left, EZ.out]) (by rw [upd_here]; have := HMM.out k h8; omega)
          obtain ⟨X, eX⟩ : ∃ X, X = zre (plOf b z) := ⟨_, rfl⟩
          obtain ⟨Y, eY⟩ : ∃ Y, Y = zim (plOf b z) := ⟨_, rfl⟩
          have ezv : zval (plOf b z) = .complex .f64 X Y := by rw [eX, eY]; rfl
          rw [ezv, ← ev] at step
          simp only [ezv] at c1
          have C1 := Lib.hid c1
          have STEP := Lib.hid step
          clear c1 step eX eY ezv
          clear hkf hbl hrr hnn hl ez hsh ev
          gi_wp2
          clear c0
          refine region_round_held (S := fun w' => w'.cell? ⟨w.heap.size, 0, none⟩ = some (.int .i64 (b : Int))) (by kernel_rfl) (by rintro ⟨a, w, h⟩; exact h) (by kernel_rfl) cw (fun hH => ?_)
          refine wpAnyH_take (i := 0) (v := (.int .i64 (k : Int))) rfl (by kernel_rfl) (by kernel_rfl) (by kernel_rfl) (fun _ _ _ h => h) (Or.inl ⟨by rfl, fun w' hS => by go_simp⟩) hH ?_
          simp only [Act.put, List.setIfInBounds_toArray, List.set_cons_zero, List.set_cons_succ]
          refine wpAnyH_take (i := 1) (v := (.int .i64 (k : Int))) rfl (by kernel_rfl) (by kernel_rfl) (by kernel_rfl) (fun _ _ _ h => h) (Or.inl ⟨by rfl, fun w' hS => by go_simp⟩) hH ?_
          simp only [Act.put, List.setIfInBounds_toArray, List.set_cons_zero, List.set_cons_succ]
          refine wpAnyH_take (i := 2) (v := (.pointer (some ⟨w.heap.size + 1, 16, none⟩))) rfl (by kernel_rfl) (by kernel_rfl) (by kernel_rfl) (fun _ _ _ h => h) (Or.inl ⟨by rfl, fun w' hS => by go_simp⟩) hH ?_
          simp only [Act.put, List.setIfInBounds_toArray, List.set_cons_zero, List.set_cons_succ]
          refine wpAnyH_take (i := 3) (v := (.pointer (some ⟨w.heap.size + 1, 16 + k, none⟩))) rfl (by kernel_rfl) (by kernel_rfl) (by kernel_rfl) (fun _ _ _ h => h) (Or.inl ⟨by rfl, fun w' hS => by go_simp⟩) hH ?_
          simp only [Act.put, List.setIfInBounds_toArray, List.set_cons_zero, List.set_cons_succ]
          refine wpAnyH_take (i := 5) (v := (.int .i64 (z : Int))) rfl (by kernel_rfl) (by kernel_rfl) (by kernel_rfl) (fun _ _ _ h => h) (Or.inl ⟨by rfl, fun w' hS => by go_simp⟩) hH ?_
          simp only [Act.put, List.setIfInBounds_toArray, List.set_cons_zero, List.set_cons_succ]
          refine wpAnyH_take (i := 6) (v := (.int .i64 (b : Int))) rfl (by kernel_rfl) (by kernel_rfl) (by kernel_rfl) (fun _ _ _ h => h) (Or.inl ⟨by rfl, fun w' hS => by have s1 := hS; go_simp⟩) hH ?_
          simp only [Act.put, List.setIfInBounds_toArray, List.set_cons_zero, List.set_cons_succ]
          refine wpAnyH_take (i := 10) (v := (.pointer (some ⟨w.heap.size + 1, 16, none⟩))) rfl (by kernel_rfl) (by kernel_rfl) (by kernel_rfl) (fun _ _ _ h => h) (Or.inl ⟨by rfl, fun w' hS => by go_simp⟩) hH ?_
          simp only [Act.put, List.setIfInBounds_toArray, List.set_cons_zero, List.set_cons_succ]
          refine wpAnyH_ready (rs := [4, 7]) (by kernel_rfl) (by simp) ?_
          refine AllReadyH.cons rfl (fun K_ hK_ => ?_) (AllReadyH.cons rfl (fun K_ hK_ => ?_) AllReadyH.nil)
          · go_simp
            refine hK_.out _ _ cw (fun hH => ?_)
            clear hK_ K_
            refine wpAnyH_ready (rs := [7]) (by kernel_rfl) (by simp) ?_
            refine AllReadyH.cons rfl (fun K_ hK_ => ?_) AllReadyH.nil
            go_simp
            with_reducible refine (C1.out _).mono ?_
            rintro e w6 ⟨mm, rfl, rfl⟩
            dsimp only
            refine hK_.out _ _ cw (fun hH => ?_)
            clear hK_ K_
            refine wpAnyH_ready (rs := [8]) (by kernel_rfl) (by simp) ?_
            refine AllReadyH.cons rfl (fun K_ hK_ => ?_) AllReadyH.nil
            go_simp
            refine hK_.out _ _ (CWA.out _ _) (fun hH => ?_)
            clear hK_ K_
            obtain ⟨v', w', rr, ⟨g', cap', ev'⟩, a1, a2, a3, a4, a5, a6, a7⟩ := STEP.out (1 + mm)
            rw [upd_here, upd_upd, Nat.add_assoc] at a4
            rw [upd_here] at ev'
            subst ev'
            refine wpAnyH_ready (rs := [9]) (by kernel_rfl) (by simp) ?_
            refine AllReadyH.cons rfl (fun K_ hK_ => ?_) AllReadyH.nil
            rw [if_pos (by rfl)]
            refine Lib.wp_append_run _ (.tmp 43) (.tmp 47) _ _ rfl _ _ rfl rfl _ w' rr ?_
            have cw2 := a3.cell
            refine hK_.out _ _ cw2 (fun hH => ?_)
            clear hK_ K_ rr
            have A4 := Lib.hid a4
            have A5 := Lib.hid a5
            have A6 := Lib.hid a6
            have A7 := Lib.hid a7
            have cw3 := a4.wid.cell
            clear a4 a5 a6 a7
            simp only [Act.put, List.setIfInBounds_toArray, List.set_cons_zero, List.set_cons_succ]
            refine wpAnyH_take (i := 11) (v := (.pointer (some ⟨w.heap.size + 1, 16 + k, none⟩))) rfl (by kernel_rfl) (by kernel_rfl) (by kernel_rfl) (fun _ _ _ h => h) (Or.inl ⟨by rfl, fun w' hS => by go_simp⟩) hH ?_
            simp only [Act.put, List.setIfInBounds_toArray, List.set_cons_zero, List.set_cons_succ]
            refine wpAnyH_ready (rs := [12]) (by kernel_rfl) (by simp) ?_
            refine AllReadyH.cons rfl (fun K_ hK_ => ?_) AllReadyH.nil
            go_simp
            refine hK_.out _ _ cw3 (fun hH => ?_)
            clear hK_ K_ hH a1 a2 a3 cw cw2 cw3 cr
            refine wpAnyH_done (by kernel_rfl) ?_ _
            refine NoPanic.normal ?_
            gi_wp2
            go_roundw
            case rel => exact ⟨i + 1, _, by omega, by go_num, A4.out, .inr ⟨by first | trivial | rfl, A7.out _ _ _ HL.out (by have := SZ4.out; omega)⟩, fun B => (HKF.out B).trans (A5.out B), HBL.out.trans A6.out⟩
            case measure => simp [intOf]; omega
          · go_simp
            with_reducible refine (C1.out _).mono ?_
            rintro e w6 ⟨mm, rfl, rfl⟩
            dsimp only
            refine hK_.out _ _ cw (fun hH => ?_)
            clear hK_ K_
            refine wpAnyH_ready (rs := [4, 8]) (by kernel_rfl) (by simp) ?_
            refine AllReadyH.cons rfl (fun K_ hK_ => ?_) (AllReadyH.cons rfl (fun K_ hK_ => ?_) AllReadyH.nil)
            · go_simp
              refine hK_.out _ _ cw (fun hH => ?_)
              clear hK_ K_
              refine wpAnyH_ready (rs := [8]) (by kernel_rfl) (by simp) ?_
              refine AllReadyH.cons rfl (fun K_ hK_ => ?_) AllReadyH.nil
              go_simp
              refine hK_.out _ _ (CWA.out _ _) (fun hH => ?_)
              clear hK_ K_
              obtain ⟨v', w', rr, ⟨g', cap', ev'⟩, a1, a2, a3, a4, a5, a6, a7⟩ := STEP.out (1 + mm)
              rw [upd_here, upd_upd, Nat.add_assoc] at a4
              rw [upd_here] at ev'
              subst ev'
              refine wpAnyH_ready (rs := [9]) (by kernel_rfl) (by simp) ?_
              refine AllReadyH.cons rfl (fun K_ hK_ => ?_) AllReadyH.nil
              rw [if_pos (by rfl)]
              refine Lib.wp_append_run _ (.tmp 43) (.tmp 47) _ _ rfl _ _ rfl rfl _ w' rr ?_
              have cw2 := a3.cell
              refine hK_.out _ _ cw2 (fun hH => ?_)
              clear hK_ K_ rr
              have A4 := Lib.hid a4
              have A5 := Lib.hid a5
              have A6 := Lib.hid a6
              have A7 := Lib.hid a7
              have cw3 := a4.wid.cell
              clear a4 a5 a6 a7
              simp only [Act.put, List.setIfInBounds_toArray, List.set_cons_zero, List.set_cons_succ]
              refine wpAnyH_take (i := 11) (v := (.pointer (some ⟨w.heap.size + 1, 16 + k, none⟩))) rfl (by kernel_rfl) (by kernel_rfl) (by kernel_rfl) (fun _ _ _ h => h) (Or.inl ⟨by rfl, fun w' hS => by go_simp⟩) hH ?_
              simp only [Act.put, List.setIfInBounds_toArray, List.set_cons_zero, List.set_cons_succ]
              refine wpAnyH_ready (rs := [12]) (by kernel_rfl) (by simp) ?_
              refine AllReadyH.cons rfl (fun K_ hK_ => ?_) AllReadyH.nil
              go_simp
              refine hK_.out _ _ cw3 (fun hH => ?_)
              clear hK_ K_ hH a1 a2 a3 cw cw2 cw3 cr
              refine wpAnyH_done (by kernel_rfl) ?_ _
              refine NoPanic.normal ?_
              gi_wp2
              go_roundw
              case rel => exact ⟨i + 1, _, by omega, by go_num, A4.out, .inr ⟨by first | trivial | rfl, A7.out _ _ _ HL.out (by have := SZ4.out; omega)⟩, fun B => (HKF.out B).trans (A5.out B), HBL.out.trans A6.out⟩
              case measure => simp [intOf]; omega
            · go_simp
              refine hK_.out _ _ (CWA.out _ _) (fun hH => ?_)
              clear hK_ K_
              have cra := CRA.out (1 + mm) (.cells #[.complex .f64 X Y] 55)
              refine wpAnyH_ready (rs := [4]) (by kernel_rfl) (by simp) ?_
              refine AllReadyH.cons rfl (fun K_ hK_ => ?_) AllReadyH.nil
              go_simp
              refine hK_.out _ _ hH (fun hH => ?_)
              clear hK_ K_ cra
              obtain ⟨v', w', rr, ⟨g', cap', ev'⟩, a1, a2, a3, a4, a5, a6, a7⟩ := STEP.out (1 + mm)
              rw [upd_here, upd_upd, Nat.add_assoc] at a4
              rw [upd_here] at ev'
              subst ev'
              refine wpAnyH_ready (rs := [9]) (by kernel_rfl) (by simp) ?_
              refine AllReadyH.cons rfl (fun K_ hK_ => ?_) AllReadyH.nil
              rw [if_pos (by rfl)]
              refine Lib.wp_append_run _ (.tmp 43) (.tmp 47) _ _ rfl _ _ rfl rfl _ w' rr ?_
              have cw2 := a3.cell
              refine hK_.out _ _ cw2 (fun hH => ?_)
              clear hK_ K_ rr
              have A4 := Lib.hid a4
              have A5 := Lib.hid a5
              have A6 := Lib.hid a6
              have A7 := Lib.hid a7
              have cw3 := a4.wid.cell
              clear a4 a5 a6 a7
              simp only [Act.put, List.setIfInBounds_toArray, List.set_cons_zero, List.set_cons_succ]
              refine wpAnyH_take (i := 11) (v := (.pointer (some ⟨w.heap.size + 1, 16 + k, none⟩))) rfl (by kernel_rfl) (by kernel_rfl) (by kernel_rfl) (fun _ _ _ h => h) (Or.inl ⟨by rfl, fun w' hS => by go_simp⟩) hH ?_
              simp only [Act.put, List.setIfInBounds_toArray, List.set_cons_zero, List.set_cons_succ]
              refine wpAnyH_ready (rs := [12]) (by kernel_rfl) (by simp) ?_
              refine AllReadyH.cons rfl (fun K_ hK_ => ?_) AllReadyH.nil
              go_simp
              refine hK_.out _ _ cw3 (fun hH => ?_)
              clear hK_ K_ hH a1 a2 a3 cw cw2 cw3 cr
              refine wpAnyH_done (by kernel_rfl) ?_ _
              refine NoPanic.normal ?_
              gi_wp2
              go_roundw
              case rel => exact ⟨i + 1, _, by omega, by go_num, A4.out, .inr ⟨by first | trivial | rfl, A7.out _ _ _ HL.out (by have := SZ4.out; omega)⟩, fun B => (HKF.out B).trans (A5.out B), HBL.out.trans A6.out⟩
              case measure => simp [intOf]; omega
        · obtain rfl : i = q := by omega
          clear hkf hbl hrr hnn
          gi_wp2
          exact ⟨HKF.out _, HBL.out, stateJ_next (by rw [← EP.out, ← E0.out, ← E1.out]; exact HRR.out) h8 (by rw [← EM.out]; exact EQ.out) q255 HMM.out HI.out (HB.out.trans HBL.out)⟩)
  case done =>
    rintro D xs W hD ⟨nv, hvols, hxs⟩ ⟨K, S, V, M, Z, hr, -, hid, hbl⟩ hK
    have hids : Ids xs := by
      have h1 := congrArg (List.map Prod.fst) hxs
      have h2 := congrArg List.length hxs
      simp only [List.map_map, List.length_map, List.length_range] at h1 h2
      unfold Ids
      rw [h2]
      have e1 : (Prod.fst ∘ fun x : Vol => (x.1, x.2.2)) = (·.1) := rfl
      have e2 : (Prod.fst ∘ fun i => (i, vol n f i)) = id := rfl
      rw [e1, e2, List.map_id] at h1
      exact h1
    have hlen : xs.length = nv := by have h2 := congrArg List.length hxs; simpa using h2
    have hx := hid hids
    rw [hlen] at hx
    have hsk : scells K S V = scells (stK n f nv) (stS n f nv) V := scells_congr (fun i hi => (hx i hi).1) fun i hi => (hx i hi).2.1
    have RT : W.there (w.heap.size + 1) 0 (scells K S V).toArray.size := StIs.there_ hr.st
    have HS := Lib.hid hr.st
    have still : W.setCells (w.heap.size + 1) 0 (scells K S V) = W := state_still hr.st
    have V1 : (scells K S V).toArray.all (·.oneCell') = true := scells_one fun i hi => (hr.row i hi).one
    have s2 : StIs (W.putObj D (.deferred none)) (w.heap.size + 1) K S V := (World.putObj_heap_other (by simp at hD; omega)).trans hr.st
    have b3 : Below w.heap.size w (W.putObj D (.deferred none)) := hbl.trans (belowK_b (w := w) (Nat.le_refl _) _ D _ _ (by simp at hD; omega) hK rfl rfl)
    have rws : ∀ i, i < 8 → OwnZ (W.putObj D (.deferred none)) w.heap.size (V i) (stM n f nv i) (stZ b n f i) := fun i hi => by
      obtain ⟨_, _, h3, h4⟩ := hx i hi
      have h5 := (hr.row i hi).congr h4
      rw [h3] at h5
      refine OwnZ.base (ownZ_cells h5 fun g cs fr hv hc => World.putObj_heap_other fun e => ?_) (by omega)
      subst e
      rw [hK] at hc
      cases hc
    have H2 := Lib.hid hK
    have S2 := Lib.hid s2
    have B3 := Lib.hid b3
    have RW := Lib.hid rws
    have HSK := Lib.hid hsk
    have HVO := Lib.hid hvols
    clear hr hid hbl hK s2 b3 rws hsk hx hids hxs hvols hlen
    gi_wp2_with (first
      | (refine wpListIn_load_mid rfl 32 (.tmp 4) rfl (w.heap.size + 1) 0 rfl (scells K S V) _ (StIs.whole HS.out) Tryz.underlying32 rfl (state_len _ _ _) ?_)
      | (refine wpListIn_store_mid rfl 32 (.tmp 4) (.tmp 52) rfl (w.heap.size + 1) 0 (scells K S V).toArray rfl rfl RT (state_len' _ _ _) V1 ?_; rw [show (scells K S V).toArray.toList = scells K S V from rfl, still]; clear still))
    refine ⟨by simp, .inl ⟨_, _, rfl, run_takeDeferred H2.out, ?_⟩⟩
    exact ⟨_, results_cell_row (fn := Tryz.f82) rfl _ _ (w.heap.size + 1) 32 _ (0, 0) _ rfl S2.out Tryz.underlying32 rfl (state_len' _ _ _), nv, V, HVO.out, congrArg (fun c : List Value => Ending.returned (.agg c.toArray)) HSK.out, RW.out, B3.out⟩
end Go.Proofs.YtdocclkphffpkaaGreat

