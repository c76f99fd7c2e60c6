
/- An append whose run is known, inside a fence; rows of pages, whatever block that is no cells turns. No program's functions. -/
import Derived.Test.YtmgeifolgdgapaaLfPages
import Derived.OwnWalkIn
import Derived.RangeFuncNested
namespace Go.Proofs.Ytmgeifolgdgapaa
open Go.RowKit

theorem wpListIn_append_run {F : Fence} {n : Nat} {P : Program} (w : World) {ops : Array Oper} {rest : List Oper} {o : Oper} {a : Act} {Q : Exit → Act → World → Prop} (hgd : o.guard = none) (s x : Operand) (t tn : TypeId)
    (ho : o.op = .call { callee := .builtin .append, args := #[s, x], argTypes := #[t, tn] }) (vs vx : Value) (hs : a.eval s = vs) (hx : a.eval x = vx)
    (v' : Value) (w' : World) (hr : (Builtin.append_ #[t, tn] o.type #[vs, vx]).run P w = .ok v' w') (h : wpListIn F n P ops Q rest (a.put o.dst v') w') : wpListIn F n P ops Q (o :: rest) a w := by
  refine wpListIn_plain hgd fun K hK' => ?_
  unfold Oper.wpIn
  refine ⟨?_, ?_⟩
  · simp [Oper.about, ho, resolve, Target.leads, Sem.run_pure]
  · rw [Oper.semAt_plain F _ _ (by rw [ho]; intro c hc'; cases hc')]
    simp [execOp, ho, resolve, invoke, builtin, hs, hx, hr, Result.andThen]
    exact hK' _ _ h

/-- A block that is no cells turns: what is cells lies as it lay. -/
theorem cells_kept {X Y : World} {row : Option Nat} (hg : X.grownBy Y row) (hrow : ∀ r, row = some r → ∃ o : Obj, X.heap[r]? = some o ∧ o.isCells = false) {g : Nat} {cs : Array Value} {t : TypeId} {fr : Nat × Nat} (h : X.heap[g]? = some (.cells cs t fr)) : Y.heap[g]? = X.heap[g]? :=
  hg.block g (Array.getElem?_eq_some_iff.1 h).1 fun e => by
    obtain ⟨o, ho, hc⟩ := hrow g e.symm
    rw [h] at ho
    cases ho
    cases hc
theorem OwnP.cells_kept {X Y : World} {base : Nat} {v : Value} {N : Nat} {L : Nat → Nat} {F : Nat → Nat → Nat} (h : OwnP X base v N L F) (hk : ∀ (g : Nat) (cs : Array Value) (t : TypeId) (fr : Nat × Nat), X.heap[g]? = some (.cells cs t fr) → Y.heap[g]? = X.heap[g]?) : OwnP Y base v N L F := by
  obtain ⟨us, h1, h2⟩ := h
  refine ⟨us, ⟨h1.1, ?_⟩, fun i hi => ?_⟩
  · rcases h1.2 with h3 | ⟨g, cap, cur, e, hb, hg, rest⟩
    · exact .inl h3
    · exact .inr ⟨g, cap, cur, e, hb, (hk g _ _ _ hg).trans hg, rest⟩
  · obtain ⟨u, e, hr⟩ := h2 i hi
    exact ⟨u, e, hr.kept fun g cs fr hg => hk g cs _ fr hg⟩
theorem boxed_kept {X Y : World} {B : Nat} {t : TypeId} {v : Value} (h : Boxed X B t v) (hk : ∀ (g : Nat) (cs : Array Value) (t : TypeId) (fr : Nat × Nat), X.heap[g]? = some (.cells cs t fr) → Y.heap[g]? = X.heap[g]?) : Boxed Y B t v := (hk B _ _ _ h).trans h
theorem OwnP.form {w : World} {base : Nat} {v : Value} {N : Nat} {L : Nat → Nat} {F : Nat → Nat → Nat} (h : OwnP w base v N L F) : v = .slice none 0 0 ∨ ∃ g cap, v = .slice (some ⟨g, 0, none⟩) N cap := by
  obtain ⟨us, h1, _⟩ := h
  rcases h1.2 with ⟨rfl, _⟩ | ⟨g, cap, cur, rfl, _⟩
  · exact .inl rfl
  · exact .inr ⟨g, cap, rfl⟩
theorem OwnP.shape {w : World} {base : Nat} {v : Value} {N : Nat} {L : Nat → Nat} {F : Nat → Nat → Nat} (h : OwnP w base v N L F) : ∃ B c, v = .slice B N c := by
  obtain ⟨us, h1, _⟩ := h
  rcases h1.2 with ⟨rfl, rfl⟩ | ⟨g, cap, cur, rfl, _⟩
  · exact ⟨none, 0, rfl⟩
  · exact ⟨_, cap, rfl⟩
theorem OwnP.base {w : World} {base base' : Nat} {v : Value} {N : Nat} {L : Nat → Nat} {F : Nat → Nat → Nat} (h : OwnP w base v N L F) (hb : base' ≤ base) : OwnP w base' v N L F := by
  obtain ⟨us, h1, h2⟩ := h
  refine ⟨us, ⟨h1.1, h1.2.imp id fun ⟨g, cap, cur, e, hb', r⟩ => ⟨g, cap, cur, e, Nat.le_trans hb hb', r⟩⟩, fun i hi => ?_⟩
  obtain ⟨u, e, hr⟩ := h2 i hi
  exact ⟨u, e, hr.base hb⟩
/-- A box beside them is written. -/
theorem OwnP.set_other {W : World} {base B : Nat} {v : Value} {N : Nat} {L : Nat → Nat} {F : Nat → Nat → Nat} (h : OwnP W base v N L F) (hB : B < base) (u : Value) : OwnP (W.setCell ⟨B, 0, none⟩ u) base v N L F := by
  have hk : ∀ g, base ≤ g → (W.setCell ⟨B, 0, none⟩ u).heap[g]? = W.heap[g]? := fun g hg => Below.heap_setCell _ _ _ _ (fun e => by have : g = B := e; omega)
  obtain ⟨us, h1, h2⟩ := h
  refine ⟨us, ⟨h1.1, h1.2.imp id fun ⟨g, cap, cur, e, hb, hg, r⟩ => ⟨g, cap, cur, e, hb, (hk g hb).trans hg, r⟩⟩, fun i hi => ?_⟩
  obtain ⟨x, e, g, cap, cur, e2, hb, h3, h4, h5, h6⟩ := h2 i hi
  exact ⟨x, e, g, cap, cur, e2, hb, h3, h4, (hk g hb).trans h5, h6⟩
/-- Below, as the body of a loop wants it. -/
theorem keepsFrom_below {B : Nat} {W W' : World} (h : Below W.heap.size W W') : KeepsFrom B W W' := ⟨h.size, fun k _ _ hk _ => (h.block k (Array.getElem?_eq_some_iff.1 hk).1).trans hk⟩
theorem OwnP.not_other {w : World} {base : Nat} {v : Value} {N : Nat} {L : Nat → Nat} {F : Nat → Nat → Nat} (h : OwnP w base v N L F) {k : Nat} (hk : v.ownBlock = some k) : base ≤ k ∧ ∃ cs, w.heap[k]? = some (.cells cs 28 (0, 0)) := by
  obtain ⟨us, h1, _⟩ := h
  rcases h1.2 with ⟨rfl, _⟩ | ⟨g, cap, cur, rfl, hb, hg, _⟩
  · cases hk
  · obtain rfl : g = k := by simpa [Value.ownBlock] using hk
    exact ⟨hb, _, hg⟩
theorem results_cell_one {P : Program} {fn : Func} {p : Tmp} {ty : TypeId} (h : fn.results = #[.cell p ty]) (tmps : Array Value) (w : World) (a : Addr) (v : Value) (hp : tmps.getD p undef = .pointer (some a)) (hl : (loadVar ty a).run P w = .ok v w) : (results fn tmps).run P w = .ok v w := by
  have hp2 : tmps[p]?.getD undef = .pointer (some a) := by simpa using hp
  simp only [results, h]
  simp [hp2, asAddr, hl]
theorem run_loadVar_cell {P : Program} {w : World} {ty : TypeId} {a : Addr} {v : Value} {d : TypeDesc} (hu : P.underlying ty = some d) (hd : (match d with | .struct _ | .array _ _ => true | _ => false) = false) (hc : w.cell? a = some v) : (loadVar ty a).run P w = .ok v w := by
  have ha : (isAgg ty).run P w = .ok false w := by
    unfold isAgg
    rw [Sem.run_bind, run_underlying hu w]
    cases d <;> simp_all
  simp [loadVar, Sem.run_bind, ha, hc]
end Go.Proofs.Ytmgeifolgdgapaa
