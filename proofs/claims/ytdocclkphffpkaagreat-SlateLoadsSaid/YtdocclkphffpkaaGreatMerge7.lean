/- An append whose run is known, inside a fence; rows of pages, whatever block that is no cells turns. No program's functions. slices.Concat of two rows of pages. -/
import Derived.Test.YtdocclkphffpkaaGreatLfPages
import Derived.OwnWalkIn
import Derived.RangeFuncNested
import Derived.Lib.AppendZeros
namespace Go.Proofs.YtdocclkphffpkaaGreat
open Go.RowKit

theorem wpListIn_append_run {F : Fence} {n : Nat} {P : Program} (w : World) {ops : Array Oper} {rest : List Oper} {o : Oper} {a : Act} {Q : Exit → Act → World → Prop} (hgd : o.guard = none) (s x : Operand) (t tn : TypeId)
    (ho : o.op = .call { callee := .builtin .append, args := #[s, x], argTypes := #[t, tn] }) (vs vx : Value) (hs : a.eval s = vs) (hx : a.eval x = vx)
    (v' : Value) (w' : World) (hr : (Builtin.append_ #[t, tn] o.type #[vs, vx]).run P w = .ok v' w') (h : wpListIn F n P ops Q rest (a.put o.dst v') w') : wpListIn F n P ops Q (o :: rest) a w := by
  refine wpListIn_plain hgd fun K hK' => ?_
  unfold Oper.wpIn
  refine ⟨?_, ?_⟩
  · simp [Oper.about, ho, resolve, Target.leads, Sem.run_pure]
  · rw [Oper.semAt_plain F _ _ (by rw [ho]; intro c hc'; cases hc')]
    simp [execOp, ho, resolve, invoke, builtin, hs, hx, hr, Result.andThen]
    exact hK' _ _ h

/-- A block that is no cells turns: what is cells lies as it lay. -/
theorem cells_kept {X Y : World} {row : Option Nat} (hg : X.grownBy Y row) (hrow : ∀ r, row = some r → ∃ o : Obj, X.heap[r]? = some o ∧ o.isCells = false) {g : Nat} {cs : Array Value} {t : TypeId} {fr : Nat × Nat} (h : X.heap[g]? = some (.cells cs t fr)) : Y.heap[g]? = X.heap[g]? :=
  hg.block g (Array.getElem?_eq_some_iff.1 h).1 fun e => by
    obtain ⟨o, ho, hc⟩ := hrow g e.symm
    rw [h] at ho
    cases ho
    cases hc
theorem OwnP.cells_kept {X Y : World} {base : Nat} {v : Value} {N : Nat} {L : Nat → Nat} {F : Nat → Nat → Nat} (h : OwnP X base v N L F) (hk : ∀ (g : Nat) (cs : Array Value) (t : TypeId) (fr : Nat × Nat), X.heap[g]? = some (.cells cs t fr) → Y.heap[g]? = X.heap[g]?) : OwnP Y base v N L F := by
  obtain ⟨us, h1, h2⟩ := h
  refine ⟨us, ⟨h1.1, ?_⟩, fun i hi => ?_⟩
  · rcases h1.2 with h3 | ⟨g, cap, cur, e, hb, hg, rest⟩
    · exact .inl h3
    · exact .inr ⟨g, cap, cur, e, hb, (hk g _ _ _ hg).trans hg, rest⟩
  · obtain ⟨u, e, hr⟩ := h2 i hi
    exact ⟨u, e, hr.kept fun g cs fr hg => hk g cs _ fr hg⟩
theorem boxed_kept {X Y : World} {B : Nat} {t : TypeId} {v : Value} (h : Boxed X B t v) (hk : ∀ (g : Nat) (cs : Array Value) (t : TypeId) (fr : Nat × Nat), X.heap[g]? = some (.cells cs t fr) → Y.heap[g]? = X.heap[g]?) : Boxed Y B t v := (hk B _ _ _ h).trans h
theorem OwnP.form {w : World} {base : Nat} {v : Value} {N : Nat} {L : Nat → Nat} {F : Nat → Nat → Nat} (h : OwnP w base v N L F) : v = .slice none 0 0 ∨ ∃ g cap, v = .slice (some ⟨g, 0, none⟩) N cap := by
  obtain ⟨us, h1, _⟩ := h
  rcases h1.2 with ⟨rfl, _⟩ | ⟨g, cap, cur, rfl, _⟩
  · exact .inl rfl
  · exact .inr ⟨g, cap, rfl⟩
theorem OwnP.shape {w : World} {base : Nat} {v : Value} {N : Nat} {L : Nat → Nat} {F : Nat → Nat → Nat} (h : OwnP w base v N L F) : ∃ B c, v = .slice B N c := by
  obtain ⟨us, h1, _⟩ := h
  rcases h1.2 with ⟨rfl, rfl⟩ | ⟨g, cap, cur, rfl, _⟩
  · exact ⟨none, 0, rfl⟩
  · exact ⟨_, cap, rfl⟩
theorem OwnP.base {w : World} {base base' : Nat} {v : Value} {N : Nat} {L : Nat → Nat} {F : Nat → Nat → Nat} (h : OwnP w base v N L F) (hb : base' ≤ base) : OwnP w base' v N L F := by
  obtain ⟨us, h1, h2⟩ := h
  refine ⟨us, ⟨h1.1, h1.2.imp id fun ⟨g, cap, cur, e, hb', r⟩ => ⟨g, cap, cur, e, Nat.le_trans hb hb', r⟩⟩, fun i hi => ?_⟩
  obtain ⟨u, e, hr⟩ := h2 i hi
  exact ⟨u, e, hr.base hb⟩
/-- A box beside them is written. -/
theorem OwnP.set_other {W : World} {base B : Nat} {v : Value} {N : Nat} {L : Nat → Nat} {F : Nat → Nat → Nat} (h : OwnP W base v N L F) (hB : B < base) (u : Value) : OwnP (W.setCell ⟨B, 0, none⟩ u) base v N L F := by
  have hk : ∀ g, base ≤ g → (W.setCell ⟨B, 0, none⟩ u).heap[g]? = W.heap[g]? := fun g hg => Below.heap_setCell _ _ _ _ (fun e => by have : g = B := e; omega)
  obtain ⟨us, h1, h2⟩ := h
  refine ⟨us, ⟨h1.1, h1.2.imp id fun ⟨g, cap, cur, e, hb, hg, r⟩ => ⟨g, cap, cur, e, hb, (hk g hb).trans hg, r⟩⟩, fun i hi => ?_⟩
  obtain ⟨x, e, g, cap, cur, e2, hb, h3, h4, h5, h6⟩ := h2 i hi
  exact ⟨x, e, g, cap, cur, e2, hb, h3, h4, (hk g hb).trans h5, h6⟩
/-- Below, as the body of a loop wants it. -/
theorem keepsFrom_below {B : Nat} {W W' : World} (h : Below W.heap.size W W') : KeepsFrom B W W' := ⟨h.size, fun k _ _ hk _ => (h.block k (Array.getElem?_eq_some_iff.1 hk).1).trans hk⟩
theorem OwnP.not_other {w : World} {base : Nat} {v : Value} {N : Nat} {L : Nat → Nat} {F : Nat → Nat → Nat} (h : OwnP w base v N L F) {k : Nat} (hk : v.ownBlock = some k) : base ≤ k ∧ ∃ cs, w.heap[k]? = some (.cells cs 44 (0, 0)) := by
  obtain ⟨us, h1, _⟩ := h
  rcases h1.2 with ⟨rfl, _⟩ | ⟨g, cap, cur, rfl, hb, hg, _⟩
  · cases hk
  · obtain rfl : g = k := by simpa [Value.ownBlock] using hk
    exact ⟨hb, _, hg⟩
theorem results_cell_one {P : Program} {fn : Func} {p : Tmp} {ty : TypeId} (h : fn.results = #[.cell p ty]) (tmps : Array Value) (w : World) (a : Addr) (v : Value) (hp : tmps.getD p undef = .pointer (some a)) (hl : (loadVar ty a).run P w = .ok v w) : (results fn tmps).run P w = .ok v w := by
  have hp2 : tmps[p]?.getD undef = .pointer (some a) := by simpa using hp
  simp only [results, h]
  simp [hp2, asAddr, hl]
theorem run_loadVar_cell {P : Program} {w : World} {ty : TypeId} {a : Addr} {v : Value} {d : TypeDesc} (hu : P.underlying ty = some d) (hd : (match d with | .struct _ | .array _ _ => true | _ => false) = false) (hc : w.cell? a = some v) : (loadVar ty a).run P w = .ok v w := by
  have ha : (isAgg ty).run P w = .ok false w := by
    unfold isAgg
    rw [Sem.run_bind, run_underlying hu w]
    cases d <;> simp_all
  simp [loadVar, Sem.run_bind, ha, hc]
end Go.Proofs.YtdocclkphffpkaaGreat

namespace Go.Proofs.YtdocclkphffpkaaGreat
open Go.RowKit

/-- Any row of slices behind a row of the call's own (it may be nil). -/
theorem run_rows {w : World} {base n m c : Nat} {v : Value} {xs us : List Value} {A : Option Addr} (ty : TypeId) (h : w.ownsRow base 44 1 v n xs) (hl : us.length = m) (hs : ∀ j u, us[j]? = some u → ∃ ad, A = some ad ∧ w.cell? (ad.add j) = some u) (h1 : ∀ u ∈ us, u.oneCell' = true) (hbare : A = none → c = 0)
    (hm : (n + m) * 24 ≤ 140737488355328) (hb : base ≤ w.heap.size) :
    ∃ v' w', (Builtin.append_ #[22, 22] ty #[v, .slice A m c]).run Tryz.prog w = .ok v' w' ∧ w'.ownsRow base 44 1 v' (n + m) (xs ++ us) ∧ w.grownBy w' v.ownBlock := by
  obtain ⟨i0, hi, hz0, hz1, hz2⟩ := info_parts page_info
  cases A with
  | none =>
    have hm0 : us = [] := by
      cases us with
      | nil => rfl
      | cons u us => obtain ⟨ad, e, _⟩ := hs 0 u rfl; cases e
    subst hm0
    obtain rfl := hbare rfl
    obtain rfl : m = 0 := by simpa using hl.symm
    exact ⟨v, w, run_append_owned_none (P := Tryz.prog) (w := w) base 22 ty 44 i0 1 Tryz.underlying22 hi v n _ h, by simpa using h, ⟨rfl, rfl, rfl, Nat.le_refl _, fun _ _ _ => rfl⟩⟩
  | some ad =>
    obtain ⟨v', w', r1, r2, r3, r4⟩ := run_append_own (P := Tryz.prog) w base 22 ty 44 i0 _ 1 24 Tryz.underlying22 hi hz0 hz1 hz2 rfl (by decide) v n xs h ad m c us (by omega)
      (fun j u hj => by obtain ⟨ad', e, hc⟩ := hs j u hj; cases e; exact hc) h1 (by unfold maxLen; omega) hm hb
    exact ⟨v', w', r1, r2, r3⟩

theorem zero_size_p (k : Nat) : (Builtin.zeroCells (Value.slice none 0 0).cells k).size = k := by
  unfold Builtin.zeroCells
  simp [Value.cells]
theorem growP_run (k : Nat) (w : World) (h0 : 0 < k) (hk : k * 24 ≤ 140737488355328) :
    ∃ cap w', (Builtin.append_ #[22, 3] 22 #[.slice none 0 0, .int .i64 (k : Int)]).run Tryz.prog w = .ok (.slice (some ⟨w.heap.size, 0, none⟩) k cap) w' ∧ k ≤ cap ∧ cap ≤ 9223372036854775807 ∧
      w'.ownsRow w.heap.size 44 1 (.slice (some ⟨w.heap.size, 0, none⟩) 0 cap) 0 [] ∧ Below w.heap.size w w' := by
  obtain ⟨i0, hi, hz0, hz1, hz2⟩ := info_parts page_info
  have hr := Lib.run_append_nil_zeros (P := Tryz.prog) w 22 3 22 44 i0 (.slice none 0 0) .i64 .i64 Tryz.underlying22 Tryz.underlying3 hi hz0 k h0 (by omega) (by omega) (by rw [hz2]; omega)
  have hge := grownCap_ge w k 0 44
  have hle := grownCap_le_maxLen w k 0 44 (by unfold maxLen; omega)
  refine ⟨_, _, hr, hge, by unfold maxLen at hle; omega, ⟨rfl, .inr ⟨w.heap.size, _, _, rfl, Nat.le_refl _, heap_alloc_new w.drew _, Nat.zero_le _, hle, ?_, by simp⟩⟩, (Below.refl _ _).drew.alloc (Nat.le_refl _) _⟩
  rw [Array.size_append, zero_size_p, zero_size_p]
  omega
theorem growP_any (k : Nat) (K : Int) (hK : K = (k : Int)) (w : World) (h0 : 0 < k) (hk : k * 24 ≤ 140737488355328) :
    Calls Tryz.prog 74 #[.slice none 0 0, .int .i64 K] w fun e w' => ∃ v, e = .returned v ∧ w'.ownsRow w.heap.size 44 1 v 0 [] ∧ Below w.heap.size w w' := by
  subst hK
  obtain ⟨cap, w1, r1, h1, h2, h3, h4⟩ := growP_run k w h0 hk
  have R1 := Lib.hid r1
  have H3 := Lib.hid h3
  have H4 := Lib.hid h4
  clear r1 h3 h4
  have d0 : decide ((k : Int) < 0) = false := by simp
  go_enter Tryz.func74, Tryz.ntmps74
  go_wp2_with (at_builtin; refine Lib.wpList_append_run _ rfl (.tmp 20) (.tmp 21) _ _ rfl _ _ rfl rfl _ _ R1.out ?_)
  go_ret
  exact ⟨_, rfl, H3.out, H4.out⟩

/-- One page, and the others behind it. -/
theorem concatP_any (b : Nat) (u vb : Value) (g N base : Nat) (L : Nat → Nat) (F : Nat → Nat → Nat) (w : World) (h0 : w.cell? ⟨b, 0, none⟩ = some (.slice (some ⟨g, 0, none⟩) 1 1)) (h1 : w.cell? ⟨b, 1, none⟩ = some vb)
    (hu : w.cell? ⟨g, 0, none⟩ = some u) (hr : Row base w u (L 0) (F 0)) (hp : OwnP w base vb N (fun i => L (i + 1)) (fun i => F (i + 1))) (hN : N ≤ 1000000) (hb : base ≤ w.heap.size) :
    Calls Tryz.prog 49 #[.slice (some ⟨b, 0, none⟩) 2 2] w fun e w' => ∃ v, e = .returned v ∧ OwnP w' base v (N + 1) L F ∧ Below w.heap.size w w' := by
  have hfm : ∃ B d, vb = .slice B N d ∧ (B = none → d = 0) ∧ ∃ us : List Value, us.length = N ∧ (∀ j u, us[j]? = some u → ∃ ad, B = some ad ∧ w.cell? (ad.add j) = some u) ∧ (∀ u ∈ us, u.oneCell' = true) ∧ ∀ i, i < N → ∃ x, us[i]? = some x ∧ Row base w x (L (i + 1)) (F (i + 1)) := by
    obtain ⟨us, o1, o2⟩ := hp
    have o0 := o1
    have hone : ∀ x ∈ us, x.oneCell' = true := fun x hx => by
      obtain ⟨i, hi⟩ := List.mem_iff_getElem?.1 hx
      have hlt : i < N := by have := (List.getElem?_eq_some_iff.1 hi).1; have := o1.1; omega
      obtain ⟨y, e, gy, cy, _, ey, _⟩ := o2 i hlt
      rw [hi] at e
      obtain rfl := Option.some.inj e
      rw [ey]; rfl
    rcases o1.2 with ⟨rfl, hn⟩ | ⟨k, cap, cur, rfl, _, _, _, _, _⟩
    · subst hn
      exact ⟨none, 0, rfl, fun _ => rfl, us, by have := o1.1; omega, fun j x hj => by have := (List.getElem?_eq_some_iff.1 hj).1; have := o1.1; omega, hone, o2⟩
    · exact ⟨_, cap, rfl, (by intro e; cases e), us, by have := o1.1; omega, fun j x hj => ⟨_, rfl, World.ownsRow.cells o0 (g := k) rfl j x hj⟩, hone, o2⟩
  obtain ⟨B, d, rfl, hbare, us, hl, hcs, hone, hrows⟩ := hfm
  have hu1 : u.oneCell' = true := by obtain ⟨_, _, _, e, _⟩ := hr; rw [e]; rfl
  have HC := Lib.hid hcs
  have HO := Lib.hid hone
  have HW := Lib.hid hrows
  have HR := Lib.hid hr
  have HU := Lib.hid hu
  clear hcs hone hrows hr hp hu
  go_enter Tryz.func49, Tryz.ntmps49
  go_wp2
  refine wp_loop_rounds 3 ?_
  rw [rounds_succ]
  go_wp2
  rw [rounds_succ]
  go_wp2
  rw [rounds_succ]
  go_wp2_with fail
  with_reducible refine (growP_any (1 + N) _ (by omega) _ (by omega) (by omega)).mono ?_
  rintro e w1 ⟨v1, rfl, o1, b1⟩
  obtain ⟨v2, w2, r2, o2, g2⟩ := run_rows (c := 1) (m := 1) (us := [u]) (A := some ⟨g, 0, none⟩) 22 o1 rfl (fun j x hj => by
      obtain ⟨hlt, he⟩ := List.getElem?_eq_some_iff.1 hj
      have : j = 0 := by simpa using hlt
      subst this
      exact ⟨_, rfl, by rw [add_nil, cell_later b1 HU.out]; simpa using he⟩) (fun x hx => by simp at hx; subst hx; exact hu1) (by intro e; cases e) (by omega) b1.size
  have b2 : Below w.heap.size w w2 := b1.grown g2 b1.size fun k hk => by
    rcases o1.2 with ⟨rfl, _⟩ | ⟨k', _, _, rfl, hb', _⟩
    · cases hk
    · obtain rfl : k' = k := by simpa [Value.ownBlock] using hk
      exact hb'
  obtain ⟨v3, w3, r3, o3, g3⟩ := run_rows (c := d) (us := us) (A := B) 22 o2 hl (fun j x hj => by
      obtain ⟨ad, e, hc⟩ := HC.out j x hj
      exact ⟨ad, e, cell_later b2 hc⟩) HO.out hbare (by omega) b2.size
  have b3 : Below w.heap.size w w3 := b2.grown g3 b2.size fun k hk => by
    rcases o2.2 with ⟨rfl, _⟩ | ⟨k', _, _, rfl, hb', _⟩
    · cases hk
    · obtain rfl : k' = k := by simpa [Value.ownBlock] using hk
      exact hb'
  have o4 : OwnP w3 base v3 (N + 1) L F := by
    have he : 0 + 1 + N = N + 1 := by omega
    rw [he] at o3
    refine ⟨_, ⟨o3.1, o3.2.imp id fun ⟨k, cap, cur, e, hb', r⟩ => ⟨k, cap, cur, e, by omega, r⟩⟩, fun i hi => ?_⟩
    cases i with
    | zero => exact ⟨u, rfl, HR.out.below_ b3⟩
    | succ i =>
      obtain ⟨x, e, hx⟩ := HW.out i (by omega)
      exact ⟨x, by simpa using e, hx.below_ b3⟩
  have R2 := Lib.hid r2
  have R3 := Lib.hid r3
  have O4 := Lib.hid o4
  have B3 := Lib.hid b3
  have q0 := cell_later b1 h0
  have q1 := cell_later b2 h1
  clear r2 r3 o4 b3 o1 o2 o3 g2 g3 b1 b2 h0 h1
  go_wp2
  refine wp_loop_rounds 3 ?_
  rw [rounds_succ]
  go_wp2_with (at_builtin; refine Lib.wpList_append_run _ rfl (.tmp 31) (.tmp 32) _ _ rfl _ _ rfl rfl _ _ R2.out ?_)
  rw [rounds_succ]
  go_wp2_with (at_builtin; refine Lib.wpList_append_run _ rfl (.tmp 31) (.tmp 32) _ _ rfl _ _ rfl rfl _ _ R3.out ?_)
  rw [rounds_succ]
  go_wp2
  go_ret
  exact ⟨_, rfl, O4.out, B3.out⟩
end Go.Proofs.YtdocclkphffpkaaGreat

