/- Places and whose they are: one owner more, laid into a map of slices. Nothing of a program's functions. -/
import Derived.Test.YtdocclkphffpkaaGreatPlMap
import Derived.Maps.AppendAt
import Derived.Test.YtdocclkphffpkaaGreatStWords
namespace Go.Proofs.YtdocclkphffpkaaGreat
open Go.RowKit
open Go.ChangeMaps (setBlock)

theorem block_of_add (a : Addr) (i : Nat) : (a.add i).block = a.block := by unfold Addr.add; split <;> rfl

/-- A row of owners of the call's own. -/
def OwnO (W : World) (base N : Nat) (v : Value) : Prop := ∃ n us, n ≤ N ∧ W.ownsRow base 150 2 v n us
theorem OwnO.lt {W : World} {base N g : Nat} {v : Value} (h : OwnO W base N v) (hg : v.ownBlock = some g) : base ≤ g ∧ g < W.heap.size ∧ ∃ cs, W.heap[g]? = some (.cells cs 150 (0, 0)) := by
  obtain ⟨n, us, -, h⟩ := h
  rcases h.2 with ⟨rfl, _⟩ | ⟨k, cap, cur, rfl, hb, hk, _⟩
  · cases hg
  · obtain rfl : k = g := by simpa [Value.ownBlock] using hg
    exact ⟨hb, (Array.getElem?_eq_some_iff.1 hk).1, _, hk⟩
theorem OwnO.one {W : World} {base N : Nat} {v : Value} (h : OwnO W base N v) : v.oneCell' = true := by
  obtain ⟨n, us, -, h⟩ := h
  rcases h.2 with ⟨rfl, _⟩ | ⟨k, cap, cur, rfl, _⟩ <;> rfl
theorem OwnO.cells {X Y : World} {base N : Nat} {v : Value} (h : OwnO X base N v) (hk : ∀ (g : Nat) (cs : Array Value), v.ownBlock = some g → X.heap[g]? = some (.cells cs 150 (0, 0)) → Y.heap[g]? = X.heap[g]?) : OwnO Y base N v := by
  obtain ⟨n, us, hn, h⟩ := h
  refine ⟨n, us, hn, h.1, ?_⟩
  rcases h.2 with h3 | ⟨g, cap, cur, e, hb, hg, rest⟩
  · exact .inl h3
  · exact .inr ⟨g, cap, cur, e, hb, (hk g _ (by rw [e]; rfl) hg).trans hg, rest⟩
theorem OwnO.more {X : World} {base N M : Nat} {v : Value} (h : OwnO X base N v) (hm : N ≤ M) : OwnO X base M v := by
  obtain ⟨n, us, hn, h⟩ := h
  exact ⟨n, us, by omega, h⟩

/-- The map in block b: its keys are E, its slices lie in blocks of their own. -/
structure MapZ (W : World) (b base N : Nat) (E : List Spot) (es : Array MapEntry) : Prop where
  obj : W.heap[b]? = some (.map es es.size)
  keys : KeysAre es E
  own : ∀ (j : Nat) (e : MapEntry), es[j]? = some e → OwnO W base N e.val
  apt : ∀ (i j : Nat) (e e' : MapEntry), i ≠ j → es[i]? = some e → es[j]? = some e' → ∀ g, e.val.ownBlock = some g → e'.val.ownBlock ≠ some g
  nodup : E.Nodup
theorem MapZ.lt {W : World} {b base N : Nat} {E : List Spot} {es : Array MapEntry} (h : MapZ W b base N E es) : b < W.heap.size := (Array.getElem?_eq_some_iff.1 h.obj).1
theorem MapZ.cells {X Y : World} {b base N : Nat} {E : List Spot} {es : Array MapEntry} (h : MapZ X b base N E es) (hb : Y.heap[b]? = X.heap[b]?) (hk : ∀ (g : Nat) (cs : Array Value), X.heap[g]? = some (.cells cs 150 (0, 0)) → Y.heap[g]? = X.heap[g]?) : MapZ Y b base N E es :=
  ⟨hb.trans h.obj, h.keys, fun j e he => (h.own j e he).cells fun g cs _ hc => hk g cs hc, h.apt, h.nodup⟩
theorem MapZ.later {X Y : World} {b base N : Nat} {E : List Spot} {es : Array MapEntry} (h : MapZ X b base N E es) (hb : Below X.heap.size X Y) : MapZ Y b base N E es :=
  h.cells (hb.block b h.lt) fun g _ hc => hb.block g (Array.getElem?_eq_some_iff.1 hc).1

theorem owners_zero (w : World) : (zeroValue 138).run Tryz.prog w = .ok (.slice none 0 0) w := (zero_of_info (t := 138) (v := .slice none 0 0) (n := 1) (by kernel_rfl)).1 w
theorem owner_info : (Tryz.prog.info? 150).map (fun i => (i.zero, i.size, i.bytes)) = some (some (.agg #[.int .i64 0, .int .i64 0]), 2, 16) := by kernel_rfl

theorem set_same {W : World} {b : Nat} {o : Obj} (h : W.heap[b]? = some o) : { W with heap := W.heap.setIfInBounds b o } = W := by
  have e : W.heap.setIfInBounds b o = W.heap := by
    apply Array.ext_getElem?
    intro i
    rw [Array.getElem?_setIfInBounds]
    split
    · rename_i hi
      subst hi
      rw [if_pos (Array.getElem?_eq_some_iff.1 h).1, h]
    · rfl
  rw [e]
theorem run_set {W : World} {b : Nat} {es : Array MapEntry} {c : Nat} (h : W.heap[b]? = some (.map es c)) (o : Obj) : (setObj b o).run Tryz.prog W = .ok () { W with heap := W.heap.setIfInBounds b o } := by
  simp [setObj, Sem.run, h]
theorem modify_same {es : Array MapEntry} {j : Nat} {f : MapEntry → MapEntry} (h : ∀ e, es[j]? = some e → f e = e) : es.modify j f = es := by
  apply Array.ext_getElem?
  intro i
  rw [Array.getElem?_modify]
  split
  · rename_i hi
    subst hi
    cases he : es[j]? with
    | none => rfl
    | some e => rw [Option.map_some, h e he]
  · rfl

/-- The entry of a key: it is there, or it is laid. -/
theorem run_mapEntry {W : World} {b base N : Nat} {E : List Spot} {es : Array MapEntry} {p : Spot} (h : MapZ W b base N E es) (hp : SpotOk p) :
    (∃ j e, findAt p E 0 = some j ∧ es[j]? = some e ∧ (Instr.mapEntry MT (.map (some b)) (zval (some p))).run Tryz.prog W = .ok (.tuple #[e.val, .int .i64 (j : Int)]) W) ∨
    (findAt p E 0 = none ∧ (Instr.mapEntry MT (.map (some b)) (zval (some p))).run Tryz.prog W = .ok (.tuple #[.slice none 0 0, .int .i64 (es.size : Int)]) { W with heap := W.heap.setIfInBounds b (.map (es.push { key := zval (some p), val := .slice none 0 0, born := es.size }) (es.size + 1)) }) := by
  have hg : (getObj b).run Tryz.prog W = .ok (.map es es.size) W := MapKept.run_getObj_map h.obj
  have hk := run_key (w := W) hp h.keys
  cases hf : findAt p E 0 with
  | none =>
    refine .inr ⟨rfl, ?_⟩
    rw [hf] at hk
    simp only [Instr.mapEntry, Sem.run_bind, run_underlying Tryz.underlying135, Result.andThen_ok, hg, run_check, hk, Option.map_none, owners_zero, run_set h.obj, Sem.run_pure]
    rfl
  | some j =>
    obtain ⟨k, hkj, hE⟩ := findAt_some hf
    rw [Nat.zero_add] at hkj
    subst hkj
    obtain ⟨e, he, hkey, hborn⟩ := h.keys.at_ j p hE
    refine .inl ⟨j, e, rfl, he, ?_⟩
    rw [hf] at hk
    have hm : es.modify j (fun e => { e with key := zval (some p) }) = es := modify_same fun e' he' => by
      rw [he] at he'
      cases he'
      rw [← hkey]
    have hst : (Instr.keyThatStays (zval (some p)) (zval (some p))).run Tryz.prog W = .ok (zval (some p)) W := by
      have : Instr.sameBits 10000 (zval (some p)) (zval (some p)) = true := by
        show Instr.sameBits (9999 + 1) (.complex .f64 (zre (some p)) (zim (some p))) (.complex .f64 (zre (some p)) (zim (some p))) = true
        simp [Instr.sameBits]
      simp [Instr.keyThatStays, this]
    simp only [Instr.mapEntry, Sem.run_bind, run_underlying Tryz.underlying135, Result.andThen_ok, hg, run_check, hk, Option.map_some, he, Option.getD_some, hkey, hst, hm, run_set h.obj, set_same h.obj, Sem.run_pure, hborn]
    rfl

theorem keys_push {es : Array MapEntry} {E : List Spot} {p : Spot} {v : Value} (h : KeysAre es E) (hp : SpotOk p) : KeysAre (es.push { key := zval (some p), val := v, born := es.size }) (E ++ [p]) := by
  refine ⟨by simp [h.size], fun j q hj => ?_, fun q hq => ?_⟩
  · by_cases hlt : j < E.length
    · rw [List.getElem?_append_left hlt] at hj
      obtain ⟨e, he, h1, h2⟩ := h.at_ j q hj
      exact ⟨e, by rw [Array.getElem?_push_lt (by rw [h.size]; exact hlt), ← Array.getElem?_eq_getElem]; exact he, h1, h2⟩
    · rw [List.getElem?_append_right (by omega)] at hj
      have hj0 : j - E.length = 0 := by
        by_cases h0 : j - E.length = 0
        · exact h0
        · rw [List.getElem?_eq_none (by simp; omega)] at hj; cases hj
      rw [hj0] at hj
      obtain rfl : p = q := Option.some.inj hj
      have : j = es.size := by rw [h.size]; omega
      subst this
      exact ⟨{ key := zval (some p), val := v, born := es.size }, by simp, rfl, rfl⟩
  · rcases List.mem_append.1 hq with hq | hq
    · exact h.ok q hq
    · obtain rfl := List.mem_singleton.1 hq
      exact hp
theorem keys_modify {es : Array MapEntry} {E : List Spot} {j : Nat} {v : Value} (h : KeysAre es E) : KeysAre (es.modify j fun e => { e with val := v }) E := by
  refine ⟨by simp [h.size], fun i q hi => ?_, h.ok⟩
  obtain ⟨e, he, h1, h2⟩ := h.at_ i q hi
  rw [Array.getElem?_modify]
  split
  · rw [he]; exact ⟨_, rfl, h1, h2⟩
  · exact ⟨e, he, h1, h2⟩
theorem find_born {es : Array MapEntry} {E : List Spot} {j : Nat} (h : KeysAre es E) (hj : j < es.size) : es.findIdx? (fun e => (e.born : Int) == (j : Int)) = some j := by
  rw [Array.findIdx?_eq_some_iff_getElem]
  have hb : ∀ i (hi : i < es.size), es[i].born = i := fun i hi => by
    have hE : i < E.length := by rw [← h.size]; exact hi
    obtain ⟨e, he, -, h2⟩ := h.at_ i E[i] (List.getElem?_eq_getElem hE)
    rw [Array.getElem?_eq_getElem hi] at he
    rw [Option.some.inj he]
    exact h2
  refine ⟨hj, by rw [hb j hj]; simp, fun i hi => ?_⟩
  rw [hb i (by omega)]
  simp
  omega

/-- A slice of a map's own, written back. -/
theorem run_entryStore {W : World} {b : Nat} {E : List Spot} {es : Array MapEntry} {j : Nat} {v : Value} (h : W.heap[b]? = some (.map es es.size)) (hk : KeysAre es E) (hj : j < es.size) :
    (Instr.entryStore MT (.map (some b)) (.int .i64 (j : Int)) v).run Tryz.prog W = .ok () { W with heap := W.heap.setIfInBounds b (.map (es.modify j fun e => { e with val := v }) es.size) } := by
  have hg : (getObj b).run Tryz.prog W = .ok (.map es es.size) W := MapKept.run_getObj_map h
  have hi : (asInt (.int .i64 (j : Int))).run Tryz.prog W = .ok (j : Int) W := by simp [asInt, asIntOf]
  simp only [Instr.entryStore, Sem.run_bind, hg, Result.andThen_ok, hi, find_born hk hj, run_set h]

/-- One owner more of a place. -/
theorem group_step {W : World} {b base N : Nat} {E : List Spot} {es : Array MapEntry} {p : Spot} (h : MapZ W b base N E es) (hp : SpotOk p) (hbb : b < base) (hbs : base ≤ W.heap.size) (hN : N ≤ 100000) (i j : Int) :
    ∃ (v : Value) (st : Nat) (W2 : World) (v' : Value) (W3 W4 : World), (Instr.mapEntry MT (.map (some b)) (zval (some p))).run Tryz.prog (W.alloc (.cells #[.int .i64 i, .int .i64 j] 150)) = .ok (.tuple #[v, .int .i64 (st : Int)]) W2 ∧
      (Builtin.append_ #[138, 138] 138 #[v, .slice (some ⟨W.heap.size, 0, none⟩) 1 1]).run Tryz.prog W2 = .ok v' W3 ∧
      (Instr.entryStore MT (.map (some b)) (.int .i64 (st : Int)) v').run Tryz.prog W3 = .ok () W4 ∧
      (∃ es', MapZ W4 b base (N + 1) (if p ∈ E then E else E ++ [p]) es') ∧ Below b W W4 ∧ (∀ (g : Nat) (cs : Array Value) (T : TypeId) (fr : Nat × Nat), T ≠ 150 → W.heap[g]? = some (.cells cs T fr) → W4.heap[g]? = some (.cells cs T fr)) := by
  obtain ⟨W1, hW1⟩ : ∃ W1, W1 = W.alloc (.cells #[.int .i64 i, .int .i64 j] 150) := ⟨_, rfl⟩
  have b1 : Below W.heap.size W W1 := by rw [hW1]; exact (Below.refl _ _).alloc (Nat.le_refl _) _
  have h1 := h.later b1
  have s1 : W1.heap.size = W.heap.size + 1 := by rw [hW1, World.size_alloc]
  have c0 : ∀ (t : Nat) (u : Value), [Value.int .i64 i, .int .i64 j][t]? = some u → W1.cell? ((⟨W.heap.size, 0, none⟩ : Addr).add t) = some u := fun t u ht => by
    obtain ⟨hl, he⟩ := List.getElem?_eq_some_iff.1 ht
    rw [hW1, add_nil, World.cell?_alloc_mark]
    have ht2 : t < 2 := by simpa using hl
    rcases (by omega : t = 0 ∨ t = 1) with rfl | rfl <;> (simp at he; subst he; rfl)
  rw [← hW1]
  -- the entry
  have step : ∃ (v : Value) (st : Nat) (es2 : Array MapEntry), (Instr.mapEntry MT (.map (some b)) (zval (some p))).run Tryz.prog W1 = .ok (.tuple #[v, .int .i64 (st : Int)]) { W1 with heap := W1.heap.setIfInBounds b (.map es2 es2.size) } ∧ st < es2.size ∧
      KeysAre es2 (if p ∈ E then E else E ++ [p]) ∧ (∃ e : MapEntry, es2[st]? = some e ∧ e.val = v) ∧ (∀ (t : Nat) (e : MapEntry), es2[t]? = some e → OwnO W1 base N e.val) ∧
      (∀ (t u : Nat) (e e' : MapEntry), t ≠ u → es2[t]? = some e → es2[u]? = some e' → ∀ g, e.val.ownBlock = some g → e'.val.ownBlock ≠ some g) := by
    rcases run_mapEntry h1 hp with ⟨st, e, hf, he, hr⟩ | ⟨hf, hr⟩
    · obtain ⟨k, hk, hE⟩ := findAt_some hf
      have hin : p ∈ E := List.mem_of_getElem? hE
      refine ⟨e.val, st, es, by rw [set_same h1.obj]; exact hr, (Array.getElem?_eq_some_iff.1 he).1, by rw [if_pos hin]; exact h1.keys, ⟨e, he, rfl⟩, h1.own, h1.apt⟩
    · have hnot : p ∉ E := findAt_none.1 hf
      have hpush : ∀ (t : Nat) (e : MapEntry), (es.push { key := zval (some p), val := .slice none 0 0, born := es.size })[t]? = some e → (es[t]? = some e) ∨ (t = es.size ∧ e.val = .slice none 0 0) := fun t e he => by
        rw [Array.getElem?_push] at he
        split at he
        · rename_i ht
          exact .inr ⟨ht, by rw [← Option.some.inj he]⟩
        · exact .inl he
      refine ⟨.slice none 0 0, es.size, es.push { key := zval (some p), val := .slice none 0 0, born := es.size }, by rw [Array.size_push]; exact hr, by simp, by rw [if_neg hnot]; exact keys_push h1.keys hp, ⟨{ key := zval (some p), val := .slice none 0 0, born := es.size }, by simp, rfl⟩, fun t e he => ?_, fun t u e e' htu he he' g hg => ?_⟩
      · rcases hpush t e he with h2 | ⟨_, h2⟩
        · exact h1.own t e h2
        · rw [h2]; exact ⟨0, [], Nat.zero_le _, World.ownsRow_nil _ _ _ _⟩
      · rcases hpush t e he with h2 | ⟨h2, h3⟩
        · rcases hpush u e' he' with k2 | ⟨k2, k3⟩
          · exact h1.apt t u e e' htu h2 k2 g hg
          · rw [k3]; intro hx; cases hx
        · rw [h3] at hg; cases hg
  obtain ⟨v, st, es2, r1, hst, hkeys, ⟨e0, he0, hv0⟩, hown, hapt⟩ := step
  obtain ⟨W2, hW2⟩ : ∃ W2, W2 = { W1 with heap := W1.heap.setIfInBounds b (.map es2 es2.size) } := ⟨_, rfl⟩
  rw [← hW2] at r1
  obtain ⟨o2, k2⟩ := MapKept.heap_set (o' := .map es2 es2.size) h1.obj
  have o2 : W2.heap[b]? = some (.map es2 es2.size) := by rw [hW2]; exact o2
  have k2 : ∀ g, g ≠ b → W2.heap[g]? = W1.heap[g]? := fun g hg => by rw [hW2]; exact k2 g hg
  have s2 : W2.heap.size = W1.heap.size := by rw [hW2]; simp
  have hbm : ∀ {g : Nat} {cs : Array Value} {T : TypeId} {fr : Nat × Nat}, W1.heap[g]? = some (.cells cs T fr) → g ≠ b := fun {g cs T fr} hg e => by subst e; rw [h1.obj] at hg; cases hg
  have ov : OwnO W2 base N v := by
    have := hown st e0 he0
    rw [hv0] at this
    exact this.cells fun g cs _ hc => k2 g (hbm hc)
  obtain ⟨n, us, hn, hrow⟩ := ov
  obtain ⟨i0, hi, hz0, hz1, hz2⟩ := info_parts owner_info
  obtain ⟨v', W3, r2, q1, q2, q3, q4⟩ := run_append_own_at (P := Tryz.prog) (w := W2) base 138 138 150 i0 _ 2 16 Tryz.underlying138 hi hz0 hz1 hz2 rfl (by decide) v n us hrow ⟨W.heap.size, 0, none⟩ 1 1 [.int .i64 i, .int .i64 j] rfl
    (fun t u ht => by rw [World.cell?_of_block (k2 _ (by rw [block_of_add]; have := h.lt; show W.heap.size ≠ b; omega))]; exact c0 t u ht) (fun u hu => by simp at hu; rcases hu with rfl | rfl <;> rfl) (by unfold maxLen; omega) (by omega) (by rw [s2, s1]; omega)
  have hvb : ∀ g, v.ownBlock = some g → g ≠ b := fun g hg e => by
    have := hown st e0 he0
    rw [hv0] at this
    obtain ⟨_, _, cs, hcs⟩ := this.lt hg
    exact hbm hcs e
  have o3 : W3.heap[b]? = some (.map es2 es2.size) := (q2.block b (by rw [s2, s1]; have := h.lt; omega) (fun e => hvb b e.symm rfl)).trans o2
  have r3 := run_entryStore (v := v') o3 hkeys hst
  obtain ⟨W4, hW4⟩ : ∃ W4, W4 = { W3 with heap := W3.heap.setIfInBounds b (.map (es2.modify st fun e => { e with val := v' }) es2.size) } := ⟨_, rfl⟩
  rw [← hW4] at r3
  obtain ⟨o4, k4⟩ := MapKept.heap_set (o' := .map (es2.modify st fun e => { e with val := v' }) es2.size) o3
  have o4 : W4.heap[b]? = some (.map (es2.modify st fun e => { e with val := v' }) es2.size) := by rw [hW4]; exact o4
  have k4 : ∀ g, g ≠ b → W4.heap[g]? = W3.heap[g]? := fun g hg => by rw [hW4]; exact k4 g hg
  have s4 : W4.heap.size = W3.heap.size := by rw [hW4]; simp
  have s3 : W2.heap.size ≤ W3.heap.size := q2.size
  have ownv' : OwnO W4 base (N + 1) v' := by
    refine (show OwnO W3 base (N + 1) v' from ⟨n + 1, _, by omega, q1⟩).cells fun g cs hg hc => k4 g fun e => ?_
    subst e
    rw [o3] at hc; cases hc
  have hmod : ∀ (t : Nat) (e : MapEntry), (es2.modify st fun e => { e with val := v' })[t]? = some e → (t = st ∧ e.val = v') ∨ (t ≠ st ∧ es2[t]? = some e) := fun t e he => by
    rw [Array.getElem?_modify] at he
    split at he
    · rename_i ht
      subst ht
      rw [he0] at he
      exact .inl ⟨rfl, by rw [← Option.some.inj he]⟩
    · rename_i ht
      exact .inr ⟨Ne.symm ht, he⟩
  have far : ∀ (t : Nat) (e : MapEntry), t ≠ st → es2[t]? = some e → OwnO W4 base (N + 1) e.val := fun t e hts he => by
    refine ((hown t e he).cells fun g cs hg hc => ?_).more (Nat.le_succ N)
    have hgb := hbm hc
    rw [k4 g hgb, q2.block g (by rw [s2]; exact (Array.getElem?_eq_some_iff.1 hc).1) (fun ev => hapt t st e e0 hts he he0 g hg (by rw [hv0]; exact ev.symm)), k2 g hgb]
  refine ⟨v, st, W2, v', W3, W4, r1, r2, r3, ⟨es2.modify st fun e => { e with val := v' }, by rw [o4]; simp, keys_modify hkeys, fun t e he => ?_, fun t u e e' htu he he' g hg => ?_, ?_⟩, ?_, fun g cs T fr hT hg => ?_⟩
  · rcases hmod t e he with ⟨_, h2⟩ | ⟨h2, h3⟩
    · rw [h2]; exact ownv'
    · exact far t e h2 h3
  · rcases hmod t e he with ⟨h2, h3⟩ | ⟨h2, h3⟩
    · rcases hmod u e' he' with ⟨h5, _⟩ | ⟨h5, h6⟩
      · omega
      · rw [h3] at hg
        rcases q4 with eq | eq
        · rw [eq] at hg
          exact hapt st u e0 e' (Ne.symm h5) he0 h6 g (by rw [hv0]; exact hg)
        · rw [eq] at hg
          intro hx
          have := ((hown u e' h6).lt hx).2.1
          have := Option.some.inj hg
          omega
    · rcases hmod u e' he' with ⟨h5, h6⟩ | ⟨h5, h6⟩
      · rw [h6]
        rcases q4 with eq | eq
        · rw [eq]
          intro hx
          exact hapt t st e e0 h2 h3 he0 g hg (by rw [hv0]; exact hx)
        · rw [eq]
          intro hx
          have := ((hown t e h3).lt hg).2.1
          have := Option.some.inj hx
          omega
      · exact hapt t u e e' htu h3 h6 g hg
  · split
    · exact h.nodup
    · rename_i hnot
      exact List.nodup_append.2 ⟨h.nodup, by simp, fun a ha c hc => by
        obtain rfl := List.mem_singleton.1 hc
        intro e
        subst e
        exact hnot ha⟩
  · refine ⟨?_, ?_, ?_, by omega, fun g hg => ?_⟩
    · rw [hW4]; exact q2.os.trans (by rw [hW2]; exact b1.os)
    · rw [hW4]; exact q2.tape.trans (by rw [hW2]; exact b1.tape)
    · rw [hW4]; exact q2.output.trans (by rw [hW2]; exact b1.output)
    · have := h.lt
      rw [k4 g (by omega), q2.block g (by omega) (fun ev => by
        have := hown st e0 he0
        rw [hv0] at this
        have := (this.lt ev.symm).1
        omega), k2 g (by omega), b1.block g (by omega)]
  · have hg1 : W1.heap[g]? = some (.cells cs T fr) := (b1.block g (Array.getElem?_eq_some_iff.1 hg).1).trans hg
    rw [k4 g (hbm hg1), q2.block g (by rw [s2]; exact (Array.getElem?_eq_some_iff.1 hg1).1) (fun ev => by
      have := hown st e0 he0
      rw [hv0] at this
      obtain ⟨_, _, cs', hcs⟩ := this.lt ev.symm
      rw [hg1] at hcs
      simp only [Option.some.injEq, Obj.cells.injEq] at hcs
      exact hT hcs.2.1), k2 g (hbm hg1)]
    exact hg1
end Go.Proofs.YtdocclkphffpkaaGreat
