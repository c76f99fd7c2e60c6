/- A range over a function whose rounds never leave it, where the iterator tells of each thing that it hands over what the world then holds. No program's functions. A region that draws its order and leaves the world as it is, in a round of a range over a function, the fence being the wide one. No program's functions. -/
import Derived.Test.YtmgeifolgdgapaaAppIn
import Derived.RangeFuncBound
import Derived.RangeFuncCalls
import Derived.RangeFuncLeaves
import Derived.Shelf.Abstract
import Derived.Shelf.RegionOpen
import Derived.BigQuiet
import Derived.Deep.MidRow
import Derived.OwnWalkIn
namespace Go.Proofs.Ytmgeifolgdgapaa
open Go.RowKit Go.Shelf

/-- The iterator's word: whatever J a round keeps going, it hands over each thing x at a world where Ok x holds, and ends with all of them. -/
def Tells {α : Type} (F : Fence) (n : Nat) (P : Program) (gf : Nat) (lb : Array Value) (encs : α → Array Value) (Kp : World → World → Prop) (Ok : α → World → Prop) (S : List α → Prop) (N : Nat) (w : World) : Prop :=
  ∀ (l : Nat) (J : List α → World → Prop) (W : World), Below w.heap.size w W → AbidesFrom W.heap.size J →
    (∀ pre x X, J pre X → pre.length < N → Ok x X → YieldAt F (n - 1) P l (encs x) X fun e Y => e = .returned (.bool true) ∧ J (pre ++ [x]) Y ∧ Kp X Y) →
    J [] W → CallsIn F n P gf (#[.func (.yield l) #[] #[]] ++ lb) W fun e Y => (∃ v, e = .returned v) ∧ ∃ xs, S xs ∧ J xs Y

/-- A round ends at its end. -/
def Stays {α : Type} (B : Nat) (Kp : World → World → Prop) (I : List α → World → Prop) (xs : List α) (X : World) : Exit → Act → World → Prop
  | .normal, _, Y => KeepsFrom B X Y ∧ Kp X Y ∧ I xs Y
  | _, _, _ => False

theorem wpIn_range_told {α : Type} {F : Fence} {n : Nat} {P : Program} {g : Operand} {ps : Array Tmp} {assign body : Code} {Q : Exit → Act → World → Prop} {a : Act} {w : World}
    (hro : F.round = none) (hn : 1 ≤ n) {gf : Nat} {lb : Array Value} (hg : a.eval g = .func (.func gf) #[] lb) (hF : F.fn gf) (eg : ∀ args w, (callFunc gf args).run P w = .ok (.enter gf args) w)
    {encs : α → Array Value} {Kp : World → World → Prop} {Ok : α → World → Prop} {S : List α → Prop} {N : Nat} (hseq : Tells F (n - 1) P gf lb encs Kp Ok S N w)
    (hKt : ∀ {A B C : World}, Kp A B → Kp B C → Kp A C) (hKb : ∀ (X : World) (l : Nat) (o o' : Obj), w.heap.size ≤ l → X.heap[l]? = some o → o.isCells = false → o.isWalk = false → Kp X (X.putObj l o')) (hps : ∀ x, (encs x).size = ps.size)
    (hOk : OwnFrom w.heap.size Ok)
    (I : List α → World → Prop) (hI : OwnFrom w.heap.size I) (h0 : I [] w) (a₁ : α → Act)
    (hassign : ∀ (l : Nat) (x : α) (X : World) (K : Act → World → Prop), K (a₁ x) X →
      assign.wpIn (F.inRound l) (n - 1 - 1) P (Exit.then K (fun _ _ _ => False)) { tmps := (ps.zip (encs x)).foldl (fun t (p, v) => t.setIfInBounds p v) a.tmps, defers := [] } X)
    (hbody : ∀ (l : Nat) (pre : List α) (x : α) (X : World), I pre X → pre.length < N → Ok x X → body.wpIn (F.inRound l) (n - 1 - 1) P (Stays w.heap.size Kp I (pre ++ [x]) X) (a₁ x) X)
    (hdone : ∀ (D : Nat) (xs : List α) (X : World), w.heap.size ≤ D → S xs → I xs X → X.heap[D]? = some (.deferred (some [])) → Q .normal { a with defers := { target := .collected D, args := #[] } :: a.defers } X) :
    (Code.rangeFunc g ps assign body).wpIn F n P Q a w := by
  refine wpIn_rangeFunc fun fn hfn => ?_
  rw [hro]
  let loopAt (st : LoopState) (pe : Option Code) : Loop := { state := st, pending := pe, fn, tmps := a.tmps, params := ps, assign, body, defers := w.heap.size }
  let wA := w.alloc (.deferred (some []))
  let wB := wA.alloc (.loop (loopAt .ready none))
  have hsz : wA.heap.size = w.heap.size + 1 := World.size_alloc _ _
  have loopB : wB.heap[w.heap.size + 1]? = some (.loop (loopAt .ready none)) := by
    have h := World.alloc_heap_new wA (.loop (loopAt .ready none))
    rw [hsz] at h
    exact h
  have defB : wB.heap[w.heap.size]? = some (.deferred (some [])) := (Below.heap_alloc wA _ _ (by rw [hsz]; omega)).trans (World.alloc_heap_new w _)
  have belB : Below w.heap.size w wB := ((Below.refl _ w).alloc (Nat.le_refl _) _).alloc (by show w.heap.size ≤ wA.heap.size; omega) _
  have szB : wB.heap.size = w.heap.size + 2 := by show (wA.alloc _).heap.size = _; rw [World.size_alloc, hsz]
  refine ⟨w.heap.size + 1, [{ target := .collected w.heap.size, args := #[] }], wB, { target := .fn (.func gf) lb, args := #[.func (.yield (w.heap.size + 1)) #[] #[]] }, wB, gf, #[.func (.yield (w.heap.size + 1)) #[] #[]] ++ lb, wB, run_enterLoop_outer _ _ _ _ _, ?_, ?_, ?_, fun _ => hn, ?_⟩
  · simp only [resolve, hg]
    simp [go_sem]
  · intro f' hf'
    simp [Target.leads] at hf'
    subst hf'
    exact hF
  · simp [invoke, go_sem, eg]
  · refine (hseq (w.heap.size + 1) (fun pre X => (I pre X ∧ X.heap[w.heap.size + 1]? = some (.loop (loopAt .ready none))) ∧ X.heap[w.heap.size]? = some (.deferred (some []))) wB belB ?_ ?_ ⟨⟨hI.alloc _ (hI.alloc _ h0), loopB⟩, defB⟩).mono ?_
    · rintro s X Y row ⟨⟨hi, hl⟩, hd⟩ hgr hr
      have hr2 : ∀ r, row = some r → w.heap.size ≤ r ∧ ∃ o : Obj, X.heap[r]? = some o ∧ o.isCells = false := fun r e => by
        obtain ⟨hB, o, ho, hw⟩ := hr r e
        exact ⟨by rw [szB] at hB; omega, o, ho, Obj.not_cells_of_walk hw⟩
      exact ⟨⟨hI s X Y row hi hgr hr2, (grownBy_keeps hgr (fun r e => (hr r e).2) hl rfl).trans hl⟩, (grownBy_keeps hgr (fun r e => (hr r e).2) hd rfl).trans hd⟩
    · rintro pre x X ⟨⟨hi, hl⟩, hd⟩ hlen hok
      have hlt : w.heap.size + 1 < X.heap.size := (Array.getElem?_eq_some_iff.1 hl).1
      refine ⟨fn, _, assign, body, run_yield (args := encs x) hl (hps x), roundIn_of_wpIn hfn (hassign _ x X _ ⟨_, run_beginRound hl rfl, ?_⟩)⟩
      generalize hbz : { loopAt .ready none with state := LoopState.busy } = busy
      have hX2 : (X.putObj (w.heap.size + 1) (.loop busy)).heap[w.heap.size + 1]? = some (.loop busy) := World.putObj_heap_same hlt
      refine wpIn_mono (hbody _ pre x _ (hI.putObj _ hi (by omega) hl rfl) hlen (hOk.putObj _ hok (by omega) hl rfl)) fun e _ Y hp => ?_
      cases e with
      | normal =>
        obtain ⟨hk, hkp, hi3⟩ := hp
        have hY := hk.same _ _ (by omega) hX2 rfl
        have hYd := hk.same _ _ (Nat.le_refl _) ((World.putObj_heap_other (by omega)).trans hd) rfl
        have he := run_endRound (P := P) none hY
        rw [← hbz] at he
        refine ⟨_, _, he, rfl, ⟨⟨hI.putObj _ hi3 (by omega) hY rfl, World.putObj_heap_same (Array.getElem?_eq_some_iff.1 hY).1⟩, (World.putObj_heap_other (by omega)).trans hYd⟩, ?_⟩
        exact hKt (hKt (hKb _ _ _ _ (by omega) hl rfl rfl) hkp) (hKb _ _ _ _ (by omega) hY rfl rfl)
      | ret => exact hp.elim
      | exit _ => exact hp.elim
      | goto _ => exact hp.elim
      | panic _ => exact hp.elim
      | outgrown => exact hp.elim
    · rintro e Y ⟨⟨v, rfl⟩, xs, hS, ⟨hi, hl⟩, hd⟩
      exact ⟨none, _, run_endLoop (P := P) hl (by intro h; cases h), hdone _ xs _ (Nat.le_refl _) hS (hI.putObj _ hi (by omega) hl rfl) ((World.putObj_heap_other (by omega)).trans hd)⟩

/-- What keeps under the turn of no block keeps behind a call that leaves all as it was. -/
theorem abides_below {β : Type} {B : Nat} {J : β → World → Prop} (h : AbidesFrom B J) {s : β} {X Y : World} (hs : J s X) (hb : Below X.heap.size X Y) : J s Y :=
  h s X Y none hs ⟨hb.os, hb.tape, hb.output, hb.size, fun k hk _ => hb.block k hk⟩ (fun r e => by cases e)
end Go.Proofs.Ytmgeifolgdgapaa

namespace Go.Proofs.Ytmgeifolgdgapaa
open Go.RowKit Go.Shelf

theorem upon_round {P : Program} {o : Oper} {a : Act} {K : Act → World → Prop} {Q : Exit → Act → World → Prop} {l n : Nat} : ∀ (r : Result Next), o.upon P a K Q r → o.uponIn (Fence.wide.inRound l) n P a K Q r
  | .ok (.value _) _, h => h
  | .ok .skip _, h => h
  | .ok (.defer _) _, h => h
  | .ok (.enter f args) w', h => ⟨fun e => (by cases e), CallsIn.inRound l (callsIn_wide.2 (show Calls P f args w' _ from h))⟩
  | .ok (.row row args) w', h => ⟨fun e => (by cases e), fun c cs _ => by
      obtain ⟨v, w3, hr, hs⟩ := (show Rows P row args w' _ from h) c cs
      exact ⟨v, w3, hr, stepsIn_wide.2 hs⟩⟩
  | .ok (.round ..) _, h => h.elim
  | .halt (.panic _) _, h => h
  | .halt (.exit _) _, h => h.elim
  | .halt .blocked _, h => h.elim
  | .halt .waiting _, h => h.elim
  | .halt (.stuck _) _, h => h.elim
  | .halt (.unsupported _) _, h => h.elim

theorem ops_round {P : Program} {ops : Array Oper} {Q : Exit → Act → World → Prop} {l n : Nat} (hd : ∀ (i : Nat) (o : Oper), ops[i]? = some o → ∀ c, o.op ≠ .defer c) (hQ : ¬ LetsOut Q) :
    ∀ (s : List Nat) (a : Act) (w : World), wpOps P ops Q s a w → wpOpsIn (Fence.wide.inRound l) n P ops Q s a w
  | [], _, _, h => h
  | i :: s, a, w, h => by
    simp only [wpOps] at h
    simp only [wpOpsIn]
    cases ho : ops[i]? with
    | none =>
      rw [ho] at h
      exact ops_round hd hQ s a w h
    | some o =>
      rw [ho] at h
      dsimp only at h ⊢
      by_cases hw : Region.wanted o (yielded ops a.tmps) = true
      · rw [if_pos hw] at h ⊢
        rcases h with h | ⟨_, h⟩
        · refine Oper.wpIn_mono (fun a' w' h' => ops_round hd hQ s a' w' h') ⟨fun _ _ => trivial, ?_⟩
          rw [Oper.semAt_eq _ _ _ (hd i o ho)]
          exact upon_round _ h
        · exact absurd h hQ
      · rw [if_neg hw] at h ⊢
        exact ⟨fun _ _ => trivial, ops_round hd hQ s _ w h⟩

/-- None of them puts a call off. -/
def noDefer (ops : List Oper) : Bool := ops.all fun o => match o.op with | .defer _ => false | _ => true
theorem noDefer_spec {ops : List Oper} (h : noDefer ops = true) : ∀ o ∈ ops, ∀ c, o.op ≠ .defer c := by
  intro o ho c e
  have := List.all_eq_true.1 h o ho
  rw [e] at this
  cases this

/-- One walk in the text's order serves every order, in a round too. -/
theorem region_round {P : Program} {id : Nat} {ops : List Oper} {C : World → Prop} {Q : Exit → Act → World → Prop} {l n : Nat} {a : Act} {w : World} (hnd : noDefer ops = true) (hQ : ¬ LetsOut Q)
    (hm : P.follows .mixedOrders = true) (hB : Region.lexB .any ops.toArray = true) (hC : C w.drew)
    (h : wpQuiet P ops.toArray C (fun a' => ∀ w', C w' → Q .normal a' w') ops a) : (Code.region id ops.toArray true).wpIn (Fence.wide.inRound l) n P Q a w := by
  refine wpIn_region_draw fun t => ops_round (fun i o ho => noDefer_spec hnd o (by
    rw [List.getElem?_toArray] at ho
    exact List.mem_of_getElem? ho)) hQ _ _ _ ?_
  have hB2 := hB
  simp only [Region.lexB, Bool.and_eq_true] at hB2
  have h1 := wpAnyQ_lex (C := C) (md := .any) hB2.1 ops 0 (Array.replicate ops.toArray.size false) a (by simp) (by simpa using hB2.2) h
  have h2 : wpAny P .any ops.toArray Q ops.toArray.size (Array.replicate ops.toArray.size false) a { w with drawn := w.drawn + 1 } :=
    wpAny_of_quiet (Q := fun a' => ∀ w', C w' → Q .normal a' w') (fun _ w' hw' h => h w' hw') _ _ _ _ hC (by simpa using h1)
  simp only [Region.schedule, hm, Bool.true_or, if_true]
  exact wpAny_sound _ t _ a _ h2

theorem wpListIn_load_mid {F : Fence} {n : Nat} {P : Program} {ops : Array Oper} {rest : List Oper} {op : Oper} {a : Act} {w : World} {Q : Exit → Act → World → Prop} (hgd : op.guard = none) (ty : TypeId) (x : Operand) (ho : op.op = .load ty x)
    (b o : Nat) (hx : a.eval x = .pointer (some ⟨b, o, none⟩)) (cs : List Value) (d : TypeDesc) (hc : w.rangeAt b o cs)
    (hu : P.underlying ty = some d) (hd : d.isRow = true) (hi : (P.info? ty).map (·.size) = some cs.length)
    (h : wpListIn F n P ops Q rest (a.put op.dst (.agg cs.toArray)) w) : wpListIn F n P ops Q (op :: rest) a w := by
  refine wpListIn_plain hgd fun K hK' => ?_
  unfold Oper.wpIn
  refine ⟨by simp [Oper.about, ho], ?_⟩
  rw [Oper.semAt_plain F _ _ (by rw [ho]; intro c hc'; cases hc')]
  simp only [execOp, ho, hx, Instr.loadAt, Instr.sureAddr, Sem.run_bind, Sem.run_pure, Result.andThen_ok, run_loadVar_mid w b o ty cs d hc hu hd hi]
  exact hK' _ _ h
theorem wpListIn_store_mid {F : Fence} {n : Nat} {P : Program} {ops : Array Oper} {rest : List Oper} {op : Oper} {a : Act} {w : World} {Q : Exit → Act → World → Prop} (hgd : op.guard = none) (ty : TypeId) (x y : Operand) (ho : op.op = .store ty x y)
    (b o : Nat) (cells : Array Value) (hx : a.eval x = .pointer (some ⟨b, o, none⟩)) (hy : a.eval y = .agg cells) (ht : w.there b o cells.size) (hi : (P.info? ty).map (·.size) = some cells.size) (h1 : cells.all (·.oneCell') = true)
    (h : wpListIn F n P ops Q rest (a.put op.dst undef) (w.setCells b o cells.toList)) : wpListIn F n P ops Q (op :: rest) a w := by
  refine wpListIn_plain hgd fun K hK' => ?_
  unfold Oper.wpIn
  refine ⟨by simp [Oper.about, ho], ?_⟩
  rw [Oper.semAt_plain F _ _ (by rw [ho]; intro c hc'; cases hc')]
  simp only [execOp, ho, hx, hy, run_storeAt_mid w b o ty cells ht hi h1, Sem.run_bind, Sem.run_pure, Result.andThen_ok]
  exact hK' _ _ h
end Go.Proofs.Ytmgeifolgdgapaa

