
/- A range over a function whose rounds never leave it, where the iterator tells of each thing that it hands over what the world then holds. No program's functions. -/
import Derived.Test.YtmgeifolgdgapaaAppIn
import Derived.RangeFuncBound
import Derived.RangeFuncCalls
import Derived.RangeFuncLeaves
import Derived.Shelf.Abstract
import Derived.Shelf.RegionOpen
namespace Go.Proofs.Ytmgeifolgdgapaa
open Go.RowKit Go.Shelf

/-- The iterator's word: whatever J a round keeps going, it hands over each thing x at a world where Ok x holds, and ends with all of them. -/
def Tells {α : Type} (F : Fence) (n : Nat) (P : Program) (gf : Nat) (lb : Array Value) (encs : α → Array Value) (Kp : World → World → Prop) (Ok : α → World → Prop) (S : List α → Prop) (N : Nat) (w : World) : Prop :=
  ∀ (l : Nat) (J : List α → World → Prop) (W : World), Below w.heap.size w W → AbidesFrom W.heap.size J →
    (∀ pre x X, J pre X → pre.length < N → Ok x X → YieldAt F (n - 1) P l (encs x) X fun e Y => e = .returned (.bool true) ∧ J (pre ++ [x]) Y ∧ Kp X Y) →
    J [] W → CallsIn F n P gf (#[.func (.yield l) #[] #[]] ++ lb) W fun e Y => (∃ v, e = .returned v) ∧ ∃ xs, S xs ∧ J xs Y

/-- A round ends at its end. -/
def Stays {α : Type} (B : Nat) (Kp : World → World → Prop) (I : List α → World → Prop) (xs : List α) (X : World) : Exit → Act → World → Prop
  | .normal, _, Y => KeepsFrom B X Y ∧ Kp X Y ∧ I xs Y
  | _, _, _ => False

theorem wpIn_range_told {α : Type} {F : Fence} {n : Nat} {P : Program} {g : Operand} {ps : Array Tmp} {assign body : Code} {Q : Exit → Act → World → Prop} {a : Act} {w : World}
    (hro : F.round = none) (hn : 1 ≤ n) {gf : Nat} {lb : Array Value} (hg : a.eval g = .func (.func gf) #[] lb) (hF : F.fn gf) (eg : ∀ args w, (callFunc gf args).run P w = .ok (.enter gf args) w)
    {encs : α → Array Value} {Kp : World → World → Prop} {Ok : α → World → Prop} {S : List α → Prop} {N : Nat} (hseq : Tells F (n - 1) P gf lb encs Kp Ok S N w)
    (hKt : ∀ {A B C : World}, Kp A B → Kp B C → Kp A C) (hKb : ∀ (X : World) (l : Nat) (o o' : Obj), w.heap.size ≤ l → X.heap[l]? = some o → o.isCells = false → o.isWalk = false → Kp X (X.putObj l o')) (hps : ∀ x, (encs x).size = ps.size)
    (hOk : OwnFrom w.heap.size Ok)
    (I : List α → World → Prop) (hI : OwnFrom w.heap.size I) (h0 : I [] w) (a₁ : α → Act)
    (hassign : ∀ (l : Nat) (x : α) (X : World) (K : Act → World → Prop), K (a₁ x) X →
      assign.wpIn (F.inRound l) (n - 1 - 1) P (Exit.then K (fun _ _ _ => False)) { tmps := (ps.zip (encs x)).foldl (fun t (p, v) => t.setIfInBounds p v) a.tmps, defers := [] } X)
    (hbody : ∀ (l : Nat) (pre : List α) (x : α) (X : World), I pre X → pre.length < N → Ok x X → body.wpIn (F.inRound l) (n - 1 - 1) P (Stays w.heap.size Kp I (pre ++ [x]) X) (a₁ x) X)
    (hdone : ∀ (D : Nat) (xs : List α) (X : World), w.heap.size ≤ D → S xs → I xs X → X.heap[D]? = some (.deferred (some [])) → Q .normal { a with defers := { target := .collected D, args := #[] } :: a.defers } X) :
    (Code.rangeFunc g ps assign body).wpIn F n P Q a w := by
  refine wpIn_rangeFunc fun fn hfn => ?_
  rw [hro]
  let loopAt (st : LoopState) (pe : Option Code) : Loop := { state := st, pending := pe, fn, tmps := a.tmps, params := ps, assign, body, defers := w.heap.size }
  let wA := w.alloc (.deferred (some []))
  let wB := wA.alloc (.loop (loopAt .ready none))
  have hsz : wA.heap.size = w.heap.size + 1 := World.size_alloc _ _
  have loopB : wB.heap[w.heap.size + 1]? = some (.loop (loopAt .ready none)) := by
    have h := World.alloc_heap_new wA (.loop (loopAt .ready none))
    rw [hsz] at h
    exact h
  have defB : wB.heap[w.heap.size]? = some (.deferred (some [])) := (Below.heap_alloc wA _ _ (by rw [hsz]; omega)).trans (World.alloc_heap_new w _)
  have belB : Below w.heap.size w wB := ((Below.refl _ w).alloc (Nat.le_refl _) _).alloc (by show w.heap.size ≤ wA.heap.size; omega) _
  have szB : wB.heap.size = w.heap.size + 2 := by show (wA.alloc _).heap.size = _; rw [World.size_alloc, hsz]
  refine ⟨w.heap.size + 1, [{ target := .collected w.heap.size, args := #[] }], wB, { target := .fn (.func gf) lb, args := #[.func (.yield (w.heap.size + 1)) #[] #[]] }, wB, gf, #[.func (.yield (w.heap.size + 1)) #[] #[]] ++ lb, wB, run_enterLoop_outer _ _ _ _ _, ?_, ?_, ?_, fun _ => hn, ?_⟩
  · simp only [resolve, hg]
    simp [go_sem]
  · intro f' hf'
    simp [Target.leads] at hf'
    subst hf'
    exact hF
  · simp [invoke, go_sem, eg]
  · refine (hseq (w.heap.size + 1) (fun pre X => (I pre X ∧ X.heap[w.heap.size + 1]? = some (.loop (loopAt .ready none))) ∧ X.heap[w.heap.size]? = some (.deferred (some []))) wB belB ?_ ?_ ⟨⟨hI.alloc _ (hI.alloc _ h0), loopB⟩, defB⟩).mono ?_
    · rintro s X Y row ⟨⟨hi, hl⟩, hd⟩ hgr hr
      have hr2 : ∀ r, row = some r → w.heap.size ≤ r ∧ ∃ o : Obj, X.heap[r]? = some o ∧ o.isCells = false := fun r e => by
        obtain ⟨hB, o, ho, hw⟩ := hr r e
        exact ⟨by rw [szB] at hB; omega, o, ho, Obj.not_cells_of_walk hw⟩
      exact ⟨⟨hI s X Y row hi hgr hr2, (grownBy_keeps hgr (fun r e => (hr r e).2) hl rfl).trans hl⟩, (grownBy_keeps hgr (fun r e => (hr r e).2) hd rfl).trans hd⟩
    · rintro pre x X ⟨⟨hi, hl⟩, hd⟩ hlen hok
      have hlt : w.heap.size + 1 < X.heap.size := (Array.getElem?_eq_some_iff.1 hl).1
      refine ⟨fn, _, assign, body, run_yield (args := encs x) hl (hps x), roundIn_of_wpIn hfn (hassign _ x X _ ⟨_, run_beginRound hl rfl, ?_⟩)⟩
      generalize hbz : { loopAt .ready none with state := LoopState.busy } = busy
      have hX2 : (X.putObj (w.heap.size + 1) (.loop busy)).heap[w.heap.size + 1]? = some (.loop busy) := World.putObj_heap_same hlt
      refine wpIn_mono (hbody _ pre x _ (hI.putObj _ hi (by omega) hl rfl) hlen (hOk.putObj _ hok (by omega) hl rfl)) fun e _ Y hp => ?_
      cases e with
      | normal =>
        obtain ⟨hk, hkp, hi3⟩ := hp
        have hY := hk.same _ _ (by omega) hX2 rfl
        have hYd := hk.same _ _ (Nat.le_refl _) ((World.putObj_heap_other (by omega)).trans hd) rfl
        have he := run_endRound (P := P) none hY
        rw [← hbz] at he
        refine ⟨_, _, he, rfl, ⟨⟨hI.putObj _ hi3 (by omega) hY rfl, World.putObj_heap_same (Array.getElem?_eq_some_iff.1 hY).1⟩, (World.putObj_heap_other (by omega)).trans hYd⟩, ?_⟩
        exact hKt (hKt (hKb _ _ _ _ (by omega) hl rfl rfl) hkp) (hKb _ _ _ _ (by omega) hY rfl rfl)
      | ret => exact hp.elim
      | exit _ => exact hp.elim
      | goto _ => exact hp.elim
      | panic _ => exact hp.elim
      | outgrown => exact hp.elim
    · rintro e Y ⟨⟨v, rfl⟩, xs, hS, ⟨hi, hl⟩, hd⟩
      exact ⟨none, _, run_endLoop (P := P) hl (by intro h; cases h), hdone _ xs _ (Nat.le_refl _) hS (hI.putObj _ hi (by omega) hl rfl) ((World.putObj_heap_other (by omega)).trans hd)⟩

/-- What keeps under the turn of no block keeps behind a call that leaves all as it was. -/
theorem abides_below {β : Type} {B : Nat} {J : β → World → Prop} (h : AbidesFrom B J) {s : β} {X Y : World} (hs : J s X) (hb : Below X.heap.size X Y) : J s Y :=
  h s X Y none hs ⟨hb.os, hb.tape, hb.output, hb.size, fun k hk _ => hb.block k hk⟩ (fun r e => by cases e)
end Go.Proofs.Ytmgeifolgdgapaa
