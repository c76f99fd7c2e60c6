
/- Rows of pages: that lie somewhere, in blocks of the call's own. -/
import Derived.Test.YtmgeifolgdgapaaMerge4
import Derived.RangeFuncBox
namespace Go.Proofs.Ytmgeifolgdgapaa
open Go.RowKit

/-- The slice reads as N pages, page i of L i bytes F i. -/
def ReadsP (w : World) (v : Value) (N : Nat) (L : Nat → Nat) (F : Nat → Nat → Nat) : Prop :=
  ∃ A c, v = .slice A N c ∧ N ≤ c ∧ c ≤ 9223372036854775807 ∧ (A = none → c = 0) ∧ ∀ i, i < N → ∃ ad u, A = some ad ∧ w.cell? (ad.add i) = some u ∧ Reads w u (L i) (F i)
theorem ReadsP.below {w w' : World} {v : Value} {N : Nat} {L : Nat → Nat} {F : Nat → Nat → Nat} (h : ReadsP w v N L F) (hb : Below w.heap.size w w') : ReadsP w' v N L F := by
  obtain ⟨A, c, e, h1, h2, h3, hs⟩ := h
  exact ⟨A, c, e, h1, h2, h3, fun i hi => by obtain ⟨ad, u, e1, e2, e3⟩ := hs i hi; exact ⟨ad, u, e1, cell_later hb e2, e3.below hb⟩⟩
theorem ReadsP.page_at {w : World} {A : Option Addr} {N c : Nat} {L : Nat → Nat} {F : Nat → Nat → Nat} (h : ReadsP w (.slice A N c) N L F) {i : Nat} (hi : i < N) : ∃ ad u, A = some ad ∧ w.cell? (ad.add i) = some u ∧ Reads w u (L i) (F i) := by
  obtain ⟨A, c, e, _, _, _, hs⟩ := h
  cases e
  exact hs i hi
theorem ReadsP.page {w : World} {ad : Addr} {N c : Nat} {L : Nat → Nat} {F : Nat → Nat → Nat} (h : ReadsP w (.slice (some ad) N c) N L F) {i : Nat} (hi : i < N) : ∃ u, w.cell? (ad.add i) = some u ∧ Reads w u (L i) (F i) := by
  obtain ⟨A, c, e, _, _, _, hs⟩ := h
  obtain ⟨ad', u, e1, e2, e3⟩ := hs i hi
  cases e
  cases e1
  exact ⟨u, e2, e3⟩

/-- All but the first. -/
theorem ReadsP.tail {w : World} {ad : Addr} {N c d : Nat} {B : Option Addr} {L : Nat → Nat} {F : Nat → Nat → Nat} (h : ReadsP w (.slice (some ad) (N + 1) c) (N + 1) L F) (h1 : c ≠ 1 → B = some (ad.add 1) ∧ d = c - 1) (h2 : c = 1 → d = 0) : ReadsP w (.slice B N d) N (fun i => L (i + 1)) (fun i => F (i + 1)) := by
  obtain ⟨A, c', e, q1, q2, q3, q4⟩ := h
  cases e
  by_cases hc : c = 1
  · obtain rfl : N = 0 := by omega
    exact ⟨B, d, rfl, by omega, by have := h2 hc; omega, fun _ => h2 hc, fun i hi => absurd hi (by omega)⟩
  · obtain ⟨rfl, rfl⟩ := h1 hc
    refine ⟨_, _, rfl, by omega, by omega, (by intro e; cases e), fun i hi => ?_⟩
    obtain ⟨ad', u, e1, e2, e3⟩ := q4 (i + 1) (by omega)
    cases e1
    exact ⟨_, u, rfl, by rw [Addr.add_add, Nat.add_comm 1 i]; exact e2, e3⟩

/-- The same page, in a world in which its block is as it was. -/
theorem Row.kept {B : Nat} {w w' : World} {u : Value} {n : Nat} {f : Nat → Nat} (h : Row B w u n f) (hk : ∀ (g : Nat) (cs : Array Value) (fr : Nat × Nat), w.heap[g]? = some (.cells cs 5 fr) → w'.heap[g]? = w.heap[g]?) : Row B w' u n f := by
  obtain ⟨g, cap, cur, e, h1, h2, h3, h4, h5⟩ := h
  exact ⟨g, cap, cur, e, h1, h2, h3, (hk g _ _ h4).trans h4, h5⟩
theorem Row.base {B B' : Nat} {w : World} {u : Value} {n : Nat} {f : Nat → Nat} (h : Row B w u n f) (hb : B' ≤ B) : Row B' w u n f := by
  obtain ⟨g, cap, cur, e, h1, h2, h3, h4, h5⟩ := h
  exact ⟨g, cap, cur, e, Nat.le_trans hb h1, h2, h3, h4, h5⟩
theorem Row.congr {B : Nat} {w : World} {u : Value} {n : Nat} {f f' : Nat → Nat} (h : Row B w u n f) (he : ∀ i, i < n → f i = f' i) : Row B w u n f' := by
  obtain ⟨g, cap, cur, e, h1, h2, h3, h4, h5⟩ := h
  exact ⟨g, cap, cur, e, h1, h2, h3, h4, fun i hi => by rw [h5 i hi, he i hi]⟩
theorem Row.below_ {B : Nat} {w w' : World} {u : Value} {n : Nat} {f : Nat → Nat} (h : Row B w u n f) (hb : Below w.heap.size w w') : Row B w' u n f :=
  h.kept fun g _ _ hg => hb.block g (Array.getElem?_eq_some_iff.1 hg).1
theorem Row.reads {B : Nat} {w : World} {u : Value} {n : Nat} {f : Nat → Nat} (h : Row B w u n f) (hf : ∀ i, i < n → f i < 256) : Reads w u n f := by
  obtain ⟨g, cap, rfl, _, _, h1, h2, hs⟩ := h.bytes (Nat.le_refl _) hf
  exact ⟨_, cap, rfl, h1, h2, (by intro e; cases e), hs⟩

/-- A row of pages of the call's own, each page a block of the call's own. -/
def OwnP (w : World) (base : Nat) (v : Value) (N : Nat) (L : Nat → Nat) (F : Nat → Nat → Nat) : Prop :=
  ∃ us : List Value, w.ownsRow base 28 1 v N us ∧ ∀ i, i < N → ∃ u, us[i]? = some u ∧ Row base w u (L i) (F i)
theorem OwnP.nil (w : World) (base : Nat) (L : Nat → Nat) (F : Nat → Nat → Nat) : OwnP w base (.slice none 0 0) 0 L F := ⟨[], World.ownsRow_nil _ _ _ _, fun i hi => absurd hi (by omega)⟩
theorem OwnP.congr {w : World} {base : Nat} {v : Value} {N : Nat} {L L' : Nat → Nat} {F F' : Nat → Nat → Nat} (h : OwnP w base v N L F) (hL : ∀ i, i < N → L i = L' i) (hF : ∀ i, i < N → ∀ j, j < L i → F i j = F' i j) : OwnP w base v N L' F' := by
  obtain ⟨us, h1, h2⟩ := h
  refine ⟨us, h1, fun i hi => ?_⟩
  obtain ⟨u, e, hr⟩ := h2 i hi
  exact ⟨u, e, by rw [← hL i hi]; exact hr.congr (hF i hi)⟩
theorem OwnP.below_ {w w' : World} {base : Nat} {v : Value} {N : Nat} {L : Nat → Nat} {F : Nat → Nat → Nat} (h : OwnP w base v N L F) (hb : Below w.heap.size w w') : OwnP w' base v N L F := by
  obtain ⟨us, h1, h2⟩ := h
  refine ⟨us, owns_later h1 hb, fun i hi => ?_⟩
  obtain ⟨u, e, hr⟩ := h2 i hi
  exact ⟨u, e, hr.below_ hb⟩
theorem OwnP.reads {w : World} {base : Nat} {v : Value} {N : Nat} {L : Nat → Nat} {F : Nat → Nat → Nat} (h : OwnP w base v N L F) (hF : ∀ i, i < N → ∀ j, j < L i → F i j < 256) : ReadsP w v N L F := by
  obtain ⟨us, h1, h2⟩ := h
  have h0 := h1
  rcases h1.2 with ⟨rfl, rfl⟩ | ⟨g, cap, cur, rfl, _, hg, hnc, hm, _⟩
  · exact ⟨none, 0, rfl, Nat.le_refl _, by omega, fun _ => rfl, fun i hi => absurd hi (by omega)⟩
  · refine ⟨_, cap, rfl, hnc, by unfold maxLen at hm; omega, (by intro e; cases e), fun i hi => ?_⟩
    obtain ⟨u, e, hr⟩ := h2 i hi
    exact ⟨_, u, rfl, World.ownsRow.cells h0 (g := g) rfl i _ e, hr.reads (hF i hi)⟩

theorem page_info : (Try.prog.info? 28).map (fun i => (i.zero, i.size, i.bytes)) = some (some (.slice none 0 0), 1, 24) := by kernel_rfl
theorem own_kept {w w' : World} {base : Nat} {v : Value} {N : Nat} {us : List Value} (h : w.ownsRow base 28 1 v N us) (hg : w.grownBy w' v.ownBlock) {g : Nat} {cs : Array Value} {fr : Nat × Nat} (hc : w.heap[g]? = some (.cells cs 5 fr)) : w'.heap[g]? = w.heap[g]? := by
  refine hg.block g (Array.getElem?_eq_some_iff.1 hc).1 fun e => ?_
  rcases h.2 with ⟨rfl, _⟩ | ⟨k, cap, cur, rfl, _, hk, _⟩
  · cases e
  · have : g = k := by simpa [Value.ownBlock] using e
    subst this
    rw [hc] at hk
    cases hk

/-- One page more. -/
theorem run_page {w : World} {base N : Nat} {v u : Value} {L : Nat → Nat} {F : Nat → Nat → Nat} (ty : TypeId) (h : OwnP w base v N L F) (hu : Row base w u (L N) (F N)) (hu1 : u.oneCell' = true) (hm : (N + 1) * 24 ≤ 140737488355328) (hb : base ≤ w.heap.size) :
    ∃ v' w', (Builtin.append_ #[22, 22] ty #[v, .slice (some ⟨w.heap.size, 0, none⟩) 1 1]).run Try.prog (w.alloc (.cells #[u] 28)) = .ok v' w' ∧ OwnP w' base v' (N + 1) L F ∧
      (∃ g cap, v' = .slice (some ⟨g, 0, none⟩) (N + 1) cap) ∧ (w.alloc (.cells #[u] 28)).grownBy w' v.ownBlock := by
  obtain ⟨i0, hi, hz0, hz1, hz2⟩ := info_parts page_info
  obtain ⟨us, h1, h2⟩ := h
  have h3 := World.ownsRow.alloc h1 (.cells #[u] 28)
  obtain ⟨v', w', r1, r2, r3, r4⟩ := run_append_own (P := Try.prog) (w.alloc (.cells #[u] 28)) base 22 ty 28 i0 _ 1 24 Try.underlying22 hi hz0 hz1 hz2 rfl (by decide) v N _ h3 ⟨w.heap.size, 0, none⟩ 1 1 [u] rfl
    (fun j x hj => by
      obtain ⟨hl, he⟩ := List.getElem?_eq_some_iff.1 hj
      have : j = 0 := by simpa using hl
      subst this
      rw [add_nil, World.cell?_alloc_mark]
      simpa using he) (fun x hx => by simp at hx; subst hx; exact hu1) (by unfold maxLen; omega) (by omega) (by simp; omega)
  have hN : us.length = N := by have := h1.1; omega
  refine ⟨v', w', r1, ⟨us ++ [u], r2, fun i hi' => ?_⟩, ownsRow_succ r2, r3⟩
  have hk : ∀ (g : Nat) (cs : Array Value) (fr : Nat × Nat), (w.alloc (.cells #[u] 28)).heap[g]? = some (.cells cs 5 fr) → w'.heap[g]? = (w.alloc (.cells #[u] 28)).heap[g]? := fun g cs fr hg => own_kept h3 r3 hg
  by_cases hlt : i < N
  · obtain ⟨x, e, hr⟩ := h2 i hlt
    exact ⟨x, by rw [List.getElem?_append_left (by omega)]; exact e, (hr.below_ ((Below.refl _ _).alloc (Nat.le_refl _) _)).kept hk⟩
  · obtain rfl : i = N := by omega
    exact ⟨u, by rw [List.getElem?_append_right (by omega)]; simp [hN], (hu.below_ ((Below.refl _ _).alloc (Nat.le_refl _) _)).kept hk⟩
end Go.Proofs.Ytmgeifolgdgapaa
