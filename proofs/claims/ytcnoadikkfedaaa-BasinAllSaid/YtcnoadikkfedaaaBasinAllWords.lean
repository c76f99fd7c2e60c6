/- What BasinAll's walk keeps: three devices, the later writes, their numbers. -/
import Derived.Test.YtcnoadikkfedaaaDevs
import Derived.Test.YtcnoadikkfedaaaInts
import Derived.Deep.AppendLies
namespace Go.Proofs.Ytcnoadikkfedaaa.basinAll
open Go.RowKit

/-- A device whose power does not fail. -/
structure Calm (D : Dev) (i : Nat) : Prop where
  size : D.size = 10
  off : D.off = false
  limited : D.limited = false
  loose : D.loose.length ≤ i

theorem Calm.next {D : Dev} {i : Nat} (h : Calm D i) (x : Wr) : Calm { D with loose := D.loose ++ [x] } (i + 1) := ⟨h.size, h.off, h.limited, by have := h.loose; show (D.loose ++ [x]).length ≤ _; simp; omega⟩

def Alling (w : World) (B ga ha gb hb gc hc n : Nat) (gst : Nat) (v : Value) (wr : World) : Prop :=
  ∃ i D La Lb Lc, i ≤ n ∧ i ≤ 40 ∧ gst = 40 - i ∧ v = .int .i64 (i : Int) ∧ Devs wr B [⟨ga, ha, La, D⟩, ⟨gb, hb, Lb, D⟩, ⟨gc, hc, Lc, D⟩] ∧ Calm D i ∧ Below B w wr
def AllEnd (w : World) (B ga ha gb hb gc hc : Nat) (wr : World) : Prop :=
  ∃ D La Lb Lc, Devs wr B [⟨ga, ha, La, D⟩, ⟨gb, hb, Lb, D⟩, ⟨gc, hc, Lc, D⟩] ∧ Calm D 40 ∧ Below B w wr

/-- A device behind the flush, while the later writes come. -/
structure Late (D D1 : Dev) (m : Nat) : Prop where
  size : D.size = 10
  off : D.off = false
  limited : D.limited = false
  loose : D.loose.length = m
  sure : D.sure = D1.sure
theorem Late.next {D D1 : Dev} {m : Nat} (h : Late D D1 m) (x : Wr) : Late { D with loose := D.loose ++ [x] } D1 (m + 1) := ⟨h.size, h.off, h.limited, by show (D.loose ++ [x]).length = _; simp [h.loose], h.sure⟩

/-- The numbers of the writes, collected. -/
def Keep (w : World) (B : Nat) (v : Value) (m : Nat) (l : List DevAt) : Prop :=
  ∃ gk ck, v = .slice (some ⟨gk, 0, none⟩) m ck ∧ OwnI w B v m (fun j => (j : Int)) ∧ gk < w.heap.size ∧ ∀ x ∈ l, ¬ x.foot gk
theorem Keep.apart {w w' : World} {B m : Nat} {v : Value} {l : List DevAt} {F : Nat → Prop} (h : Keep w B v m l) (a : Apart F w w') (hf : ∀ k, v.ownBlock = some k → ¬ F k) : Keep w' B v m l := by
  obtain ⟨gk, ck, rfl, ho, hg, hx⟩ := h
  refine ⟨gk, ck, rfl, ⟨ho.1, ?_⟩, by have := a.size; omega, hx⟩
  rcases ho.2 with h2 | ⟨k, cap, cur, e, hb0, hk, rest⟩
  · exact .inl h2
  · exact .inr ⟨k, cap, cur, e, hb0, (a.block k (Array.getElem?_eq_some_iff.1 hk).1 (hf k (by rw [e]; rfl))).trans hk, rest⟩
theorem Keep.below {w w' : World} {B m : Nat} {v : Value} {l : List DevAt} (h : Keep w B v m l) (b : Below w.heap.size w w') : Keep w' B v m l := h.apart (Apart.of_below (F := fun _ => False) b) (fun _ _ e => e)
theorem Keep.turn {w w' : World} {B m g h : Nat} {v L L' : Value} {D D' : Dev} {l : List DevAt} (k : Keep w B v m (⟨g, h, L, D⟩ :: l)) (a : Apart (foot g h L) w w') (ho : ∀ i, L'.ownBlock = some i → L.ownBlock = some i ∨ w.heap.size ≤ i) : Keep w' B v m (⟨g, h, L', D'⟩ :: l) := by
  have k2 := k.apart a (fun i e hf => by
    obtain ⟨gk, ck, rfl, -, -, hx⟩ := k
    have : gk = i := by simpa [Value.ownBlock] using e
    subst this
    exact hx _ List.mem_cons_self hf)
  obtain ⟨gk, ck, e, ho2, hg2, hx2⟩ := k2
  obtain ⟨gk', ck', e', -, hg, hx⟩ := k
  have hgg : gk = gk' := by rw [e] at e'; injection e' with e1; injection e1 with e2; injection e2
  subst hgg
  refine ⟨gk, ck, e, ho2, hg2, fun x hx' hf => ?_⟩
  rcases List.mem_cons.1 hx' with rfl | hx'
  · rcases hf with hf | hf | hf
    · exact hx _ List.mem_cons_self (.inl hf)
    · exact hx _ List.mem_cons_self (.inr (.inl hf))
    · rcases ho gk hf with h5 | h5
      · exact hx _ List.mem_cons_self (.inr (.inr h5))
      · omega
  · exact hx _ (List.mem_cons_of_mem _ hx') hf
theorem Keep.perm {w : World} {B m : Nat} {v : Value} {l l' : List DevAt} (h : Keep w B v m l) (p : l.Perm l') : Keep w B v m l' := by
  obtain ⟨gk, ck, e, ho, hg, hx⟩ := h
  exact ⟨gk, ck, e, ho, hg, fun x hx' => hx x (p.mem_iff.2 hx')⟩
theorem Keep.more {w w' : World} {B m g h : Nat} {v L : Value} {D : Dev} {l : List DevAt} (k : Keep w B v m l) (b : Below w.heap.size w w') (d : IsDev w' w.heap.size g h L D) : Keep w' B v m (⟨g, h, L, D⟩ :: l) := by
  have k2 := k.below b
  obtain ⟨gk, ck, e, ho, hg, hx⟩ := k2
  obtain ⟨gk', ck', e', -, hg', -⟩ := k
  have hgg : gk = gk' := by rw [e] at e'; injection e' with e1; injection e1 with e2; injection e2
  subst hgg
  refine ⟨gk, ck, e, ho, hg, fun x hx' hf => ?_⟩
  rcases List.mem_cons.1 hx' with rfl | hx'
  · have := (d.lt gk hf).1; omega
  · exact hx x hx' hf
/-- One number more. -/
theorem run_keep {w : World} {B m : Nat} {v : Value} {l : List DevAt} (k : Keep w B v m l) (d : Devs w B l) (hB : B ≤ w.heap.size) (hm : m ≤ 1000) :
    ∃ v' w', (Builtin.append_ #[32, 32] 32 #[v, .slice (some ⟨w.heap.size, 0, none⟩) 1 1]).run Try.prog (w.alloc (.cells #[.int .i64 (m : Int)] 3)) = .ok v' w' ∧ Keep w' B v' (m + 1) l ∧ Devs w' B l ∧ Below B w w' := by
  obtain ⟨gk, ck, rfl, ho, hg, hx⟩ := k
  obtain ⟨i0, hi, hz0, hz1, hz2⟩ := info_parts int_info
  have hx1 : Below w.heap.size w (w.alloc (.cells #[.int .i64 (m : Int)] 3)) := (Below.refl _ _).alloc (Nat.le_refl _) _
  obtain ⟨g, cap, w', hr, hown, hgr, hat, hlt⟩ := run_append_lies (P := Try.prog) (w.alloc (.cells #[.int .i64 (m : Int)] 3)) 32 32 B 3 i0 _ 1 8 Try.underlying32 hi hz0 hz1 hz2 rfl (by decide) (.slice (some ⟨gk, 0, none⟩) m ck) m _ (ho.alloc _)
    ⟨w.heap.size, 0, none⟩ 1 1 [.int .i64 (m : Int)] rfl (cell_one_new _ _ _) (fun u hu => by simp at hu; subst hu; rfl) (by omega) (by unfold maxLen; omega) (by omega) (by simp; omega) _ rfl
  have ha : Apart (fun k => k = gk) w w' := (Apart.of_below (F := fun k => k = gk) hx1).trans (G := fun k => k = gk) ⟨hgr.os, hgr.tape, hgr.output, hgr.size, fun k hk hne => hgr.block k hk (fun e => hne (by simpa [Value.ownBlock] using e))⟩ fun _ _ e => e
  have hgB : B ≤ gk := (World.ownsRow.lt ho gk rfl).1
  refine ⟨_, w', hr, ⟨g, cap, rfl, ?_, hlt, fun x hx' hf => ?_⟩, d.keep ha (fun x hx' k hk e => by subst e; exact hx x hx' hk), ha.below hB fun k hk e => by omega⟩
  · unfold OwnI
    rw [← intsOf_next]
    exact hown
  · rcases hat with h5 | h5
    · have : gk = g := by simpa [Value.ownBlock] using h5
      subst this
      exact hx x hx' hf
    · have := (IsDev.lt (d.is x hx') g hf).2
      have h6 : (w.alloc (.cells #[.int .i64 (m : Int)] 3)).heap.size = w.heap.size + 1 := by simp
      omega
def upto (m : Nat) : List Int := (List.range m).map fun (j : Nat) => (j : Int)
theorem Keep.ints {w : World} {B m : Nat} {v : Value} {l : List DevAt} (k : Keep w B v m l) (hm : m ≤ 1000) : ∃ A c, v = .slice A m c ∧ IntsIn w .i64 A m c (upto m) := by
  obtain ⟨gk, ck, rfl, ho, hg, hx⟩ := k
  rcases ho.2 with ⟨h2, _⟩ | ⟨k, cap, cur, e, _, hk, hnc, hmx, _⟩
  · cases h2
  · have e1 : k = gk ∧ cap = ck := by injection e with e1 e2 e3; injection e1 with e4; injection e4 with e5; exact ⟨e5.symm, e3.symm⟩
    obtain ⟨rfl, rfl⟩ := e1
    refine ⟨_, cap, rfl, by simp [upto], hnc, by unfold maxLen at hmx; omega, (by intro e; cases e), fun ad e t ht => ?_, fun z hz => ?_⟩
    · obtain rfl := Option.some.inj e
      have h5 := World.ownsRow.cells ho (g := k) rfl t _ (intsOf_at (fun j => (j : Int)) ht)
      rw [h5]
      congr 2
      unfold upto
      rw [List.getD_eq_getElem?_getD]
      simp [List.getElem?_range ht]
    · unfold upto at hz
      obtain ⟨j, hj, rfl⟩ := List.mem_map.1 hz
      have := List.mem_range.1 hj
      simp [Lit.wf, IntKind.min, IntKind.max, IntKind.signed, IntKind.bits]
      omega
theorem named_upto {m t : Nat} (h : t < m) : named (upto m) (upto m).length t = true := by
  unfold named
  rw [List.take_length]
  simp only [decide_eq_true_eq]
  unfold upto
  exact List.mem_map.2 ⟨t, List.mem_range.2 h, rfl⟩
theorem keptTo_most {l : List Wr} {p : Nat → Bool} : ∀ {i : Nat}, i ≤ l.length → (∀ t, t < i → p t = true) → keptTo l p i = l.take i
  | 0, _, _ => by simp [keptTo]
  | i + 1, h, hp => by rw [keptTo_yes (by omega) (hp i (by omega)), keptTo_most (by omega) (fun t ht => hp t (by omega)), List.take_succ_eq_append_getElem (by omega)]
theorem keptTo_none {l : List Wr} {p : Nat → Bool} (hp : ∀ t, p t = false) : ∀ i, keptTo l p i = []
  | 0 => rfl
  | i + 1 => by rw [keptTo_no (hp i), keptTo_none hp i]
/-- All last: what there was is there. -/
theorem crash_all {D : Dev} {m : Nat} (h : D.loose.length = m) (s : Nat) : (D.crash (upto m)).view s = D.view s := by
  show lays D.sure (keptTo D.loose (fun t => named (upto m) (upto m).length t) D.loose.length) s = _
  rw [keptTo_most (Nat.le_refl _) (fun t ht => named_upto (by omega)), List.take_length]
  rfl
theorem crash_none (D : Dev) (s : Nat) : (D.crash []).view s = D.sure s := by
  show lays D.sure (keptTo D.loose (fun t => named [] 0 t) D.loose.length) s = _
  rw [keptTo_none (fun t => by simp [named])]
  rfl

def Lating (w : World) (B ga ha gb hb gc hc : Nat) (D1 : Dev) (n : Nat) (gst : Nat) (v13 v : Value) (wr : World) : Prop :=
  ∃ i D La Lb, i ≤ n ∧ i ≤ 40 ∧ gst = 40 - i ∧ v = .int .i64 (i : Int) ∧ Devs wr B [⟨ga, ha, La, D⟩, ⟨gb, hb, Lb, D⟩, ⟨gc, hc, .slice none 0 0, D1⟩] ∧ Late D D1 i ∧ Keep wr B v13 i [⟨ga, ha, La, D⟩, ⟨gb, hb, Lb, D⟩, ⟨gc, hc, .slice none 0 0, D1⟩] ∧ Below B w wr
def LateEnd (w : World) (B ga ha gb hb gc hc : Nat) (D1 : Dev) (v13 : Value) (wr : World) : Prop :=
  ∃ m D La Lb, m ≤ 40 ∧ Devs wr B [⟨ga, ha, La, D⟩, ⟨gb, hb, Lb, D⟩, ⟨gc, hc, .slice none 0 0, D1⟩] ∧ Late D D1 m ∧ Keep wr B v13 m [⟨ga, ha, La, D⟩, ⟨gb, hb, Lb, D⟩, ⟨gc, hc, .slice none 0 0, D1⟩] ∧ Below B w wr

theorem Late.view0 {D1 : Dev} (h : Late D1 D1 0) (s : Nat) : D1.view s = D1.sure s := by
  have : D1.loose = [] := List.eq_nil_of_length_eq_zero h.loose
  unfold Dev.view
  rw [this]
  rfl
/-- The device that gets what there was behind the flush. -/
def Filling (w : World) (B g h : Nat) (l : List DevAt) (D1 : Dev) (v13 : Value) (m : Nat) (v : Value) (wr : World) : Prop :=
  ∃ (i : Nat) (D : Dev) (L : Value), i ≤ 10 ∧ v = .int .i64 (i : Int) ∧ Devs wr B (⟨g, h, L, D⟩ :: l) ∧ Keep wr B v13 m (⟨g, h, L, D⟩ :: l) ∧ Calm D i ∧ (∀ s, s < i → D.view s = D1.sure s) ∧ Below B w wr
theorem view_next {D D1 : Dev} {i : Nat} (h : ∀ s, s < i → D.view s = D1.sure s) : ∀ s, s < i + 1 → Dev.view { D with loose := D.loose ++ [⟨i, D1.sure i⟩] } s = D1.sure s := fun s hs => by
  show lays D.sure (D.loose ++ [_]) s = _
  rw [lays_snoc]
  unfold lay
  by_cases e : s = i
  · subst e; rw [if_pos rfl]
  · rw [if_neg e]; exact h s (by omega)
end Go.Proofs.Ytcnoadikkfedaaa.basinAll
