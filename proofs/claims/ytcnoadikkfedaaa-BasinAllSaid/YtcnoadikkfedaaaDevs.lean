/- Several devices at once, whose blocks are apart. -/
import Derived.Test.YtcnoadikkfedaaaBasinOne
namespace Go.Proofs.Ytcnoadikkfedaaa
open Go.RowKit

structure DevAt where
  g : Nat
  h : Nat
  L : Value
  D : Dev

def DevAt.foot (x : DevAt) : Nat → Prop := Go.Proofs.Ytcnoadikkfedaaa.foot x.g x.h x.L
def DevAt.Is (x : DevAt) (w : World) (B : Nat) : Prop := IsDev w B x.g x.h x.L x.D

/-- They lie there, no block belongs to two. -/
structure Devs (w : World) (B : Nat) (l : List DevAt) : Prop where
  is : ∀ x ∈ l, x.Is w B
  apart : l.Pairwise fun x y => ∀ k, x.foot k → ¬ y.foot k

theorem Devs.below {w w' : World} {B : Nat} {l : List DevAt} (h : Devs w B l) (b : Below w.heap.size w w') : Devs w' B l := ⟨fun x hx => (h.is x hx).below b, h.apart⟩
theorem Devs.perm {w : World} {B : Nat} {l m : List DevAt} (h : Devs w B l) (p : l.Perm m) : Devs w B m :=
  ⟨fun x hx => h.is x (p.mem_iff.2 hx), (p.pairwise_iff (fun hxy k hk hx => hxy k hx hk)).1 h.apart⟩
theorem Devs.tail {w : World} {B : Nat} {x : DevAt} {l : List DevAt} (h : Devs w B (x :: l)) : Devs w B l := ⟨fun y hy => h.is y (List.mem_cons_of_mem _ hy), (List.pairwise_cons.1 h.apart).2⟩
theorem Devs.head {w : World} {B : Nat} {x : DevAt} {l : List DevAt} (h : Devs w B (x :: l)) : x.Is w B := h.is x List.mem_cons_self
/-- The first one has been turned. -/
theorem Devs.turn {w w' : World} {B g h : Nat} {L L' : Value} {D D' : Dev} {l : List DevAt} (d : Devs w B (⟨g, h, L, D⟩ :: l)) (d' : IsDev w' B g h L' D') (a : Apart (foot g h L) w w') (ho : ∀ k, L'.ownBlock = some k → L.ownBlock = some k ∨ w.heap.size ≤ k) :
    Devs w' B (⟨g, h, L', D'⟩ :: l) := by
  obtain ⟨p1, p2⟩ := List.pairwise_cons.1 d.apart
  refine ⟨fun x hx => ?_, List.pairwise_cons.2 ⟨fun y hy k hk hyk => ?_, p2⟩⟩
  · rcases List.mem_cons.1 hx with rfl | hx
    · exact d'
    · exact (d.is x (List.mem_cons_of_mem _ hx)).apart a fun k hk hf => p1 x hx k hf hk
  · have hlt := (IsDev.lt (d.is y (List.mem_cons_of_mem _ hy)) k hyk).2
    rcases hk with e | e | e
    · exact p1 y hy k (.inl e) hyk
    · exact p1 y hy k (.inr (.inl e)) hyk
    · rcases ho k e with e | e
      · exact p1 y hy k (.inr (.inr e)) hyk
      · omega
theorem Devs.keep {w w' : World} {B : Nat} {l : List DevAt} {F : Nat → Prop} (h : Devs w B l) (a : Apart F w w') (hf : ∀ x ∈ l, ∀ k, x.foot k → ¬ F k) : Devs w' B l :=
  ⟨fun x hx => (h.is x hx).apart a (hf x hx), h.apart⟩
/-- A new one. -/
theorem Devs.more {w w' : World} {B B' g h : Nat} {L : Value} {D : Dev} {l : List DevAt} (d : Devs w B l) (b : Below w.heap.size w w') (d' : IsDev w' B' g h L D) (hB : w.heap.size ≤ B') (hBB : B ≤ w.heap.size) : Devs w' B (⟨g, h, L, D⟩ :: l) := by
  refine ⟨fun x hx => ?_, List.pairwise_cons.2 ⟨fun y hy k hk hyk => ?_, d.apart⟩⟩
  · rcases List.mem_cons.1 hx with rfl | hx
    · refine ⟨d'.head, d'.body, ?_, by have := d'.bg; show B ≤ g; omega, by have := d'.bh; show B ≤ h; omega, d'.ne, d'.ng, d'.nh, d'.size, d'.sure, d'.loose, d'.left⟩
      refine ⟨d'.own.1, ?_⟩
      rcases d'.own.2 with h2 | ⟨k, cap, cur, e, hb0, rest⟩
      · exact .inl h2
      · exact .inr ⟨k, cap, cur, e, by show B ≤ k; omega, rest⟩
    · exact (d.is x hx).below b
  · have h1 := (IsDev.lt d' k hk).1
    have h2 := (IsDev.lt (d.is y hy) k hyk).2
    omega

/-- Put of one write of 64 bytes that lie somewhere. -/
theorem put_there {w : World} {base g h b t : Nat} {f : Nat → Nat} {L : Value} {D : Dev} (d : IsDev w base g h L D) (hl : BytesAt w (some ⟨b, 0, none⟩) 64 f) (nb : ¬ foot g h L b) (ht : t < D.size) (hn : D.loose.length ≤ 100000000000)
    (h1 : D.off = false) (h2 : D.limited = false) :
    Calls Try.prog 12 #[.pointer (some ⟨g, 0, none⟩), .slice (some ⟨w.heap.size, 0, none⟩) 1 1] (w.alloc (.cells #[.int .i64 (t : Int), .slice (some ⟨b, 0, none⟩) 64 64] 53))
      (Written w base g h L { D with loose := D.loose ++ [⟨t, f⟩] } 0) := by
  have hx5 : Below w.heap.size w (w.alloc (.cells #[.int .i64 (t : Int), .slice (some ⟨b, 0, none⟩) 64 64] 53)) := (Below.refl _ _).alloc (Nat.le_refl _) _
  have hfd := d.lt
  refine (put_one (q := w.heap.size) (b := b) (cap := 64) (t := t) (f := f) (d.below hx5) (heap_alloc_new w _) (hl.below hx5) (by omega) ?_ nb ht hn).mono ?_
  · intro hh; have := (hfd _ hh).2; omega
  rintro e w' ⟨L', rfl, hd, ha, ho⟩
  obtain ⟨e1, e2⟩ := put1_free h1 h2 ⟨t, f⟩
  rw [e1] at hd
  refine ⟨L', by rw [e2], hd, (Apart.of_below (F := foot g h L) hx5).trans ha (fun _ _ e => e), fun k e => (ho k e).imp id fun h5 => ?_⟩
  have := hx5.size
  omega

/-- What one of several devices has been told. -/
def Wrote (w : World) (B : Nat) (x : DevAt) (D' : Dev) (l : List DevAt) (e : Ending) (w' : World) : Prop :=
  ∃ L', e = .returned (.int .i64 0) ∧ Devs w' B (⟨x.g, x.h, L', D'⟩ :: l) ∧ Apart x.foot w w' ∧ ∀ k, L'.ownBlock = some k → x.L.ownBlock = some k ∨ w.heap.size ≤ k
theorem puts_there {w : World} {B b t : Nat} {f : Nat → Nat} {x : DevAt} {l : List DevAt} (d : Devs w B (x :: l)) (hl : BytesAt w (some ⟨b, 0, none⟩) 64 f) (nb : ¬ x.foot b) (ht : t < x.D.size) (hn : x.D.loose.length ≤ 100000000000)
    (h1 : x.D.off = false) (h2 : x.D.limited = false) :
    Calls Try.prog 12 #[.pointer (some ⟨x.g, 0, none⟩), .slice (some ⟨w.heap.size, 0, none⟩) 1 1] (w.alloc (.cells #[.int .i64 (t : Int), .slice (some ⟨b, 0, none⟩) 64 64] 53))
      (Wrote w B x { x.D with loose := x.D.loose ++ [⟨t, f⟩] } l) := by
  refine (put_there d.head hl nb ht hn h1 h2).mono ?_
  rintro e w' ⟨L', rfl, hd, ha, ho⟩
  exact ⟨L', rfl, d.turn hd ha ho, ha, ho⟩
theorem flushes {w : World} {B : Nat} {x : DevAt} {l : List DevAt} (d : Devs w B (x :: l)) (h1 : x.D.off = false) (h2 : x.D.limited = false) :
    Calls Try.prog 16 #[.pointer (some ⟨x.g, 0, none⟩)] w fun e w' => e = .returned (.int .i64 0) ∧ Devs w' B (⟨x.g, x.h, .slice none 0 0, x.D.settle fun _ => true⟩ :: l) ∧ Apart x.foot w w' := by
  refine (flush_any d.head).mono ?_
  rintro e w' ⟨ha, hr⟩
  have hpw := power_free h1 h2
  have hd : e = .returned (.int .i64 0) ∧ IsDev w' B x.g x.h (.slice none 0 0) (x.D.settle fun _ => true) := by
    rcases hr with ⟨-, he, hd⟩ | ⟨hp, -, -⟩
    · rw [hpw] at hd; exact ⟨he, hd⟩
    · rw [hpw] at hp; cases hp
  have ha' : Apart x.foot w w' := ha.mono fun k _ e => by
    rcases e with e | e
    · exact .inl e
    · exact .inr (.inl e)
  exact ⟨hd.1, d.turn hd.2 ha' (by intro k e; cases e), ha'⟩
theorem crashes {w : World} {B : Nat} {x : DevAt} {l : List DevAt} (d : Devs w B (x :: l)) {A : Option Addr} {n c : Nat} {Z : List Int} (s : IntsIn w .i64 A n c Z) (hm : x.D.loose.length ≤ 281474976710656) :
    Calls Try.prog 19 #[.pointer (some ⟨x.g, 0, none⟩), .slice A n c] w fun e w' => e = .returned (.tuple #[]) ∧ Devs w' B (⟨x.g, x.h, .slice none 0 0, x.D.crash Z⟩ :: l) ∧ Apart x.foot w w' := by
  refine (crash_any d.head s hm).mono ?_
  rintro e w' ⟨he, hd, ha⟩
  have ha' : Apart x.foot w w' := ha.mono fun k _ e => by
    rcases e with e | e
    · exact .inl e
    · exact .inr (.inl e)
  exact ⟨he, d.turn hd ha' (by intro k e; cases e), ha'⟩
theorem Devs.below_of {w w' : World} {B : Nat} {x : DevAt} {l : List DevAt} (d : Devs w B (x :: l)) (a : Apart x.foot w w') (hB : B ≤ w.heap.size) : Below B w w' := a.below hB fun k hk hf => by have := (IsDev.lt d.head k hf).1; omega

theorem rot3 {α : Type} (a b c : α) : [a, b, c].Perm [b, c, a] := List.perm_append_comm (l₁ := [a])
theorem rot4 {α : Type} (a b c d : α) : [a, b, c, d].Perm [b, c, d, a] := List.perm_append_comm (l₁ := [a])
theorem rev3 {α : Type} (a b c : α) : [c, b, a].Perm [a, b, c] := List.reverse_perm [a, b, c]

/-- A variable of two cells, behind a draw and a call. -/
theorem box2_later {w w5 : World} {x y : Value} {T : TypeId} (hb : Below (w.alloc (.cells #[x, y] T)).drew.heap.size (w.alloc (.cells #[x, y] T)).drew w5) :
    w5.cell? ⟨w.heap.size, 0, none⟩ = some x ∧ w5.cell? ⟨w.heap.size, 1, none⟩ = some y ∧ w5.frozen? ⟨w.heap.size, 0, none⟩ = false ∧ w5.frozen? ⟨w.heap.size, 1, none⟩ = false := by
  have hg : w5.heap[w.heap.size]? = some (.cells #[x, y] T) := (hb.block w.heap.size (by show w.heap.size < (w.alloc _).heap.size; simp)).trans (heap_alloc_new w _)
  exact ⟨by rw [cell_of_row _ _ _ _ _ _ hg]; rfl, by rw [cell_of_row _ _ _ _ _ _ hg]; rfl, frozen_of_row _ _ _ _ _ hg, frozen_of_row _ _ _ _ _ hg⟩

/-- What a region keeps: a cell, and all that was there. -/
theorem held_alloc {w w' : World} {p : Addr} {v : Value} (h : w'.cell? p = some v ∧ Below w.heap.size w w') (o : Obj) : (w'.alloc o).cell? p = some v ∧ Below w.heap.size w (w'.alloc o) :=
  ⟨cell_later ((Below.refl _ _).alloc (Nat.le_refl _) _) h.1, h.2.alloc h.2.size _⟩
theorem held_call {w w' w5 : World} {p : Addr} {v : Value} (h : w'.cell? p = some v ∧ Below w.heap.size w w') (b : Below w'.heap.size w' w5) : w5.cell? p = some v ∧ Below w.heap.size w w5 :=
  ⟨cell_later b h.1, h.2.trans (b.mono h.2.size)⟩
theorem held_store {w w' : World} {p : Addr} {v u0 u1 : Value} {q : Nat} (h : w'.cell? p = some v ∧ Below w.heap.size w w') (hq : w.heap.size ≤ q) (hp : p.block < w.heap.size) :
    ((w'.setCell ⟨q, 0, none⟩ u0).setCell ⟨q, 1, none⟩ u1).cell? p = some v ∧ Below w.heap.size w ((w'.setCell ⟨q, 0, none⟩ u0).setCell ⟨q, 1, none⟩ u1) := by
  refine ⟨?_, (h.2.setCell (p := ⟨q, 0, none⟩) hq u0).setCell (p := ⟨q, 1, none⟩) hq u1⟩
  rw [World.cell?_of_block (heap_setCell_other _ _ _ _ (by show p.block ≠ q; omega)), World.cell?_of_block (heap_setCell_other _ _ _ _ (by show p.block ≠ q; omega))]
  exact h.1
theorem held_again {w w' : World} {p : Addr} {v : Value} {o o' : Obj} (h : (w'.alloc o).cell? p = some v ∧ Below w.heap.size w (w'.alloc o)) (hw : w.heap.size ≤ w'.heap.size) (hp : p.block < w.heap.size) :
    (w'.alloc o').cell? p = some v ∧ Below w.heap.size w (w'.alloc o') := by
  have hk : ∀ k, k < w.heap.size → (w'.alloc o').heap[k]? = (w'.alloc o).heap[k]? := fun k hk => by rw [Below.heap_alloc w' o' k (by omega), Below.heap_alloc w' o k (by omega)]
  refine ⟨?_, h.2.os, h.2.tape, h.2.output, by have := h.2.size; simp at this ⊢; omega, fun k hk' => (hk k hk').trans (h.2.block k hk')⟩
  rw [World.cell?_of_block (hk _ hp)]
  exact h.1

/-- A write that lies in a variable of its own. -/
def Laid (f : Nat → Nat) (t : Nat) (w : World) (v : Value) (wc : World) : Prop :=
  ∃ q b, v = .pointer (some ⟨q, 0, none⟩) ∧ wc.heap[q]? = some (.cells #[.int .i64 (t : Int), .slice (some ⟨b, 0, none⟩) 64 64] 53 (0, 0)) ∧ Lies wc b f 64 ∧ w.heap.size ≤ q ∧ w.heap.size ≤ b ∧ Below w.heap.size w wc
theorem laid_behind {w w5 : World} {b t : Nat} {f : Nat → Nat} (hb : Below w.drew.heap.size w.drew w5) (hl : Lies w5 b f 64) (hw : w.drew.heap.size ≤ b) :
    Laid f t w (.pointer (some ⟨w5.heap.size, 0, none⟩)) (w5.alloc (.cells #[.int .i64 (t : Int), .slice (some ⟨b, 0, none⟩) 64 64] 53)) :=
  ⟨w5.heap.size, b, rfl, heap_alloc_new w5 _, hl.below ((Below.refl _ _).alloc (Nat.le_refl _) _) hl.lt, hb.size, hw, (((Below.refl w.heap.size w).drew).trans hb).alloc hb.size _⟩
theorem laid_ahead {w w5 : World} {b t : Nat} {x y : Value} {f : Nat → Nat} (hb : Below (w.alloc (.cells #[x, y] 53)).drew.heap.size (w.alloc (.cells #[x, y] 53)).drew w5) (hl : Lies w5 b f 64)
    (hw : (w.alloc (.cells #[x, y] 53)).drew.heap.size ≤ b) :
    Laid f t w (.pointer (some ⟨w.heap.size, 0, none⟩)) ((w5.setCell ⟨w.heap.size, 0, none⟩ (.int .i64 (t : Int))).setCell ⟨w.heap.size, 1, none⟩ (.slice (some ⟨b, 0, none⟩) 64 64)) := by
  have hs : (w.alloc (.cells #[x, y] 53)).drew.heap.size = w.heap.size + 1 := by show (w.alloc _).heap.size = _; simp
  have hg : w5.heap[w.heap.size]? = some (.cells #[x, y] 53) := (hb.block w.heap.size (by omega)).trans (heap_alloc_new w _)
  have a1 := (apart_set w5 w.heap.size 0 (.int .i64 (t : Int))).trans (apart_set _ w.heap.size 1 (.slice (some ⟨b, 0, none⟩) 64 64)) (fun _ _ e => e)
  have hbw : Below w.heap.size w w5 := (((Below.refl w.heap.size w).alloc (Nat.le_refl _) (.cells #[x, y] 53)).drew).trans (hb.mono (by omega))
  refine ⟨w.heap.size, b, rfl, ?_, hl.apart a1 (by omega), Nat.le_refl _, by omega, hbw.trans (a1.below hbw.size fun k hk e => by omega)⟩
  rw [heap_setCell_same _ w.heap.size 1 _ _ _ (heap_setCell_same w5 w.heap.size 0 _ _ _ hg)]
  rfl
end Go.Proofs.Ytcnoadikkfedaaa
