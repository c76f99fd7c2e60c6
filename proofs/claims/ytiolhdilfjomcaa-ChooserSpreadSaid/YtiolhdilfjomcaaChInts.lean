/- Slices of int, more: an append that says where the new row lies; two rows side by side; a store into a row that is known whole. Nothing of a program's functions. -/
import Derived.Test.YtiolhdilfjomcaaInts
import Derived.Maps.AppendAt
namespace Go.Proofs.Ytiolhdilfjomcaa
open Go.RowKit

theorem OwnI.drewN {w : World} {base n : Nat} {v : Value} {g : Nat → Int} (h : OwnI w base v n g) (k : Nat) : OwnI (w.drewN k) base v n g := h
theorem owni_none (w : World) (base : Nat) (g : Nat → Int) : OwnI w base (.slice none 0 0) 0 g := ⟨rfl, .inl ⟨rfl, rfl⟩⟩

theorem OwnI.less {w : World} {base base' n : Nat} {v : Value} {g : Nat → Int} (h : OwnI w base v n g) (hb : base' ≤ base) : OwnI w base' v n g := by
  refine ⟨h.1, ?_⟩
  rcases h.2 with h2 | ⟨b, cap, cur, e, hb0, rest⟩
  · exact .inl h2
  · exact .inr ⟨b, cap, cur, e, by omega, rest⟩

/-- One number behind them; the new row is the old one, or new. -/
theorem run_int_at {w : World} {base n : Nat} {v : Value} {g : Nat → Int} {z : Int} (ty : TypeId) (h : OwnI w base v n g) (hz : z = g n) (hm : (n + 1) * 8 ≤ 140737488355328) (hb : base ≤ w.heap.size) :
    ∃ v' w', (Builtin.append_ #[24, 24] ty #[v, .slice (some ⟨w.heap.size, 0, none⟩) 1 1]).run Try.prog (w.alloc (.cells #[.int .i64 z] 3)) = .ok v' w' ∧ OwnI w' base v' (n + 1) g ∧
      (w.alloc (.cells #[.int .i64 z] 3)).grownBy w' v.ownBlock ∧ (v'.ownBlock = v.ownBlock ∨ v'.ownBlock = some (w.heap.size + 1)) := by
  obtain ⟨i0, hi, hz0, hz1, hz2⟩ := info_parts int_info
  obtain ⟨v', w', h1, h2, h3, _, h5⟩ := run_append_own_at (P := Try.prog) (w.alloc (.cells #[.int .i64 z] 3)) base 24 ty 3 i0 _ 1 8 Try.underlying24 hi hz0 hz1 hz2 rfl (by decide) v n _ (h.alloc _) ⟨w.heap.size, 0, none⟩ 1 1 [.int .i64 z] rfl
    (cell_one_new _ _ _) (fun u hu => by simp at hu; subst hu; rfl) (by unfold maxLen; omega) hm (by simp; omega)
  refine ⟨v', w', h1, ?_, h3, ?_⟩
  · unfold OwnI
    rw [← intsOf_next, ← hz]
    exact h2
  · simpa using h5

/-- Two rows of the call's own, in blocks of their own. -/
structure Two (w : World) (base : Nat) (u v : Value) (n : Nat) (f g : Nat → Int) : Prop where
  one : OwnI w base u n f
  two : OwnI w base v n g
  side : ∀ k, u.ownBlock = some k → v.ownBlock ≠ some k
theorem two_none (w : World) (base : Nat) (f g : Nat → Int) : Two w base (.slice none 0 0) (.slice none 0 0) 0 f g := ⟨owni_none w base f, owni_none w base g, fun k h => by cases h⟩
theorem Two.drewN {w : World} {base n : Nat} {u v : Value} {f g : Nat → Int} (h : Two w base u v n f g) (k : Nat) : Two (w.drewN k) base u v n f g := ⟨h.one, h.two, h.side⟩
theorem Two.later {w w' : World} {base n k : Nat} {u v : Value} {f g : Nat → Int} (h : Two w base u v n f g) (he : w.drewN k = w') : Two w' base u v n f g := by rw [← he]; exact h.drewN k
/-- One number more in each. -/
theorem run_two {w w0 : World} {base n : Nat} {u v : Value} {f g : Nat → Int} {x y : Int} (ty ty2 : TypeId) (h : Two w base u v n f g) (hx : x = f n) (hy : y = g n) (hm : (n + 1) * 8 ≤ 140737488355328) (hb : base ≤ w.heap.size)
    {B : Nat} (hB : B ≤ base) (hw : Below B w0 w) :
    ∃ u' w1 v' w2, (Builtin.append_ #[24, 24] ty #[u, .slice (some ⟨w.heap.size, 0, none⟩) 1 1]).run Try.prog (w.alloc (.cells #[.int .i64 x] 3)) = .ok u' w1 ∧
      (Builtin.append_ #[24, 24] ty2 #[v, .slice (some ⟨w1.heap.size, 0, none⟩) 1 1]).run Try.prog (w1.alloc (.cells #[.int .i64 y] 3)) = .ok v' w2 ∧
      Two w2 base u' v' (n + 1) f g ∧ Below B w0 w2 := by
  obtain ⟨u', w1, r1, o1, g1, p1⟩ := run_int_at ty h.one hx hm hb
  have s1 : w.heap.size + 1 ≤ w1.heap.size := by have := g1.size; simpa using this
  have hbu : ∀ k, u.ownBlock = some k → base ≤ k ∧ k < w.heap.size := fun k hk => World.ownsRow.lt h.one k hk
  have hbv : ∀ k, v.ownBlock = some k → base ≤ k ∧ k < w.heap.size := fun k hk => World.ownsRow.lt h.two k hk
  have hv1 : OwnI w1 base v n g := World.ownsRow.kept (h.two.alloc (.cells #[.int .i64 x] 3)) g1 (by
    cases hvo : v.ownBlock with
    | none => exact .inl rfl
    | some k => exact .inr fun e => h.side k e.symm hvo)
  obtain ⟨v', w2, r2, o2, g2, p2⟩ := run_int_at ty2 hv1 hy hm (by omega)
  have s2 : w1.heap.size + 1 ≤ w2.heap.size := by have := g2.size; simpa using this
  have hu' : ∀ k, u'.ownBlock = some k → base ≤ k ∧ k < w1.heap.size := fun k hk => World.ownsRow.lt o1 k hk
  have far : ∀ k, u'.ownBlock = some k → v.ownBlock ≠ some k := fun k hk hvk => by
    rcases p1 with e | e
    · rw [hk] at e
      exact h.side k e.symm hvk
    · rw [hk] at e
      have := hbv k hvk
      have := Option.some.inj e
      omega
  have hu2 : OwnI w2 base u' (n + 1) f := World.ownsRow.kept (o1.alloc (.cells #[.int .i64 y] 3)) g2 (by
    cases huo : u'.ownBlock with
    | none => exact .inl rfl
    | some k => exact .inr fun e => far k huo e.symm)
  have b1 : Below B w0 w1 := (hw.alloc (by omega) _).grown g1 (by simp; omega) fun k hk => by have := hbu k hk; omega
  refine ⟨u', w1, v', w2, r1, r2, ⟨hu2, o2, fun k hk hvk => ?_⟩, (b1.alloc (by omega) _).grown g2 (by simp; omega) fun k hk => by have := hbv k hk; omega⟩
  rcases p2 with e | e
  · rw [hvk] at e
    exact far k hk e.symm
  · rw [hvk] at e
    have := hu' k hk
    have := Option.some.inj e
    omega
end Go.Proofs.Ytiolhdilfjomcaa
