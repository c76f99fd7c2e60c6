
/- A region that draws its order, of whose calls some make memory: one walk of it, in the class of the worlds in which all that was there is as it was. -/
import Derived.Test.YtmgeifolgdgapaaLawKit
import Derived.BigQuiet
namespace Go.Proofs.Ytmgeifolgdgapaa
open Go.RowKit

/-- A world in which all that was in w is as it was. -/
structure Later (w : World) where
  val : World
  ext : Below w.heap.size w val

instance (w : World) : Nonempty (Later w) := ⟨⟨w, Below.refl _ _⟩⟩

section
variable {P : Program}
theorem region_later {id : Nat} {Q : Exit → Act → World → Prop} {a : Act} {w : World} {l : List Oper} (hm : P.follows .mixedOrders = true) (hB : Region.lexB .any l.toArray = true)
    (h : wpQuiet P l.toArray (fun w' => ∃ n : Later w, w' = n.val) (fun a' => ∀ w', (∃ n : Later w, w' = n.val) → Q .normal a' w') l a) : (Code.region id l.toArray true).wp P Q a w :=
  wp_region_quiet (C := fun w' => ∃ n : Later w, w' = n.val) hm hB ⟨⟨w.drew, (Below.refl _ _).drew⟩, rfl⟩ (by simpa using h)

/-- At a call that leaves the world as it was. -/
theorem later_same {f : FuncId} {args : Array Value} {w : World} {v : Value} {n : Later w} (h : ∀ W, Below w.heap.size w W → Calls P f args W fun e w' => e = .returned v ∧ W = w') :
    Calls P f args n.val fun e w'' => e = .returned v ∧ ∃ m : Later w, w'' = m.val :=
  (h n.val n.ext).mono fun _ _ ⟨he, hw⟩ => ⟨he, n, hw.symm⟩
/-- At a call that only draws. -/
theorem later_drawn {f : FuncId} {args : Array Value} {w : World} {v : Value} {n : Later w} (h : ∀ W, Below w.heap.size w W → Calls P f args W (Drawn v W)) :
    Calls P f args n.val fun e w'' => e = .returned v ∧ ∃ m : Later w, w'' = m.val :=
  (h n.val n.ext).mono fun _ _ ⟨k, he, hw⟩ => ⟨he, ⟨n.val.drewN k, below_drewN n.ext k⟩, hw.symm⟩
/-- At a call that makes memory. -/
theorem later_fresh {f : FuncId} {args : Array Value} {w : World} {v : Value} {n : Later w} (h : ∀ W, Calls P f args W (Fresh v W)) :
    Calls P f args n.val fun e w'' => e = .returned v ∧ ∃ m : Later w, w'' = m.val :=
  (h n.val).mono fun _ w' ⟨he, hb⟩ => ⟨he, ⟨w', n.ext.trans (hb.mono n.ext.size)⟩, rfl⟩
end
end Go.Proofs.Ytmgeifolgdgapaa
