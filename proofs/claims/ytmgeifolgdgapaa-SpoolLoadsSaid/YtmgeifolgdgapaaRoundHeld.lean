
/- A region that draws its order and writes, in a round of a range over a function: walked with facts that are held. No program's functions. -/
import Derived.Test.YtmgeifolgdgapaaMerge10
import Derived.Deep.RegionHeld3
namespace Go.Proofs.Ytmgeifolgdgapaa
open Go.RowKit Go.Shelf

theorem letsOut_noPanic {Q : Exit → Act → World → Prop} (h : ¬ LetsOut Q) : ¬ LetsOut (NoPanic Q) := fun ⟨a, w, e⟩ => h ⟨a, w, e⟩
theorem region_round_held {P : Program} {id : Nat} {ops : List Oper} {S : World → Prop} {Q : Exit → Act → World → Prop} {l n : Nat} {a : Act} {w : World} (hnd : noDefer ops = true) (hQ : ¬ LetsOut Q)
    (hm : P.follows .mixedOrders = true) (hS : S w.drew)
    (h : S w.drew → wpAnyH P .any ops.toArray (NoPanic Q) S ops.toArray.size (Array.replicate ops.toArray.size false) a w.drew) : (Code.region id ops.toArray true).wpIn (Fence.wide.inRound l) n P Q a w := by
  refine Code.wpIn_mono NoPanic.imp (wpIn_region_draw fun t => ops_round (fun i o ho => noDefer_spec hnd o (by
    rw [List.getElem?_toArray] at ho
    exact List.mem_of_getElem? ho)) (letsOut_noPanic hQ) _ _ _ ?_)
  simp only [Region.schedule, hm, Bool.true_or, if_true]
  exact wpAny_sound _ t _ a _ (wpAny_of_held _ _ _ _ (h hS))
end Go.Proofs.Ytmgeifolgdgapaa
