/- What Pick and the document answer of any arguments, told alike. -/
import Derived.Test.YtiolhdilfjomcaaChRef
import Derived.Test.YtiolhdilfjomcaaChAwake
namespace Go.Proofs.Ytiolhdilfjomcaa
open Go.RowKit

/-- What an answer of Pick means: refused, none, or the one. -/
def Means (s b : Int) (n m q : Nat) (L G K : Nat → Int) (v x : Int) : Prop :=
  (x = 1 ∧ v = 0) ∨ (x = 4 ∧ v = 0 ∧ Live s b n L ∧ Ages n m G ∧ ∀ i, i < n → ¬ cand L K b q i = true) ∨
    (x = 0 ∧ Live s b n L ∧ Ages n m G ∧ ∃ r : Nat, v = (r : Int) ∧ IsPick (cand L K b q) (overS L G b) (underS L b) n r)

theorem picks {w : World} {s b : Int} {A B D : Option Addr} {n m q : Nat} {L G K : Nat → Int} (c d f : Nat) (H : IntsAt w A n L) (J : IntsAt w B m G) (M : IntsAt w D q K) (hq : q ≤ 9223372036854775807) :
    ∃ v x : Int, (∀ W, Below w.heap.size w W → Calls Try.prog 8 #[.agg #[.int .i64 s, .int .i64 b], .slice A n c, .slice B m d, .slice D q f] W (Fresh (.tuple #[.int .i64 v, .int .i64 x]) W)) ∧
      (∀ W, Below w.heap.size w W → Calls Try.prog 9 #[.agg #[.int .i64 s, .int .i64 b], .slice A n c, .slice B m d, .slice D q f] W (Fresh (.tuple #[.int .i64 v, .int .i64 x]) W)) ∧
      Means s b n m q L G K v x := by
  by_cases h : Live s b n L
  · by_cases g : Ages n m G
    · rcases pick_or (p := cand L K b q) (X := overS L G b) (Y := underS L b) (n := n) (fun i hi => fit_of h hi (g.num i (by have := g.len; omega))) with ⟨r, hr⟩ | hno
      · exact ⟨r, 0, fun W hW => pick_ok c d f W h g (H.below hW) (J.below hW) (M.below hW) hq hr, fun W hW => refPick_ok c d f W h g (H.below hW) (J.below hW) (M.below hW) hq hr, .inr (.inr ⟨rfl, h, g, r, rfl, hr⟩)⟩
      · exact ⟨0, 4, fun W hW => pick_none c d f W h g (H.below hW) (J.below hW) (M.below hW) hq hno, fun W hW => refPick_none c d f W h g (H.below hW) (J.below hW) (M.below hW) hq hno, .inr (.inl ⟨rfl, rfl, h, g, hno⟩)⟩
    · rcases ages_not g with hl | ⟨rfl, j, h1, h2, h3⟩
      · exact ⟨0, 1, fun W hW => pick_len c d _ W h (H.below hW) hl, fun W hW => refPick_len c d _ W h (H.below hW) hl, .inl ⟨rfl, rfl⟩⟩
      · exact ⟨0, 1, fun W hW => pick_age c d _ W h (H.below hW) (J.below hW) h1 h2 h3, fun W hW => refPick_age c d _ W h (H.below hW) (J.below hW) h1 h2 h3, .inl ⟨rfl, rfl⟩⟩
  · exact ⟨0, 1, fun W hW => pick_live c _ _ W h (H.below hW), fun W hW => refPick_live c _ _ W h (H.below hW), .inl ⟨rfl, rfl⟩⟩
end Go.Proofs.Ytiolhdilfjomcaa
