/-
  No cell of these rows narrows 'for every input' (looked for: loops, veiled, ifaces, maps, wideKeys, modest, calm, conditions, laid).
  DERIVED. THE GIVEN ROWS OF THIS SEAT. 3 by the template 'for every input the law returns true; each argument reads behind the call as it read before'; 0 by the template 'total and deterministic' (their statements: YthkeedgjhkpgjaaTotals.lean).
  GIVEN WITH THE SEED: the statements are not yours to turn. If you find one false, say at which input.
  Laid BY PROGRAM, IN A SANDBOX (cutbox-rows.mjs): the forced cells as the released guide's own fill.sh prints them over the translation 5554f00182717c88… (all of the seat's roots in one cut). By AI agents, Wed Nov 11 2026. No macro, syntax, notation, axiom, sorry.
-/
import Derived.Test.YthkeedgjhkpgjaaChecked
import GoSem.Claim
import GoSem.ClaimJoined
import GoSem.ClaimMapViews
import Derived.JoinedTies
import Derived.KernelRfl
namespace Go.Proofs.Ythkeedgjhkpgjaa
/- THE CELL 'sum', in the pinned program and in every row, IS THE sha256 OF THE DUMP (.gsa) THAT YthkeedgjhkpgjaaProg.lean LOADS. Nothing in Lean hashes anything: it is a label: what it is worth is what the hold of that sum in a sandbox is worth. -/
noncomputable def Try.pinned : Pinned := { name := "ythkeedgjhkpgjaa", sum := "5554f00182717c88337c7c9632d7ca6776783786a672723aa8d9baa57decfdee", checked := Try.checked }
namespace Rows
def none {H : Type} : Left H := { results := [], args := [] }

/-- 'stopcocklaw06.PlatSizes': WHATEVER THE INPUT: true; the input reads as it did. -/
def platSizesSpec : ChangeSpec := { name := "platSizes", fn := fun _ => fun
  | [d1, d2, d3] => { results := [.lit (.bool true)], args := [d1, d2, d3] }
  | _ => none }
def platSizesRow : OpenClaim := { program := "ythkeedgjhkpgjaa", sum := "5554f00182717c88337c7c9632d7ca6776783786a672723aa8d9baa57decfdee", func := "stopcock/stopcocklaw06.PlatSizes", spec := "platSizes", apart := false }
def PlatSizesSaid : Prop := platSizesRow.holds Try.pinned (OpenSpec.ofChange platSizesSpec)

/-- ITS FALSE NEIGHBOUR: 'it returns false'. Refute it at one input. -/
def platSizesWrong : ChangeSpec := { name := "platSizes", fn := fun _ => fun
  | [d1, d2, d3] => { results := [.lit (.bool false)], args := [d1, d2, d3] }
  | _ => none }
def PlatSizesWrongFalsely : Prop := platSizesRow.holds Try.pinned (OpenSpec.ofChange platSizesWrong)

/-- 'stopcocklaw06.PlatGrows': WHATEVER THE INPUT: true; the input reads as it did. -/
def platGrowsSpec : ChangeSpec := { name := "platGrows", fn := fun _ => fun
  | [d] => { results := [.lit (.bool true)], args := [d] }
  | _ => none }
def platGrowsRow : OpenClaim := { program := "ythkeedgjhkpgjaa", sum := "5554f00182717c88337c7c9632d7ca6776783786a672723aa8d9baa57decfdee", func := "stopcock/stopcocklaw06.PlatGrows", spec := "platGrows", apart := false }
def PlatGrowsSaid : Prop := platGrowsRow.holds Try.pinned (OpenSpec.ofChange platGrowsSpec)

/-- ITS FALSE NEIGHBOUR: 'it returns false'. Refute it at one input. -/
def platGrowsWrong : ChangeSpec := { name := "platGrows", fn := fun _ => fun
  | [d] => { results := [.lit (.bool false)], args := [d] }
  | _ => none }
def PlatGrowsWrongFalsely : Prop := platGrowsRow.holds Try.pinned (OpenSpec.ofChange platGrowsWrong)

/-- 'stopcocklaw06.PlatSteps': WHATEVER THE INPUT: true; the input reads as it did. -/
def platStepsSpec : ChangeSpec := { name := "platSteps", fn := fun _ => fun
  | [d1, d2, d3, d4] => { results := [.lit (.bool true)], args := [d1, d2, d3, d4] }
  | _ => none }
def platStepsRow : OpenClaim := { program := "ythkeedgjhkpgjaa", sum := "5554f00182717c88337c7c9632d7ca6776783786a672723aa8d9baa57decfdee", func := "stopcock/stopcocklaw06.PlatSteps", spec := "platSteps", apart := false }
def PlatStepsSaid : Prop := platStepsRow.holds Try.pinned (OpenSpec.ofChange platStepsSpec)

/-- ITS FALSE NEIGHBOUR: 'it returns false'. Refute it at one input. -/
def platStepsWrong : ChangeSpec := { name := "platSteps", fn := fun _ => fun
  | [d1, d2, d3, d4] => { results := [.lit (.bool false)], args := [d1, d2, d3, d4] }
  | _ => none }
def PlatStepsWrongFalsely : Prop := platStepsRow.holds Try.pinned (OpenSpec.ofChange platStepsWrong)

/- THE SECOND FORM. 'bulk': how many values and letters a reading holds, each counted each time it is reached (what is shared counts as often as it is met; a slice's spare places count too). A statement '..UptoSaid' is the law's where the arguments, and the package variables that the reading takes, are together of bulk at most 1048576: NARROWER than '..Said'. Prove '..Said' where nothing that the law and all that it calls make is longer than what came in: it says more and counts as full. Else prove '..UptoSaid'. A law counts once. -/
mutual
def uptoBulk {H : Type} : DataW H → Nat
  | .lit (.string bytes) => bytes.length + 1
  | .lit _ => 1
  | .nil => 1
  | .ptr d => uptoBulk d + 1
  | .slice elems spare => uptoBulkAll elems + uptoBulkAll spare + 1
  | .agg parts => uptoBulkAll parts + 1
  | .iface _ d => uptoBulk d + 1
  | .map entries => uptoBulkEntries entries + 1
  | .held _ => 1
def uptoBulkAll {H : Type} : List (DataW H) → Nat
  | [] => 0
  | d :: r => uptoBulk d + uptoBulkAll r
def uptoBulkEntries {H : Type} : List (Lit × DataW H) → Nat
  | [] => 0
  | x :: r => uptoBulkEntry x + uptoBulkEntries r
def uptoBulkEntry {H : Type} : Lit × DataW H → Nat
  | (.string bytes, d) => bytes.length + uptoBulk d + 1
  | (_, d) => uptoBulk d + 1
 end
def uptoSmall : (H : Type) → List (DataW H) → Bool := fun _ ds => decide (uptoBulkAll ds ≤ 1048576)
def OpenSpec.upto (s : _root_.Go.ChangeSpec) : _root_.Go.OpenSpec := { _root_.Go.OpenSpec.ofChange s with cond := some uptoSmall }

/-- 'stopcocklaw06.PlatSizes', WHERE WHAT IT READS IS OF BULK AT MOST 1048576: true; the input reads as it did. -/
def platSizesUptoRow : OpenClaim := { program := "ythkeedgjhkpgjaa", sum := "5554f00182717c88337c7c9632d7ca6776783786a672723aa8d9baa57decfdee", func := "stopcock/stopcocklaw06.PlatSizes", spec := "platSizes", apart := false, narrowed := true }
def PlatSizesUptoSaid : Prop := platSizesUptoRow.holds Try.pinned (OpenSpec.upto platSizesSpec)

/-- 'stopcocklaw06.PlatGrows', WHERE WHAT IT READS IS OF BULK AT MOST 1048576: true; the input reads as it did. -/
def platGrowsUptoRow : OpenClaim := { program := "ythkeedgjhkpgjaa", sum := "5554f00182717c88337c7c9632d7ca6776783786a672723aa8d9baa57decfdee", func := "stopcock/stopcocklaw06.PlatGrows", spec := "platGrows", apart := false, narrowed := true }
def PlatGrowsUptoSaid : Prop := platGrowsUptoRow.holds Try.pinned (OpenSpec.upto platGrowsSpec)

/-- 'stopcocklaw06.PlatSteps', WHERE WHAT IT READS IS OF BULK AT MOST 1048576: true; the input reads as it did. -/
def platStepsUptoRow : OpenClaim := { program := "ythkeedgjhkpgjaa", sum := "5554f00182717c88337c7c9632d7ca6776783786a672723aa8d9baa57decfdee", func := "stopcock/stopcocklaw06.PlatSteps", spec := "platSteps", apart := false, narrowed := true }
def PlatStepsUptoSaid : Prop := platStepsUptoRow.holds Try.pinned (OpenSpec.upto platStepsSpec)

end Rows
end Go.Proofs.Ythkeedgjhkpgjaa
