/-
  No cell of these rows narrows 'for every input' (looked for: loops, veiled, ifaces, maps, wideKeys, modest, calm, conditions, laid).
  DERIVED. THE GIVEN ROWS OF THIS SEAT. 5 by the template 'for every input the law returns true; each argument reads behind the call as it read before'; 0 by the template 'total and deterministic' (their statements: YtiolhdilfjomcaaTotals.lean).
  GIVEN WITH THE SEED: the statements are not yours to turn. If you find one false, say at which input.
  Laid BY PROGRAM, IN A SANDBOX (cutbox-rows.mjs): the forced cells as the released guide's own fill.sh prints them over the translation 4cbb54e7365fc077… (all of the seat's roots in one cut). By AI agents, Wed Nov 11 2026. No macro, syntax, notation, axiom, sorry.
-/
import Derived.Test.YtiolhdilfjomcaaChecked
import GoSem.Claim
import GoSem.ClaimJoined
import GoSem.ClaimMapViews
import Derived.JoinedTies
import Derived.KernelRfl
namespace Go.Proofs.Ytiolhdilfjomcaa
/- THE CELL 'sum', in the pinned program and in every row, IS THE sha256 OF THE DUMP (.gsa) THAT YtiolhdilfjomcaaProg.lean LOADS. Nothing in Lean hashes anything: it is a label: what it is worth is what the hold of that sum in a sandbox is worth. -/
noncomputable def Try.pinned : Pinned := { name := "ytiolhdilfjomcaa", sum := "4cbb54e7365fc077e37d7364516ddaa725173cef7fe2f2c80c09c14cd654878f", checked := Try.checked }
namespace Rows
def none {H : Type} : Left H := { results := [], args := [] }

/-- 'stopcocklaw12.ChooserPicks': WHATEVER THE INPUT: true; the input reads as it did. -/
def chooserPicksSpec : ChangeSpec := { name := "chooserPicks", fn := fun _ => fun
  | [d1, d2, d3, d4] => { results := [.lit (.bool true)], args := [d1, d2, d3, d4] }
  | _ => none }
def chooserPicksRow : OpenClaim := { program := "ytiolhdilfjomcaa", sum := "4cbb54e7365fc077e37d7364516ddaa725173cef7fe2f2c80c09c14cd654878f", func := "stopcock/stopcocklaw12.ChooserPicks", spec := "chooserPicks", apart := false }
def ChooserPicksSaid : Prop := chooserPicksRow.holds Try.pinned (OpenSpec.ofChange chooserPicksSpec)

/-- ITS FALSE NEIGHBOUR: 'it returns false'. Refute it at one input. -/
def chooserPicksWrong : ChangeSpec := { name := "chooserPicks", fn := fun _ => fun
  | [d1, d2, d3, d4] => { results := [.lit (.bool false)], args := [d1, d2, d3, d4] }
  | _ => none }
def ChooserPicksWrongFalsely : Prop := chooserPicksRow.holds Try.pinned (OpenSpec.ofChange chooserPicksWrong)

/-- 'stopcocklaw12.ChooserGains': WHATEVER THE INPUT: true; the input reads as it did. -/
def chooserGainsSpec : ChangeSpec := { name := "chooserGains", fn := fun _ => fun
  | [d1, d2, d3] => { results := [.lit (.bool true)], args := [d1, d2, d3] }
  | _ => none }
def chooserGainsRow : OpenClaim := { program := "ytiolhdilfjomcaa", sum := "4cbb54e7365fc077e37d7364516ddaa725173cef7fe2f2c80c09c14cd654878f", func := "stopcock/stopcocklaw12.ChooserGains", spec := "chooserGains", apart := false }
def ChooserGainsSaid : Prop := chooserGainsRow.holds Try.pinned (OpenSpec.ofChange chooserGainsSpec)

/-- ITS FALSE NEIGHBOUR: 'it returns false'. Refute it at one input. -/
def chooserGainsWrong : ChangeSpec := { name := "chooserGains", fn := fun _ => fun
  | [d1, d2, d3] => { results := [.lit (.bool false)], args := [d1, d2, d3] }
  | _ => none }
def ChooserGainsWrongFalsely : Prop := chooserGainsRow.holds Try.pinned (OpenSpec.ofChange chooserGainsWrong)

/-- 'stopcocklaw12.ChooserFinds': WHATEVER THE INPUT: true; the input reads as it did. -/
def chooserFindsSpec : ChangeSpec := { name := "chooserFinds", fn := fun _ => fun
  | [d1, d2, d3, d4] => { results := [.lit (.bool true)], args := [d1, d2, d3, d4] }
  | _ => none }
def chooserFindsRow : OpenClaim := { program := "ytiolhdilfjomcaa", sum := "4cbb54e7365fc077e37d7364516ddaa725173cef7fe2f2c80c09c14cd654878f", func := "stopcock/stopcocklaw12.ChooserFinds", spec := "chooserFinds", apart := false }
def ChooserFindsSaid : Prop := chooserFindsRow.holds Try.pinned (OpenSpec.ofChange chooserFindsSpec)

/-- ITS FALSE NEIGHBOUR: 'it returns false'. Refute it at one input. -/
def chooserFindsWrong : ChangeSpec := { name := "chooserFinds", fn := fun _ => fun
  | [d1, d2, d3, d4] => { results := [.lit (.bool false)], args := [d1, d2, d3, d4] }
  | _ => none }
def ChooserFindsWrongFalsely : Prop := chooserFindsRow.holds Try.pinned (OpenSpec.ofChange chooserFindsWrong)

/-- 'stopcocklaw12.ChooserSpread': WHATEVER THE INPUT: true; the input reads as it did. -/
def chooserSpreadSpec : ChangeSpec := { name := "chooserSpread", fn := fun _ => fun
  | [d1, d2, d3, d4] => { results := [.lit (.bool true)], args := [d1, d2, d3, d4] }
  | _ => none }
def chooserSpreadRow : OpenClaim := { program := "ytiolhdilfjomcaa", sum := "4cbb54e7365fc077e37d7364516ddaa725173cef7fe2f2c80c09c14cd654878f", func := "stopcock/stopcocklaw12.ChooserSpread", spec := "chooserSpread", apart := false }
def ChooserSpreadSaid : Prop := chooserSpreadRow.holds Try.pinned (OpenSpec.ofChange chooserSpreadSpec)

/-- ITS FALSE NEIGHBOUR: 'it returns false'. Refute it at one input. -/
def chooserSpreadWrong : ChangeSpec := { name := "chooserSpread", fn := fun _ => fun
  | [d1, d2, d3, d4] => { results := [.lit (.bool false)], args := [d1, d2, d3, d4] }
  | _ => none }
def ChooserSpreadWrongFalsely : Prop := chooserSpreadRow.holds Try.pinned (OpenSpec.ofChange chooserSpreadWrong)

/-- 'stopcocklaw12.ChooserElder': WHATEVER THE INPUT: true; the input reads as it did. -/
def chooserElderSpec : ChangeSpec := { name := "chooserElder", fn := fun _ => fun
  | [d1, d2, d3, d4, d5] => { results := [.lit (.bool true)], args := [d1, d2, d3, d4, d5] }
  | _ => none }
def chooserElderRow : OpenClaim := { program := "ytiolhdilfjomcaa", sum := "4cbb54e7365fc077e37d7364516ddaa725173cef7fe2f2c80c09c14cd654878f", func := "stopcock/stopcocklaw12.ChooserElder", spec := "chooserElder", apart := false }
def ChooserElderSaid : Prop := chooserElderRow.holds Try.pinned (OpenSpec.ofChange chooserElderSpec)

/-- ITS FALSE NEIGHBOUR: 'it returns false'. Refute it at one input. -/
def chooserElderWrong : ChangeSpec := { name := "chooserElder", fn := fun _ => fun
  | [d1, d2, d3, d4, d5] => { results := [.lit (.bool false)], args := [d1, d2, d3, d4, d5] }
  | _ => none }
def ChooserElderWrongFalsely : Prop := chooserElderRow.holds Try.pinned (OpenSpec.ofChange chooserElderWrong)

/- THE SECOND FORM. 'bulk': how many values and letters a reading holds, each counted each time it is reached (what is shared counts as often as it is met; a slice's spare places count too). A statement '..UptoSaid' is the law's where the arguments, and the package variables that the reading takes, are together of bulk at most 1048576: NARROWER than '..Said'. Prove '..Said' where nothing that the law and all that it calls make is longer than what came in: it says more and counts as full. Else prove '..UptoSaid'. A law counts once. -/
mutual
def uptoBulk {H : Type} : DataW H → Nat
  | .lit (.string bytes) => bytes.length + 1
  | .lit _ => 1
  | .nil => 1
  | .ptr d => uptoBulk d + 1
  | .slice elems spare => uptoBulkAll elems + uptoBulkAll spare + 1
  | .agg parts => uptoBulkAll parts + 1
  | .iface _ d => uptoBulk d + 1
  | .map entries => uptoBulkEntries entries + 1
  | .held _ => 1
def uptoBulkAll {H : Type} : List (DataW H) → Nat
  | [] => 0
  | d :: r => uptoBulk d + uptoBulkAll r
def uptoBulkEntries {H : Type} : List (Lit × DataW H) → Nat
  | [] => 0
  | x :: r => uptoBulkEntry x + uptoBulkEntries r
def uptoBulkEntry {H : Type} : Lit × DataW H → Nat
  | (.string bytes, d) => bytes.length + uptoBulk d + 1
  | (_, d) => uptoBulk d + 1
 end
def uptoSmall : (H : Type) → List (DataW H) → Bool := fun _ ds => decide (uptoBulkAll ds ≤ 1048576)
def OpenSpec.upto (s : _root_.Go.ChangeSpec) : _root_.Go.OpenSpec := { _root_.Go.OpenSpec.ofChange s with cond := some uptoSmall }

/-- 'stopcocklaw12.ChooserPicks', WHERE WHAT IT READS IS OF BULK AT MOST 1048576: true; the input reads as it did. -/
def chooserPicksUptoRow : OpenClaim := { program := "ytiolhdilfjomcaa", sum := "4cbb54e7365fc077e37d7364516ddaa725173cef7fe2f2c80c09c14cd654878f", func := "stopcock/stopcocklaw12.ChooserPicks", spec := "chooserPicks", apart := false, narrowed := true }
def ChooserPicksUptoSaid : Prop := chooserPicksUptoRow.holds Try.pinned (OpenSpec.upto chooserPicksSpec)

/-- 'stopcocklaw12.ChooserGains', WHERE WHAT IT READS IS OF BULK AT MOST 1048576: true; the input reads as it did. -/
def chooserGainsUptoRow : OpenClaim := { program := "ytiolhdilfjomcaa", sum := "4cbb54e7365fc077e37d7364516ddaa725173cef7fe2f2c80c09c14cd654878f", func := "stopcock/stopcocklaw12.ChooserGains", spec := "chooserGains", apart := false, narrowed := true }
def ChooserGainsUptoSaid : Prop := chooserGainsUptoRow.holds Try.pinned (OpenSpec.upto chooserGainsSpec)

/-- 'stopcocklaw12.ChooserFinds', WHERE WHAT IT READS IS OF BULK AT MOST 1048576: true; the input reads as it did. -/
def chooserFindsUptoRow : OpenClaim := { program := "ytiolhdilfjomcaa", sum := "4cbb54e7365fc077e37d7364516ddaa725173cef7fe2f2c80c09c14cd654878f", func := "stopcock/stopcocklaw12.ChooserFinds", spec := "chooserFinds", apart := false, narrowed := true }
def ChooserFindsUptoSaid : Prop := chooserFindsUptoRow.holds Try.pinned (OpenSpec.upto chooserFindsSpec)

/-- 'stopcocklaw12.ChooserSpread', WHERE WHAT IT READS IS OF BULK AT MOST 1048576: true; the input reads as it did. -/
def chooserSpreadUptoRow : OpenClaim := { program := "ytiolhdilfjomcaa", sum := "4cbb54e7365fc077e37d7364516ddaa725173cef7fe2f2c80c09c14cd654878f", func := "stopcock/stopcocklaw12.ChooserSpread", spec := "chooserSpread", apart := false, narrowed := true }
def ChooserSpreadUptoSaid : Prop := chooserSpreadUptoRow.holds Try.pinned (OpenSpec.upto chooserSpreadSpec)

/-- 'stopcocklaw12.ChooserElder', WHERE WHAT IT READS IS OF BULK AT MOST 1048576: true; the input reads as it did. -/
def chooserElderUptoRow : OpenClaim := { program := "ytiolhdilfjomcaa", sum := "4cbb54e7365fc077e37d7364516ddaa725173cef7fe2f2c80c09c14cd654878f", func := "stopcock/stopcocklaw12.ChooserElder", spec := "chooserElder", apart := false, narrowed := true }
def ChooserElderUptoSaid : Prop := chooserElderUptoRow.holds Try.pinned (OpenSpec.upto chooserElderSpec)

end Rows
end Go.Proofs.Ytiolhdilfjomcaa
