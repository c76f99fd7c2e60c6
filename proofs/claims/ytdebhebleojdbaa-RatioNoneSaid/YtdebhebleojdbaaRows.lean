/-
  No cell of these rows narrows 'for every input' (looked for: loops, veiled, ifaces, maps, wideKeys, modest, calm, conditions, laid).
  DERIVED. THE GIVEN ROWS OF THIS SEAT. 7 by the template 'for every input the law returns true; each argument reads behind the call as it read before'; 0 by the template 'total and deterministic' (their statements: YtdebhebleojdbaaTotals.lean).
  GIVEN WITH THE SEED: the statements are not yours to turn. If you find one false, say at which input.
  Laid BY PROGRAM, IN A SANDBOX (cutbox-rows.mjs): the forced cells as the released guide's own fill.sh prints them over the translation 11de56ae196f8682… (all of the seat's roots in one cut). By AI agents, Wed Nov 11 2026. No macro, syntax, notation, axiom, sorry.
-/
import Derived.Test.YtdebhebleojdbaaChecked
import GoSem.Claim
import GoSem.ClaimJoined
import GoSem.ClaimMapViews
import Derived.JoinedTies
import Derived.KernelRfl
namespace Go.Proofs.Ytdebhebleojdbaa
/- THE CELL 'sum', in the pinned program and in every row, IS THE sha256 OF THE DUMP (.gsa) THAT YtdebhebleojdbaaProg.lean LOADS. Nothing in Lean hashes anything: it is a label: what it is worth is what the hold of that sum in a sandbox is worth. -/
noncomputable def Try.pinned : Pinned := { name := "ytdebhebleojdbaa", sum := "11de56ae196f8682afa0572123b5d4d69f1eed3c23c552d14bce50d5750ce672", checked := Try.checked }
namespace Rows
def none {H : Type} : Left H := { results := [], args := [] }

/-- 'stopcocklaw02.RatioCompares': WHATEVER THE INPUT: true; the input reads as it did. -/
def ratioComparesSpec : ChangeSpec := { name := "ratioCompares", fn := fun _ => fun
  | [d1, d2, d3, d4] => { results := [.lit (.bool true)], args := [d1, d2, d3, d4] }
  | _ => none }
def ratioComparesRow : OpenClaim := { program := "ytdebhebleojdbaa", sum := "11de56ae196f8682afa0572123b5d4d69f1eed3c23c552d14bce50d5750ce672", func := "stopcock/stopcocklaw02.RatioCompares", spec := "ratioCompares", apart := false }
def RatioComparesSaid : Prop := ratioComparesRow.holds Try.pinned (OpenSpec.ofChange ratioComparesSpec)

/-- ITS FALSE NEIGHBOUR: 'it returns false'. Refute it at one input. -/
def ratioComparesWrong : ChangeSpec := { name := "ratioCompares", fn := fun _ => fun
  | [d1, d2, d3, d4] => { results := [.lit (.bool false)], args := [d1, d2, d3, d4] }
  | _ => none }
def RatioComparesWrongFalsely : Prop := ratioComparesRow.holds Try.pinned (OpenSpec.ofChange ratioComparesWrong)

/-- 'stopcocklaw02.RatioScores': WHATEVER THE INPUT: true; the input reads as it did. -/
def ratioScoresSpec : ChangeSpec := { name := "ratioScores", fn := fun _ => fun
  | [d1, d2, d3] => { results := [.lit (.bool true)], args := [d1, d2, d3] }
  | _ => none }
def ratioScoresRow : OpenClaim := { program := "ytdebhebleojdbaa", sum := "11de56ae196f8682afa0572123b5d4d69f1eed3c23c552d14bce50d5750ce672", func := "stopcock/stopcocklaw02.RatioScores", spec := "ratioScores", apart := false }
def RatioScoresSaid : Prop := ratioScoresRow.holds Try.pinned (OpenSpec.ofChange ratioScoresSpec)

/-- ITS FALSE NEIGHBOUR: 'it returns false'. Refute it at one input. -/
def ratioScoresWrong : ChangeSpec := { name := "ratioScores", fn := fun _ => fun
  | [d1, d2, d3] => { results := [.lit (.bool false)], args := [d1, d2, d3] }
  | _ => none }
def RatioScoresWrongFalsely : Prop := ratioScoresRow.holds Try.pinned (OpenSpec.ofChange ratioScoresWrong)

/-- 'stopcocklaw02.RatioBest': WHATEVER THE INPUT: true; the input reads as it did. -/
def ratioBestSpec : ChangeSpec := { name := "ratioBest", fn := fun _ => fun
  | [d1, d2] => { results := [.lit (.bool true)], args := [d1, d2] }
  | _ => none }
def ratioBestRow : OpenClaim := { program := "ytdebhebleojdbaa", sum := "11de56ae196f8682afa0572123b5d4d69f1eed3c23c552d14bce50d5750ce672", func := "stopcock/stopcocklaw02.RatioBest", spec := "ratioBest", apart := false }
def RatioBestSaid : Prop := ratioBestRow.holds Try.pinned (OpenSpec.ofChange ratioBestSpec)

/-- ITS FALSE NEIGHBOUR: 'it returns false'. Refute it at one input. -/
def ratioBestWrong : ChangeSpec := { name := "ratioBest", fn := fun _ => fun
  | [d1, d2] => { results := [.lit (.bool false)], args := [d1, d2] }
  | _ => none }
def RatioBestWrongFalsely : Prop := ratioBestRow.holds Try.pinned (OpenSpec.ofChange ratioBestWrong)

/-- 'stopcocklaw02.RatioOrder': WHATEVER THE INPUT: true; the input reads as it did. -/
def ratioOrderSpec : ChangeSpec := { name := "ratioOrder", fn := fun _ => fun
  | [d1, d2, d3, d4, d5, d6] => { results := [.lit (.bool true)], args := [d1, d2, d3, d4, d5, d6] }
  | _ => none }
def ratioOrderRow : OpenClaim := { program := "ytdebhebleojdbaa", sum := "11de56ae196f8682afa0572123b5d4d69f1eed3c23c552d14bce50d5750ce672", func := "stopcock/stopcocklaw02.RatioOrder", spec := "ratioOrder", apart := false }
def RatioOrderSaid : Prop := ratioOrderRow.holds Try.pinned (OpenSpec.ofChange ratioOrderSpec)

/-- ITS FALSE NEIGHBOUR: 'it returns false'. Refute it at one input. -/
def ratioOrderWrong : ChangeSpec := { name := "ratioOrder", fn := fun _ => fun
  | [d1, d2, d3, d4, d5, d6] => { results := [.lit (.bool false)], args := [d1, d2, d3, d4, d5, d6] }
  | _ => none }
def RatioOrderWrongFalsely : Prop := ratioOrderRow.holds Try.pinned (OpenSpec.ofChange ratioOrderWrong)

/-- 'stopcocklaw02.RatioWorth': WHATEVER THE INPUT: true; the input reads as it did. -/
def ratioWorthSpec : ChangeSpec := { name := "ratioWorth", fn := fun _ => fun
  | [d1, d2, d3, d4, d5] => { results := [.lit (.bool true)], args := [d1, d2, d3, d4, d5] }
  | _ => none }
def ratioWorthRow : OpenClaim := { program := "ytdebhebleojdbaa", sum := "11de56ae196f8682afa0572123b5d4d69f1eed3c23c552d14bce50d5750ce672", func := "stopcock/stopcocklaw02.RatioWorth", spec := "ratioWorth", apart := false }
def RatioWorthSaid : Prop := ratioWorthRow.holds Try.pinned (OpenSpec.ofChange ratioWorthSpec)

/-- ITS FALSE NEIGHBOUR: 'it returns false'. Refute it at one input. -/
def ratioWorthWrong : ChangeSpec := { name := "ratioWorth", fn := fun _ => fun
  | [d1, d2, d3, d4, d5] => { results := [.lit (.bool false)], args := [d1, d2, d3, d4, d5] }
  | _ => none }
def RatioWorthWrongFalsely : Prop := ratioWorthRow.holds Try.pinned (OpenSpec.ofChange ratioWorthWrong)

/-- 'stopcocklaw02.RatioNone': WHATEVER THE INPUT: true; the input reads as it did. -/
def ratioNoneSpec : ChangeSpec := { name := "ratioNone", fn := fun _ => fun
  | [d] => { results := [.lit (.bool true)], args := [d] }
  | _ => none }
def ratioNoneRow : OpenClaim := { program := "ytdebhebleojdbaa", sum := "11de56ae196f8682afa0572123b5d4d69f1eed3c23c552d14bce50d5750ce672", func := "stopcock/stopcocklaw02.RatioNone", spec := "ratioNone", apart := false }
def RatioNoneSaid : Prop := ratioNoneRow.holds Try.pinned (OpenSpec.ofChange ratioNoneSpec)

/-- ITS FALSE NEIGHBOUR: 'it returns false'. Refute it at one input. -/
def ratioNoneWrong : ChangeSpec := { name := "ratioNone", fn := fun _ => fun
  | [d] => { results := [.lit (.bool false)], args := [d] }
  | _ => none }
def RatioNoneWrongFalsely : Prop := ratioNoneRow.holds Try.pinned (OpenSpec.ofChange ratioNoneWrong)

/-- 'stopcocklaw02.RatioScale': WHATEVER THE INPUT: true; the input reads as it did. -/
def ratioScaleSpec : ChangeSpec := { name := "ratioScale", fn := fun _ => fun
  | [d1, d2, d3] => { results := [.lit (.bool true)], args := [d1, d2, d3] }
  | _ => none }
def ratioScaleRow : OpenClaim := { program := "ytdebhebleojdbaa", sum := "11de56ae196f8682afa0572123b5d4d69f1eed3c23c552d14bce50d5750ce672", func := "stopcock/stopcocklaw02.RatioScale", spec := "ratioScale", apart := false }
def RatioScaleSaid : Prop := ratioScaleRow.holds Try.pinned (OpenSpec.ofChange ratioScaleSpec)

/-- ITS FALSE NEIGHBOUR: 'it returns false'. Refute it at one input. -/
def ratioScaleWrong : ChangeSpec := { name := "ratioScale", fn := fun _ => fun
  | [d1, d2, d3] => { results := [.lit (.bool false)], args := [d1, d2, d3] }
  | _ => none }
def RatioScaleWrongFalsely : Prop := ratioScaleRow.holds Try.pinned (OpenSpec.ofChange ratioScaleWrong)

/- THE SECOND FORM. 'bulk': how many values and letters a reading holds, each counted each time it is reached (what is shared counts as often as it is met; a slice's spare places count too). A statement '..UptoSaid' is the law's where the arguments, and the package variables that the reading takes, are together of bulk at most 1048576: NARROWER than '..Said'. Prove '..Said' where nothing that the law and all that it calls make is longer than what came in: it says more and counts as full. Else prove '..UptoSaid'. A law counts once. -/
mutual
def uptoBulk {H : Type} : DataW H → Nat
  | .lit (.string bytes) => bytes.length + 1
  | .lit _ => 1
  | .nil => 1
  | .ptr d => uptoBulk d + 1
  | .slice elems spare => uptoBulkAll elems + uptoBulkAll spare + 1
  | .agg parts => uptoBulkAll parts + 1
  | .iface _ d => uptoBulk d + 1
  | .map entries => uptoBulkEntries entries + 1
  | .held _ => 1
def uptoBulkAll {H : Type} : List (DataW H) → Nat
  | [] => 0
  | d :: r => uptoBulk d + uptoBulkAll r
def uptoBulkEntries {H : Type} : List (Lit × DataW H) → Nat
  | [] => 0
  | x :: r => uptoBulkEntry x + uptoBulkEntries r
def uptoBulkEntry {H : Type} : Lit × DataW H → Nat
  | (.string bytes, d) => bytes.length + uptoBulk d + 1
  | (_, d) => uptoBulk d + 1
 end
def uptoSmall : (H : Type) → List (DataW H) → Bool := fun _ ds => decide (uptoBulkAll ds ≤ 1048576)
def OpenSpec.upto (s : _root_.Go.ChangeSpec) : _root_.Go.OpenSpec := { _root_.Go.OpenSpec.ofChange s with cond := some uptoSmall }

/-- 'stopcocklaw02.RatioCompares', WHERE WHAT IT READS IS OF BULK AT MOST 1048576: true; the input reads as it did. -/
def ratioComparesUptoRow : OpenClaim := { program := "ytdebhebleojdbaa", sum := "11de56ae196f8682afa0572123b5d4d69f1eed3c23c552d14bce50d5750ce672", func := "stopcock/stopcocklaw02.RatioCompares", spec := "ratioCompares", apart := false, narrowed := true }
def RatioComparesUptoSaid : Prop := ratioComparesUptoRow.holds Try.pinned (OpenSpec.upto ratioComparesSpec)

/-- 'stopcocklaw02.RatioScores', WHERE WHAT IT READS IS OF BULK AT MOST 1048576: true; the input reads as it did. -/
def ratioScoresUptoRow : OpenClaim := { program := "ytdebhebleojdbaa", sum := "11de56ae196f8682afa0572123b5d4d69f1eed3c23c552d14bce50d5750ce672", func := "stopcock/stopcocklaw02.RatioScores", spec := "ratioScores", apart := false, narrowed := true }
def RatioScoresUptoSaid : Prop := ratioScoresUptoRow.holds Try.pinned (OpenSpec.upto ratioScoresSpec)

/-- 'stopcocklaw02.RatioBest', WHERE WHAT IT READS IS OF BULK AT MOST 1048576: true; the input reads as it did. -/
def ratioBestUptoRow : OpenClaim := { program := "ytdebhebleojdbaa", sum := "11de56ae196f8682afa0572123b5d4d69f1eed3c23c552d14bce50d5750ce672", func := "stopcock/stopcocklaw02.RatioBest", spec := "ratioBest", apart := false, narrowed := true }
def RatioBestUptoSaid : Prop := ratioBestUptoRow.holds Try.pinned (OpenSpec.upto ratioBestSpec)

/-- 'stopcocklaw02.RatioOrder', WHERE WHAT IT READS IS OF BULK AT MOST 1048576: true; the input reads as it did. -/
def ratioOrderUptoRow : OpenClaim := { program := "ytdebhebleojdbaa", sum := "11de56ae196f8682afa0572123b5d4d69f1eed3c23c552d14bce50d5750ce672", func := "stopcock/stopcocklaw02.RatioOrder", spec := "ratioOrder", apart := false, narrowed := true }
def RatioOrderUptoSaid : Prop := ratioOrderUptoRow.holds Try.pinned (OpenSpec.upto ratioOrderSpec)

/-- 'stopcocklaw02.RatioWorth', WHERE WHAT IT READS IS OF BULK AT MOST 1048576: true; the input reads as it did. -/
def ratioWorthUptoRow : OpenClaim := { program := "ytdebhebleojdbaa", sum := "11de56ae196f8682afa0572123b5d4d69f1eed3c23c552d14bce50d5750ce672", func := "stopcock/stopcocklaw02.RatioWorth", spec := "ratioWorth", apart := false, narrowed := true }
def RatioWorthUptoSaid : Prop := ratioWorthUptoRow.holds Try.pinned (OpenSpec.upto ratioWorthSpec)

/-- 'stopcocklaw02.RatioNone', WHERE WHAT IT READS IS OF BULK AT MOST 1048576: true; the input reads as it did. -/
def ratioNoneUptoRow : OpenClaim := { program := "ytdebhebleojdbaa", sum := "11de56ae196f8682afa0572123b5d4d69f1eed3c23c552d14bce50d5750ce672", func := "stopcock/stopcocklaw02.RatioNone", spec := "ratioNone", apart := false, narrowed := true }
def RatioNoneUptoSaid : Prop := ratioNoneUptoRow.holds Try.pinned (OpenSpec.upto ratioNoneSpec)

/-- 'stopcocklaw02.RatioScale', WHERE WHAT IT READS IS OF BULK AT MOST 1048576: true; the input reads as it did. -/
def ratioScaleUptoRow : OpenClaim := { program := "ytdebhebleojdbaa", sum := "11de56ae196f8682afa0572123b5d4d69f1eed3c23c552d14bce50d5750ce672", func := "stopcock/stopcocklaw02.RatioScale", spec := "ratioScale", apart := false, narrowed := true }
def RatioScaleUptoSaid : Prop := ratioScaleUptoRow.holds Try.pinned (OpenSpec.upto ratioScaleSpec)

end Rows
end Go.Proofs.Ytdebhebleojdbaa
