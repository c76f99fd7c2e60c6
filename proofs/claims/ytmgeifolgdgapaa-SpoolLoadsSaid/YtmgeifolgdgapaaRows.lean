/-
  No cell of these rows narrows 'for every input' (looked for: loops, veiled, ifaces, maps, wideKeys, modest, calm, conditions, laid).
  DERIVED. THE GIVEN ROWS OF THIS SEAT. 2 by the template 'for every input the law returns true; each argument reads behind the call as it read before'; 0 by the template 'total and deterministic' (their statements: YtmgeifolgdgapaaTotals.lean).
  GIVEN WITH THE SEED: the statements are not yours to turn. If you find one false, say at which input.
  Laid BY PROGRAM, IN A SANDBOX (cutbox-rows.mjs): the forced cells as the released guide's own fill.sh prints them over the translation 619dd2f5a8370980… (all of the seat's roots in one cut). By AI agents, Wed Nov 11 2026. No macro, syntax, notation, axiom, sorry.
-/
import Derived.Test.YtmgeifolgdgapaaChecked
import GoSem.Claim
import GoSem.ClaimJoined
import GoSem.ClaimMapViews
import Derived.JoinedTies
import Derived.KernelRfl
namespace Go.Proofs.Ytmgeifolgdgapaa
/- THE CELL 'sum', in the pinned program and in every row, IS THE sha256 OF THE DUMP (.gsa) THAT YtmgeifolgdgapaaProg.lean LOADS. Nothing in Lean hashes anything: it is a label: what it is worth is what the hold of that sum in a sandbox is worth. -/
noncomputable def Try.pinned : Pinned := { name := "ytmgeifolgdgapaa", sum := "619dd2f5a83709800340d0e509c75a855fea0a9bdd08dd894242d27159e76b1c", checked := Try.checked }
namespace Rows
def none {H : Type} : Left H := { results := [], args := [] }

/-- 'stopcocklaw15.SpoolLoads': WHATEVER THE INPUT: true; the input reads as it did. -/
def spoolLoadsSpec : ChangeSpec := { name := "spoolLoads", fn := fun _ => fun
  | [d1, d2] => { results := [.lit (.bool true)], args := [d1, d2] }
  | _ => none }
def spoolLoadsRow : OpenClaim := { program := "ytmgeifolgdgapaa", sum := "619dd2f5a83709800340d0e509c75a855fea0a9bdd08dd894242d27159e76b1c", func := "stopcock/stopcocklaw15.SpoolLoads", spec := "spoolLoads", unfollowed := true, recurses := true, apart := false }
def SpoolLoadsSaid : Prop := spoolLoadsRow.holds Try.pinned (OpenSpec.ofChange spoolLoadsSpec)

/-- ITS FALSE NEIGHBOUR: 'it returns false'. Refute it at one input. -/
def spoolLoadsWrong : ChangeSpec := { name := "spoolLoads", fn := fun _ => fun
  | [d1, d2] => { results := [.lit (.bool false)], args := [d1, d2] }
  | _ => none }
def SpoolLoadsWrongFalsely : Prop := spoolLoadsRow.holds Try.pinned (OpenSpec.ofChange spoolLoadsWrong)

/-- 'stopcocklaw15.SpoolSectors': WHATEVER THE INPUT: true; the input reads as it did. -/
def spoolSectorsSpec : ChangeSpec := { name := "spoolSectors", fn := fun _ => fun
  | [d] => { results := [.lit (.bool true)], args := [d] }
  | _ => none }
def spoolSectorsRow : OpenClaim := { program := "ytmgeifolgdgapaa", sum := "619dd2f5a83709800340d0e509c75a855fea0a9bdd08dd894242d27159e76b1c", func := "stopcock/stopcocklaw15.SpoolSectors", spec := "spoolSectors", unfollowed := true, recurses := true, apart := false }
def SpoolSectorsSaid : Prop := spoolSectorsRow.holds Try.pinned (OpenSpec.ofChange spoolSectorsSpec)

/-- ITS FALSE NEIGHBOUR: 'it returns false'. Refute it at one input. -/
def spoolSectorsWrong : ChangeSpec := { name := "spoolSectors", fn := fun _ => fun
  | [d] => { results := [.lit (.bool false)], args := [d] }
  | _ => none }
def SpoolSectorsWrongFalsely : Prop := spoolSectorsRow.holds Try.pinned (OpenSpec.ofChange spoolSectorsWrong)

/- THE SECOND FORM. 'bulk': how many values and letters a reading holds, each counted each time it is reached (what is shared counts as often as it is met; a slice's spare places count too). A statement '..UptoSaid' is the law's where the arguments, and the package variables that the reading takes, are together of bulk at most 1048576: NARROWER than '..Said'. Prove '..Said' where nothing that the law and all that it calls make is longer than what came in: it says more and counts as full. Else prove '..UptoSaid'. A law counts once. -/
mutual
def uptoBulk {H : Type} : DataW H → Nat
  | .lit (.string bytes) => bytes.length + 1
  | .lit _ => 1
  | .nil => 1
  | .ptr d => uptoBulk d + 1
  | .slice elems spare => uptoBulkAll elems + uptoBulkAll spare + 1
  | .agg parts => uptoBulkAll parts + 1
  | .iface _ d => uptoBulk d + 1
  | .map entries => uptoBulkEntries entries + 1
  | .held _ => 1
def uptoBulkAll {H : Type} : List (DataW H) → Nat
  | [] => 0
  | d :: r => uptoBulk d + uptoBulkAll r
def uptoBulkEntries {H : Type} : List (Lit × DataW H) → Nat
  | [] => 0
  | x :: r => uptoBulkEntry x + uptoBulkEntries r
def uptoBulkEntry {H : Type} : Lit × DataW H → Nat
  | (.string bytes, d) => bytes.length + uptoBulk d + 1
  | (_, d) => uptoBulk d + 1
 end
def uptoSmall : (H : Type) → List (DataW H) → Bool := fun _ ds => decide (uptoBulkAll ds ≤ 1048576)
def OpenSpec.upto (s : _root_.Go.ChangeSpec) : _root_.Go.OpenSpec := { _root_.Go.OpenSpec.ofChange s with cond := some uptoSmall }

/-- 'stopcocklaw15.SpoolLoads', WHERE WHAT IT READS IS OF BULK AT MOST 1048576: true; the input reads as it did. -/
def spoolLoadsUptoRow : OpenClaim := { program := "ytmgeifolgdgapaa", sum := "619dd2f5a83709800340d0e509c75a855fea0a9bdd08dd894242d27159e76b1c", func := "stopcock/stopcocklaw15.SpoolLoads", spec := "spoolLoads", unfollowed := true, recurses := true, apart := false, narrowed := true }
def SpoolLoadsUptoSaid : Prop := spoolLoadsUptoRow.holds Try.pinned (OpenSpec.upto spoolLoadsSpec)

/-- 'stopcocklaw15.SpoolSectors', WHERE WHAT IT READS IS OF BULK AT MOST 1048576: true; the input reads as it did. -/
def spoolSectorsUptoRow : OpenClaim := { program := "ytmgeifolgdgapaa", sum := "619dd2f5a83709800340d0e509c75a855fea0a9bdd08dd894242d27159e76b1c", func := "stopcock/stopcocklaw15.SpoolSectors", spec := "spoolSectors", unfollowed := true, recurses := true, apart := false, narrowed := true }
def SpoolSectorsUptoSaid : Prop := spoolSectorsUptoRow.holds Try.pinned (OpenSpec.upto spoolSectorsSpec)

end Rows
end Go.Proofs.Ytmgeifolgdgapaa
