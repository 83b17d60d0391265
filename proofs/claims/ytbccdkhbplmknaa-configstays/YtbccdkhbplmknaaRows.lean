/-
  NARROWER THAN 'FOR EVERY INPUT', by the rows' own cells (each row's printed sentence says how): TreeNodes: loops · TreeMeets: loops · ConfigStays: loops.
  DERIVED. THE GIVEN ROWS OF THIS SEAT. 4 by the template 'for every input the law returns true; each argument reads behind the call as it read before'; 0 by the template 'total and deterministic' (their statements: YtbccdkhbplmknaaTotals.lean).
  GIVEN WITH THE SEED: the statements are not yours to turn. If you find one false, say at which input.
  Laid BY PROGRAM, IN A SANDBOX (cutbox-rows.mjs): the forced cells as the released guide's own fill.sh prints them over the translation 876f12514a0c0db5… (all of the seat's roots in one cut). By AI agents, Wed Nov 11 2026. No macro, syntax, notation, axiom, sorry.
-/
import Derived.Test.YtbccdkhbplmknaaChecked
import GoSem.Claim
import GoSem.ClaimJoined
import GoSem.ClaimMapViews
import Derived.JoinedTies
import Derived.KernelRfl
namespace Go.Proofs.Ytbccdkhbplmknaa
/- THE CELL 'sum', in the pinned program and in every row, IS THE sha256 OF THE DUMP (.gsa) THAT YtbccdkhbplmknaaProg.lean LOADS. Nothing in Lean hashes anything: it is a label: what it is worth is what the hold of that sum in a sandbox is worth. -/
noncomputable def Try.pinned : Pinned := { name := "ytbccdkhbplmknaa", sum := "876f12514a0c0db5fc78052260f73f2db97a77242a86c87c9d5fbef4d6ad153d", checked := Try.checked }
namespace Rows
def none {H : Type} : Left H := { results := [], args := [] }

/-- 'tumbrellaw09.TreeNodes': WHATEVER THE INPUT: true; the input reads as it did. -/
def treeNodesSpec : ChangeSpec := { name := "treeNodes", fn := fun _ => fun
  | [d1, d2] => { results := [.lit (.bool true)], args := [d1, d2] }
  | _ => none }
def treeNodesRow : OpenClaim := { program := "ytbccdkhbplmknaa", sum := "876f12514a0c0db5fc78052260f73f2db97a77242a86c87c9d5fbef4d6ad153d", func := "tumbrel/tumbrellaw09.TreeNodes", spec := "treeNodes", unfollowed := true, recurses := true, loops := true, apart := false }
def TreeNodesSaid : Prop := treeNodesRow.holds Try.pinned (OpenSpec.ofChange treeNodesSpec)

/-- ITS FALSE NEIGHBOUR: 'it returns false'. Refute it at one input. -/
def treeNodesWrong : ChangeSpec := { name := "treeNodes", fn := fun _ => fun
  | [d1, d2] => { results := [.lit (.bool false)], args := [d1, d2] }
  | _ => none }
def TreeNodesWrongFalsely : Prop := treeNodesRow.holds Try.pinned (OpenSpec.ofChange treeNodesWrong)

/-- 'tumbrellaw09.TreeMeets': WHATEVER THE INPUT: true; the input reads as it did. -/
def treeMeetsSpec : ChangeSpec := { name := "treeMeets", fn := fun _ => fun
  | [d1, d2, d3] => { results := [.lit (.bool true)], args := [d1, d2, d3] }
  | _ => none }
def treeMeetsRow : OpenClaim := { program := "ytbccdkhbplmknaa", sum := "876f12514a0c0db5fc78052260f73f2db97a77242a86c87c9d5fbef4d6ad153d", func := "tumbrel/tumbrellaw09.TreeMeets", spec := "treeMeets", unfollowed := true, recurses := true, loops := true, apart := false }
def TreeMeetsSaid : Prop := treeMeetsRow.holds Try.pinned (OpenSpec.ofChange treeMeetsSpec)

/-- ITS FALSE NEIGHBOUR: 'it returns false'. Refute it at one input. -/
def treeMeetsWrong : ChangeSpec := { name := "treeMeets", fn := fun _ => fun
  | [d1, d2, d3] => { results := [.lit (.bool false)], args := [d1, d2, d3] }
  | _ => none }
def TreeMeetsWrongFalsely : Prop := treeMeetsRow.holds Try.pinned (OpenSpec.ofChange treeMeetsWrong)

/-- 'tumbrellaw10.ConfigMoves': WHATEVER THE INPUT: true; the input reads as it did. -/
def configMovesSpec : ChangeSpec := { name := "configMoves", fn := fun _ => fun
  | [d1, d2, d3, d4] => { results := [.lit (.bool true)], args := [d1, d2, d3, d4] }
  | _ => none }
def configMovesRow : OpenClaim := { program := "ytbccdkhbplmknaa", sum := "876f12514a0c0db5fc78052260f73f2db97a77242a86c87c9d5fbef4d6ad153d", func := "tumbrel/tumbrellaw10.ConfigMoves", spec := "configMoves", recurses := true, apart := false }
def ConfigMovesSaid : Prop := configMovesRow.holds Try.pinned (OpenSpec.ofChange configMovesSpec)

/-- ITS FALSE NEIGHBOUR: 'it returns false'. Refute it at one input. -/
def configMovesWrong : ChangeSpec := { name := "configMoves", fn := fun _ => fun
  | [d1, d2, d3, d4] => { results := [.lit (.bool false)], args := [d1, d2, d3, d4] }
  | _ => none }
def ConfigMovesWrongFalsely : Prop := configMovesRow.holds Try.pinned (OpenSpec.ofChange configMovesWrong)

/-- 'tumbrellaw10.ConfigStays': WHATEVER THE INPUT: true; the input reads as it did. -/
def configStaysSpec : ChangeSpec := { name := "configStays", fn := fun _ => fun
  | [d1, d2] => { results := [.lit (.bool true)], args := [d1, d2] }
  | _ => none }
def configStaysRow : OpenClaim := { program := "ytbccdkhbplmknaa", sum := "876f12514a0c0db5fc78052260f73f2db97a77242a86c87c9d5fbef4d6ad153d", func := "tumbrel/tumbrellaw10.ConfigStays", spec := "configStays", unfollowed := true, recurses := true, loops := true, apart := false }
def ConfigStaysSaid : Prop := configStaysRow.holds Try.pinned (OpenSpec.ofChange configStaysSpec)

/-- ITS FALSE NEIGHBOUR: 'it returns false'. Refute it at one input. -/
def configStaysWrong : ChangeSpec := { name := "configStays", fn := fun _ => fun
  | [d1, d2] => { results := [.lit (.bool false)], args := [d1, d2] }
  | _ => none }
def ConfigStaysWrongFalsely : Prop := configStaysRow.holds Try.pinned (OpenSpec.ofChange configStaysWrong)

/- THE SECOND FORM. 'bulk': how many values and letters a reading holds, each counted each time it is reached (what is shared counts as often as it is met; a slice's spare places count too). A statement '..UptoSaid' is the law's where the arguments, and the package variables that the reading takes, are together of bulk at most 1048576: NARROWER than '..Said'. Prove '..Said' where nothing that the law and all that it calls make is longer than what came in: it says more and counts as full. Else prove '..UptoSaid'. A law counts once. -/
mutual
def uptoBulk {H : Type} : DataW H → Nat
  | .lit (.string bytes) => bytes.length + 1
  | .lit _ => 1
  | .nil => 1
  | .ptr d => uptoBulk d + 1
  | .slice elems spare => uptoBulkAll elems + uptoBulkAll spare + 1
  | .agg parts => uptoBulkAll parts + 1
  | .iface _ d => uptoBulk d + 1
  | .map entries => uptoBulkEntries entries + 1
  | .held _ => 1
def uptoBulkAll {H : Type} : List (DataW H) → Nat
  | [] => 0
  | d :: r => uptoBulk d + uptoBulkAll r
def uptoBulkEntries {H : Type} : List (Lit × DataW H) → Nat
  | [] => 0
  | x :: r => uptoBulkEntry x + uptoBulkEntries r
def uptoBulkEntry {H : Type} : Lit × DataW H → Nat
  | (.string bytes, d) => bytes.length + uptoBulk d + 1
  | (_, d) => uptoBulk d + 1
 end
def uptoSmall : (H : Type) → List (DataW H) → Bool := fun _ ds => decide (uptoBulkAll ds ≤ 1048576)
def OpenSpec.upto (s : _root_.Go.ChangeSpec) : _root_.Go.OpenSpec := { _root_.Go.OpenSpec.ofChange s with cond := some uptoSmall }

/-- 'tumbrellaw09.TreeNodes', WHERE WHAT IT READS IS OF BULK AT MOST 1048576: true; the input reads as it did. -/
def treeNodesUptoRow : OpenClaim := { program := "ytbccdkhbplmknaa", sum := "876f12514a0c0db5fc78052260f73f2db97a77242a86c87c9d5fbef4d6ad153d", func := "tumbrel/tumbrellaw09.TreeNodes", spec := "treeNodes", unfollowed := true, recurses := true, loops := true, apart := false, narrowed := true }
def TreeNodesUptoSaid : Prop := treeNodesUptoRow.holds Try.pinned (OpenSpec.upto treeNodesSpec)

/-- 'tumbrellaw09.TreeMeets', WHERE WHAT IT READS IS OF BULK AT MOST 1048576: true; the input reads as it did. -/
def treeMeetsUptoRow : OpenClaim := { program := "ytbccdkhbplmknaa", sum := "876f12514a0c0db5fc78052260f73f2db97a77242a86c87c9d5fbef4d6ad153d", func := "tumbrel/tumbrellaw09.TreeMeets", spec := "treeMeets", unfollowed := true, recurses := true, loops := true, apart := false, narrowed := true }
def TreeMeetsUptoSaid : Prop := treeMeetsUptoRow.holds Try.pinned (OpenSpec.upto treeMeetsSpec)

/-- 'tumbrellaw10.ConfigMoves', WHERE WHAT IT READS IS OF BULK AT MOST 1048576: true; the input reads as it did. -/
def configMovesUptoRow : OpenClaim := { program := "ytbccdkhbplmknaa", sum := "876f12514a0c0db5fc78052260f73f2db97a77242a86c87c9d5fbef4d6ad153d", func := "tumbrel/tumbrellaw10.ConfigMoves", spec := "configMoves", recurses := true, apart := false, narrowed := true }
def ConfigMovesUptoSaid : Prop := configMovesUptoRow.holds Try.pinned (OpenSpec.upto configMovesSpec)

/-- 'tumbrellaw10.ConfigStays', WHERE WHAT IT READS IS OF BULK AT MOST 1048576: true; the input reads as it did. -/
def configStaysUptoRow : OpenClaim := { program := "ytbccdkhbplmknaa", sum := "876f12514a0c0db5fc78052260f73f2db97a77242a86c87c9d5fbef4d6ad153d", func := "tumbrel/tumbrellaw10.ConfigStays", spec := "configStays", unfollowed := true, recurses := true, loops := true, apart := false, narrowed := true }
def ConfigStaysUptoSaid : Prop := configStaysUptoRow.holds Try.pinned (OpenSpec.upto configStaysSpec)

end Rows
end Go.Proofs.Ytbccdkhbplmknaa
