/-
  No cell of these rows narrows 'for every input' (looked for: loops, veiled, ifaces, maps, wideKeys, modest, calm, conditions, laid).
  DERIVED. THE GIVEN ROWS OF THIS SEAT. 3 by the template 'for every input the law returns true; each argument reads behind the call as it read before'; 0 by the template 'total and deterministic' (their statements: YteccgjhnifdcfaaTotals.lean).
  GIVEN WITH THE SEED: the statements are not yours to turn. If you find one false, say at which input.
  Laid BY PROGRAM, IN A SANDBOX (cutbox-rows.mjs): the forced cells as the released guide's own fill.sh prints them over the translation e4105d5a991c8bb0… (all of the seat's roots in one cut). By AI agents, Wed Nov 11 2026. No macro, syntax, notation, axiom, sorry.
-/
import Derived.Test.YteccgjhnifdcfaaChecked
import GoSem.Claim
import GoSem.ClaimJoined
import GoSem.ClaimMapViews
import Derived.JoinedTies
import Derived.KernelRfl
namespace Go.Proofs.Yteccgjhnifdcfaa
/- THE CELL 'sum', in the pinned program and in every row, IS THE sha256 OF THE DUMP (.gsa) THAT YteccgjhnifdcfaaProg.lean LOADS. Nothing in Lean hashes anything: it is a label: what it is worth is what the hold of that sum in a sandbox is worth. -/
noncomputable def Try.pinned : Pinned := { name := "yteccgjhnifdcfaa", sum := "e4105d5a991c8bb0d0949a87c9e445b7e860cc057217961473df2e41e4496a27", checked := Try.checked }
namespace Rows
def none {H : Type} : Left H := { results := [], args := [] }

/-- 'tammylaw13.CycWays': WHATEVER THE INPUT: true; the input reads as it did. -/
def cycWaysSpec : ChangeSpec := { name := "cycWays", fn := fun _ => fun
  | [d] => { results := [.lit (.bool true)], args := [d] }
  | _ => none }
def cycWaysRow : OpenClaim := { program := "yteccgjhnifdcfaa", sum := "e4105d5a991c8bb0d0949a87c9e445b7e860cc057217961473df2e41e4496a27", func := "tammy/tammylaw13.CycWays", spec := "cycWays", unfollowed := true, recurses := true, apart := false }
def CycWaysSaid : Prop := cycWaysRow.holds Try.pinned (OpenSpec.ofChange cycWaysSpec)

/-- ITS FALSE NEIGHBOUR: 'it returns false'. Refute it at one input. -/
def cycWaysWrong : ChangeSpec := { name := "cycWays", fn := fun _ => fun
  | [d] => { results := [.lit (.bool false)], args := [d] }
  | _ => none }
def CycWaysWrongFalsely : Prop := cycWaysRow.holds Try.pinned (OpenSpec.ofChange cycWaysWrong)

/-- 'tammylaw13.CycNext': WHATEVER THE INPUT: true; the input reads as it did. -/
def cycNextSpec : ChangeSpec := { name := "cycNext", fn := fun _ => fun
  | [d] => { results := [.lit (.bool true)], args := [d] }
  | _ => none }
def cycNextRow : OpenClaim := { program := "yteccgjhnifdcfaa", sum := "e4105d5a991c8bb0d0949a87c9e445b7e860cc057217961473df2e41e4496a27", func := "tammy/tammylaw13.CycNext", spec := "cycNext", unfollowed := true, recurses := true, apart := false }
def CycNextSaid : Prop := cycNextRow.holds Try.pinned (OpenSpec.ofChange cycNextSpec)

/-- ITS FALSE NEIGHBOUR: 'it returns false'. Refute it at one input. -/
def cycNextWrong : ChangeSpec := { name := "cycNext", fn := fun _ => fun
  | [d] => { results := [.lit (.bool false)], args := [d] }
  | _ => none }
def CycNextWrongFalsely : Prop := cycNextRow.holds Try.pinned (OpenSpec.ofChange cycNextWrong)

/-- 'tammylaw13.CycAdds': WHATEVER THE INPUT: true; the input reads as it did. -/
def cycAddsSpec : ChangeSpec := { name := "cycAdds", fn := fun _ => fun
  | [d] => { results := [.lit (.bool true)], args := [d] }
  | _ => none }
def cycAddsRow : OpenClaim := { program := "yteccgjhnifdcfaa", sum := "e4105d5a991c8bb0d0949a87c9e445b7e860cc057217961473df2e41e4496a27", func := "tammy/tammylaw13.CycAdds", spec := "cycAdds", unfollowed := true, recurses := true, apart := false }
def CycAddsSaid : Prop := cycAddsRow.holds Try.pinned (OpenSpec.ofChange cycAddsSpec)

/-- ITS FALSE NEIGHBOUR: 'it returns false'. Refute it at one input. -/
def cycAddsWrong : ChangeSpec := { name := "cycAdds", fn := fun _ => fun
  | [d] => { results := [.lit (.bool false)], args := [d] }
  | _ => none }
def CycAddsWrongFalsely : Prop := cycAddsRow.holds Try.pinned (OpenSpec.ofChange cycAddsWrong)

/- THE SECOND FORM. 'bulk': how many values and letters a reading holds, each counted each time it is reached (what is shared counts as often as it is met; a slice's spare places count too). A statement '..UptoSaid' is the law's where the arguments, and the package variables that the reading takes, are together of bulk at most 1048576: NARROWER than '..Said'. Prove '..Said' where nothing that the law and all that it calls make is longer than what came in: it says more and counts as full. Else prove '..UptoSaid'. A law counts once. -/
mutual
def uptoBulk {H : Type} : DataW H → Nat
  | .lit (.string bytes) => bytes.length + 1
  | .lit _ => 1
  | .nil => 1
  | .ptr d => uptoBulk d + 1
  | .slice elems spare => uptoBulkAll elems + uptoBulkAll spare + 1
  | .agg parts => uptoBulkAll parts + 1
  | .iface _ d => uptoBulk d + 1
  | .map entries => uptoBulkEntries entries + 1
  | .held _ => 1
def uptoBulkAll {H : Type} : List (DataW H) → Nat
  | [] => 0
  | d :: r => uptoBulk d + uptoBulkAll r
def uptoBulkEntries {H : Type} : List (Lit × DataW H) → Nat
  | [] => 0
  | x :: r => uptoBulkEntry x + uptoBulkEntries r
def uptoBulkEntry {H : Type} : Lit × DataW H → Nat
  | (.string bytes, d) => bytes.length + uptoBulk d + 1
  | (_, d) => uptoBulk d + 1
 end
def uptoSmall : (H : Type) → List (DataW H) → Bool := fun _ ds => decide (uptoBulkAll ds ≤ 1048576)
def OpenSpec.upto (s : _root_.Go.ChangeSpec) : _root_.Go.OpenSpec := { _root_.Go.OpenSpec.ofChange s with cond := some uptoSmall }

/-- 'tammylaw13.CycWays', WHERE WHAT IT READS IS OF BULK AT MOST 1048576: true; the input reads as it did. -/
def cycWaysUptoRow : OpenClaim := { program := "yteccgjhnifdcfaa", sum := "e4105d5a991c8bb0d0949a87c9e445b7e860cc057217961473df2e41e4496a27", func := "tammy/tammylaw13.CycWays", spec := "cycWays", unfollowed := true, recurses := true, apart := false, narrowed := true }
def CycWaysUptoSaid : Prop := cycWaysUptoRow.holds Try.pinned (OpenSpec.upto cycWaysSpec)

/-- 'tammylaw13.CycNext', WHERE WHAT IT READS IS OF BULK AT MOST 1048576: true; the input reads as it did. -/
def cycNextUptoRow : OpenClaim := { program := "yteccgjhnifdcfaa", sum := "e4105d5a991c8bb0d0949a87c9e445b7e860cc057217961473df2e41e4496a27", func := "tammy/tammylaw13.CycNext", spec := "cycNext", unfollowed := true, recurses := true, apart := false, narrowed := true }
def CycNextUptoSaid : Prop := cycNextUptoRow.holds Try.pinned (OpenSpec.upto cycNextSpec)

/-- 'tammylaw13.CycAdds', WHERE WHAT IT READS IS OF BULK AT MOST 1048576: true; the input reads as it did. -/
def cycAddsUptoRow : OpenClaim := { program := "yteccgjhnifdcfaa", sum := "e4105d5a991c8bb0d0949a87c9e445b7e860cc057217961473df2e41e4496a27", func := "tammy/tammylaw13.CycAdds", spec := "cycAdds", unfollowed := true, recurses := true, apart := false, narrowed := true }
def CycAddsUptoSaid : Prop := cycAddsUptoRow.holds Try.pinned (OpenSpec.upto cycAddsSpec)

end Rows
end Go.Proofs.Yteccgjhnifdcfaa
