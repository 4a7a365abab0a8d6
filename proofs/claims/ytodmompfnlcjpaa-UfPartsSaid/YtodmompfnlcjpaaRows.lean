/-
  No cell of these rows narrows 'for every input' (looked for: loops, veiled, ifaces, maps, wideKeys, modest, calm, conditions, laid).
  DERIVED. THE GIVEN ROWS OF THIS SEAT. 5 by the template 'for every input the law returns true; each argument reads behind the call as it read before'; 0 by the template 'total and deterministic' (their statements: YtodmompfnlcjpaaTotals.lean).
  GIVEN WITH THE SEED: the statements are not yours to turn. If you find one false, say at which input.
  Laid BY PROGRAM, IN A SANDBOX (cutbox-rows.mjs): the forced cells as the released guide's own fill.sh prints them over the translation bf51ba6ae963a857… (all of the seat's roots in one cut). By AI agents, Wed Nov 11 2026. No macro, syntax, notation, axiom, sorry.
-/
import Derived.Test.YtodmompfnlcjpaaChecked
import GoSem.Claim
import GoSem.ClaimJoined
import GoSem.ClaimMapViews
import Derived.JoinedTies
import Derived.KernelRfl
namespace Go.Proofs.Ytodmompfnlcjpaa
/- THE CELL 'sum', in the pinned program and in every row, IS THE sha256 OF THE DUMP (.gsa) THAT YtodmompfnlcjpaaProg.lean LOADS. Nothing in Lean hashes anything: it is a label: what it is worth is what the hold of that sum in a sandbox is worth. -/
noncomputable def Try.pinned : Pinned := { name := "ytodmompfnlcjpaa", sum := "bf51ba6ae963a8577af060aefbd905bd654d792cb7a1075386001b29d87b666c", checked := Try.checked }
namespace Rows
def none {H : Type} : Left H := { results := [], args := [] }

/-- 'tammylaw05.UfJoins': WHATEVER THE INPUT: true; the input reads as it did. -/
def ufJoinsSpec : ChangeSpec := { name := "ufJoins", fn := fun _ => fun
  | [d] => { results := [.lit (.bool true)], args := [d] }
  | _ => none }
def ufJoinsRow : OpenClaim := { program := "ytodmompfnlcjpaa", sum := "bf51ba6ae963a8577af060aefbd905bd654d792cb7a1075386001b29d87b666c", func := "tammy/tammylaw05.UfJoins", spec := "ufJoins", unfollowed := true, recurses := true, apart := false }
def UfJoinsSaid : Prop := ufJoinsRow.holds Try.pinned (OpenSpec.ofChange ufJoinsSpec)

/-- ITS FALSE NEIGHBOUR: 'it returns false'. Refute it at one input. -/
def ufJoinsWrong : ChangeSpec := { name := "ufJoins", fn := fun _ => fun
  | [d] => { results := [.lit (.bool false)], args := [d] }
  | _ => none }
def UfJoinsWrongFalsely : Prop := ufJoinsRow.holds Try.pinned (OpenSpec.ofChange ufJoinsWrong)

/-- 'tammylaw05.UfParts': WHATEVER THE INPUT: true; the input reads as it did. -/
def ufPartsSpec : ChangeSpec := { name := "ufParts", fn := fun _ => fun
  | [d1, d2] => { results := [.lit (.bool true)], args := [d1, d2] }
  | _ => none }
def ufPartsRow : OpenClaim := { program := "ytodmompfnlcjpaa", sum := "bf51ba6ae963a8577af060aefbd905bd654d792cb7a1075386001b29d87b666c", func := "tammy/tammylaw05.UfParts", spec := "ufParts", unfollowed := true, recurses := true, apart := false }
def UfPartsSaid : Prop := ufPartsRow.holds Try.pinned (OpenSpec.ofChange ufPartsSpec)

/-- ITS FALSE NEIGHBOUR: 'it returns false'. Refute it at one input. -/
def ufPartsWrong : ChangeSpec := { name := "ufParts", fn := fun _ => fun
  | [d1, d2] => { results := [.lit (.bool false)], args := [d1, d2] }
  | _ => none }
def UfPartsWrongFalsely : Prop := ufPartsRow.holds Try.pinned (OpenSpec.ofChange ufPartsWrong)

/-- 'tammylaw05.UfBack': WHATEVER THE INPUT: true; the input reads as it did. -/
def ufBackSpec : ChangeSpec := { name := "ufBack", fn := fun _ => fun
  | [d] => { results := [.lit (.bool true)], args := [d] }
  | _ => none }
def ufBackRow : OpenClaim := { program := "ytodmompfnlcjpaa", sum := "bf51ba6ae963a8577af060aefbd905bd654d792cb7a1075386001b29d87b666c", func := "tammy/tammylaw05.UfBack", spec := "ufBack", unfollowed := true, recurses := true, apart := false }
def UfBackSaid : Prop := ufBackRow.holds Try.pinned (OpenSpec.ofChange ufBackSpec)

/-- ITS FALSE NEIGHBOUR: 'it returns false'. Refute it at one input. -/
def ufBackWrong : ChangeSpec := { name := "ufBack", fn := fun _ => fun
  | [d] => { results := [.lit (.bool false)], args := [d] }
  | _ => none }
def UfBackWrongFalsely : Prop := ufBackRow.holds Try.pinned (OpenSpec.ofChange ufBackWrong)

/-- 'tammylaw05.UfThree': WHATEVER THE INPUT: true; the input reads as it did. -/
def ufThreeSpec : ChangeSpec := { name := "ufThree", fn := fun _ => fun
  | [d] => { results := [.lit (.bool true)], args := [d] }
  | _ => none }
def ufThreeRow : OpenClaim := { program := "ytodmompfnlcjpaa", sum := "bf51ba6ae963a8577af060aefbd905bd654d792cb7a1075386001b29d87b666c", func := "tammy/tammylaw05.UfThree", spec := "ufThree", unfollowed := true, recurses := true, apart := false }
def UfThreeSaid : Prop := ufThreeRow.holds Try.pinned (OpenSpec.ofChange ufThreeSpec)

/-- ITS FALSE NEIGHBOUR: 'it returns false'. Refute it at one input. -/
def ufThreeWrong : ChangeSpec := { name := "ufThree", fn := fun _ => fun
  | [d] => { results := [.lit (.bool false)], args := [d] }
  | _ => none }
def UfThreeWrongFalsely : Prop := ufThreeRow.holds Try.pinned (OpenSpec.ofChange ufThreeWrong)

/-- 'tammylaw05.UfAdds': WHATEVER THE INPUT: true; the input reads as it did. -/
def ufAddsSpec : ChangeSpec := { name := "ufAdds", fn := fun _ => fun
  | [d1, d2, d3] => { results := [.lit (.bool true)], args := [d1, d2, d3] }
  | _ => none }
def ufAddsRow : OpenClaim := { program := "ytodmompfnlcjpaa", sum := "bf51ba6ae963a8577af060aefbd905bd654d792cb7a1075386001b29d87b666c", func := "tammy/tammylaw05.UfAdds", spec := "ufAdds", unfollowed := true, recurses := true, apart := false }
def UfAddsSaid : Prop := ufAddsRow.holds Try.pinned (OpenSpec.ofChange ufAddsSpec)

/-- ITS FALSE NEIGHBOUR: 'it returns false'. Refute it at one input. -/
def ufAddsWrong : ChangeSpec := { name := "ufAdds", fn := fun _ => fun
  | [d1, d2, d3] => { results := [.lit (.bool false)], args := [d1, d2, d3] }
  | _ => none }
def UfAddsWrongFalsely : Prop := ufAddsRow.holds Try.pinned (OpenSpec.ofChange ufAddsWrong)

/- THE SECOND FORM. 'bulk': how many values and letters a reading holds, each counted each time it is reached (what is shared counts as often as it is met; a slice's spare places count too). A statement '..UptoSaid' is the law's where the arguments, and the package variables that the reading takes, are together of bulk at most 1048576: NARROWER than '..Said'. Prove '..Said' where nothing that the law and all that it calls make is longer than what came in: it says more and counts as full. Else prove '..UptoSaid'. A law counts once. -/
mutual
def uptoBulk {H : Type} : DataW H → Nat
  | .lit (.string bytes) => bytes.length + 1
  | .lit _ => 1
  | .nil => 1
  | .ptr d => uptoBulk d + 1
  | .slice elems spare => uptoBulkAll elems + uptoBulkAll spare + 1
  | .agg parts => uptoBulkAll parts + 1
  | .iface _ d => uptoBulk d + 1
  | .map entries => uptoBulkEntries entries + 1
  | .held _ => 1
def uptoBulkAll {H : Type} : List (DataW H) → Nat
  | [] => 0
  | d :: r => uptoBulk d + uptoBulkAll r
def uptoBulkEntries {H : Type} : List (Lit × DataW H) → Nat
  | [] => 0
  | x :: r => uptoBulkEntry x + uptoBulkEntries r
def uptoBulkEntry {H : Type} : Lit × DataW H → Nat
  | (.string bytes, d) => bytes.length + uptoBulk d + 1
  | (_, d) => uptoBulk d + 1
 end
def uptoSmall : (H : Type) → List (DataW H) → Bool := fun _ ds => decide (uptoBulkAll ds ≤ 1048576)
def OpenSpec.upto (s : _root_.Go.ChangeSpec) : _root_.Go.OpenSpec := { _root_.Go.OpenSpec.ofChange s with cond := some uptoSmall }

/-- 'tammylaw05.UfJoins', WHERE WHAT IT READS IS OF BULK AT MOST 1048576: true; the input reads as it did. -/
def ufJoinsUptoRow : OpenClaim := { program := "ytodmompfnlcjpaa", sum := "bf51ba6ae963a8577af060aefbd905bd654d792cb7a1075386001b29d87b666c", func := "tammy/tammylaw05.UfJoins", spec := "ufJoins", unfollowed := true, recurses := true, apart := false, narrowed := true }
def UfJoinsUptoSaid : Prop := ufJoinsUptoRow.holds Try.pinned (OpenSpec.upto ufJoinsSpec)

/-- 'tammylaw05.UfParts', WHERE WHAT IT READS IS OF BULK AT MOST 1048576: true; the input reads as it did. -/
def ufPartsUptoRow : OpenClaim := { program := "ytodmompfnlcjpaa", sum := "bf51ba6ae963a8577af060aefbd905bd654d792cb7a1075386001b29d87b666c", func := "tammy/tammylaw05.UfParts", spec := "ufParts", unfollowed := true, recurses := true, apart := false, narrowed := true }
def UfPartsUptoSaid : Prop := ufPartsUptoRow.holds Try.pinned (OpenSpec.upto ufPartsSpec)

/-- 'tammylaw05.UfBack', WHERE WHAT IT READS IS OF BULK AT MOST 1048576: true; the input reads as it did. -/
def ufBackUptoRow : OpenClaim := { program := "ytodmompfnlcjpaa", sum := "bf51ba6ae963a8577af060aefbd905bd654d792cb7a1075386001b29d87b666c", func := "tammy/tammylaw05.UfBack", spec := "ufBack", unfollowed := true, recurses := true, apart := false, narrowed := true }
def UfBackUptoSaid : Prop := ufBackUptoRow.holds Try.pinned (OpenSpec.upto ufBackSpec)

/-- 'tammylaw05.UfThree', WHERE WHAT IT READS IS OF BULK AT MOST 1048576: true; the input reads as it did. -/
def ufThreeUptoRow : OpenClaim := { program := "ytodmompfnlcjpaa", sum := "bf51ba6ae963a8577af060aefbd905bd654d792cb7a1075386001b29d87b666c", func := "tammy/tammylaw05.UfThree", spec := "ufThree", unfollowed := true, recurses := true, apart := false, narrowed := true }
def UfThreeUptoSaid : Prop := ufThreeUptoRow.holds Try.pinned (OpenSpec.upto ufThreeSpec)

/-- 'tammylaw05.UfAdds', WHERE WHAT IT READS IS OF BULK AT MOST 1048576: true; the input reads as it did. -/
def ufAddsUptoRow : OpenClaim := { program := "ytodmompfnlcjpaa", sum := "bf51ba6ae963a8577af060aefbd905bd654d792cb7a1075386001b29d87b666c", func := "tammy/tammylaw05.UfAdds", spec := "ufAdds", unfollowed := true, recurses := true, apart := false, narrowed := true }
def UfAddsUptoSaid : Prop := ufAddsUptoRow.holds Try.pinned (OpenSpec.upto ufAddsSpec)

end Rows
end Go.Proofs.Ytodmompfnlcjpaa
