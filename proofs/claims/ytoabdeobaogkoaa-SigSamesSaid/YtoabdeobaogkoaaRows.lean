/-
  No cell of these rows narrows 'for every input' (looked for: loops, veiled, ifaces, maps, wideKeys, modest, calm, conditions, laid).
  DERIVED. THE GIVEN ROWS OF THIS SEAT. 5 by the template 'for every input the law returns true; each argument reads behind the call as it read before'; 0 by the template 'total and deterministic' (their statements: YtoabdeobaogkoaaTotals.lean).
  GIVEN WITH THE SEED: the statements are not yours to turn. If you find one false, say at which input.
  Laid BY PROGRAM, IN A SANDBOX (cutbox-rows.mjs): the forced cells as the released guide's own fill.sh prints them over the translation f91a1bf22fb81d71… (all of the seat's roots in one cut). By AI agents, Wed Nov 11 2026. No macro, syntax, notation, axiom, sorry.
-/
import Derived.Test.YtoabdeobaogkoaaChecked
import GoSem.Claim
import GoSem.ClaimJoined
import GoSem.ClaimMapViews
import Derived.JoinedTies
import Derived.KernelRfl
namespace Go.Proofs.Ytoabdeobaogkoaa
/- THE CELL 'sum', in the pinned program and in every row, IS THE sha256 OF THE DUMP (.gsa) THAT YtoabdeobaogkoaaProg.lean LOADS. Nothing in Lean hashes anything: it is a label: what it is worth is what the hold of that sum in a sandbox is worth. -/
noncomputable def Try.pinned : Pinned := { name := "ytoabdeobaogkoaa", sum := "f91a1bf22fb81d714556ee63c1632598214bd81984223f56743c2ea6413e88c7", checked := Try.checked }
namespace Rows
def none {H : Type} : Left H := { results := [], args := [] }

/-- 'tammylaw01.SigAdds': WHATEVER THE INPUT: true; the input reads as it did. -/
def sigAddsSpec : ChangeSpec := { name := "sigAdds", fn := fun _ => fun
  | [d1, d2] => { results := [.lit (.bool true)], args := [d1, d2] }
  | _ => none }
def sigAddsRow : OpenClaim := { program := "ytoabdeobaogkoaa", sum := "f91a1bf22fb81d714556ee63c1632598214bd81984223f56743c2ea6413e88c7", func := "tammy/tammylaw01.SigAdds", spec := "sigAdds", unfollowed := true, recurses := true, apart := false }
def SigAddsSaid : Prop := sigAddsRow.holds Try.pinned (OpenSpec.ofChange sigAddsSpec)

/-- ITS FALSE NEIGHBOUR: 'it returns false'. Refute it at one input. -/
def sigAddsWrong : ChangeSpec := { name := "sigAdds", fn := fun _ => fun
  | [d1, d2] => { results := [.lit (.bool false)], args := [d1, d2] }
  | _ => none }
def SigAddsWrongFalsely : Prop := sigAddsRow.holds Try.pinned (OpenSpec.ofChange sigAddsWrong)

/-- 'tammylaw01.SigStays': WHATEVER THE INPUT: true; the input reads as it did. -/
def sigStaysSpec : ChangeSpec := { name := "sigStays", fn := fun _ => fun
  | [d1, d2] => { results := [.lit (.bool true)], args := [d1, d2] }
  | _ => none }
def sigStaysRow : OpenClaim := { program := "ytoabdeobaogkoaa", sum := "f91a1bf22fb81d714556ee63c1632598214bd81984223f56743c2ea6413e88c7", func := "tammy/tammylaw01.SigStays", spec := "sigStays", unfollowed := true, recurses := true, apart := false }
def SigStaysSaid : Prop := sigStaysRow.holds Try.pinned (OpenSpec.ofChange sigStaysSpec)

/-- ITS FALSE NEIGHBOUR: 'it returns false'. Refute it at one input. -/
def sigStaysWrong : ChangeSpec := { name := "sigStays", fn := fun _ => fun
  | [d1, d2] => { results := [.lit (.bool false)], args := [d1, d2] }
  | _ => none }
def SigStaysWrongFalsely : Prop := sigStaysRow.holds Try.pinned (OpenSpec.ofChange sigStaysWrong)

/-- 'tammylaw01.SigVaries': WHATEVER THE INPUT: true; the input reads as it did. -/
def sigVariesSpec : ChangeSpec := { name := "sigVaries", fn := fun _ => fun
  | [d1, d2, d3] => { results := [.lit (.bool true)], args := [d1, d2, d3] }
  | _ => none }
def sigVariesRow : OpenClaim := { program := "ytoabdeobaogkoaa", sum := "f91a1bf22fb81d714556ee63c1632598214bd81984223f56743c2ea6413e88c7", func := "tammy/tammylaw01.SigVaries", spec := "sigVaries", unfollowed := true, recurses := true, apart := false }
def SigVariesSaid : Prop := sigVariesRow.holds Try.pinned (OpenSpec.ofChange sigVariesSpec)

/-- ITS FALSE NEIGHBOUR: 'it returns false'. Refute it at one input. -/
def sigVariesWrong : ChangeSpec := { name := "sigVaries", fn := fun _ => fun
  | [d1, d2, d3] => { results := [.lit (.bool false)], args := [d1, d2, d3] }
  | _ => none }
def SigVariesWrongFalsely : Prop := sigVariesRow.holds Try.pinned (OpenSpec.ofChange sigVariesWrong)

/-- 'tammylaw01.SigNames': WHATEVER THE INPUT: true; the input reads as it did. -/
def sigNamesSpec : ChangeSpec := { name := "sigNames", fn := fun _ => fun
  | [d1, d2] => { results := [.lit (.bool true)], args := [d1, d2] }
  | _ => none }
def sigNamesRow : OpenClaim := { program := "ytoabdeobaogkoaa", sum := "f91a1bf22fb81d714556ee63c1632598214bd81984223f56743c2ea6413e88c7", func := "tammy/tammylaw01.SigNames", spec := "sigNames", unfollowed := true, recurses := true, apart := false }
def SigNamesSaid : Prop := sigNamesRow.holds Try.pinned (OpenSpec.ofChange sigNamesSpec)

/-- ITS FALSE NEIGHBOUR: 'it returns false'. Refute it at one input. -/
def sigNamesWrong : ChangeSpec := { name := "sigNames", fn := fun _ => fun
  | [d1, d2] => { results := [.lit (.bool false)], args := [d1, d2] }
  | _ => none }
def SigNamesWrongFalsely : Prop := sigNamesRow.holds Try.pinned (OpenSpec.ofChange sigNamesWrong)

/-- 'tammylaw01.SigSames': WHATEVER THE INPUT: true; the input reads as it did. -/
def sigSamesSpec : ChangeSpec := { name := "sigSames", fn := fun _ => fun
  | [d1, d2, d3] => { results := [.lit (.bool true)], args := [d1, d2, d3] }
  | _ => none }
def sigSamesRow : OpenClaim := { program := "ytoabdeobaogkoaa", sum := "f91a1bf22fb81d714556ee63c1632598214bd81984223f56743c2ea6413e88c7", func := "tammy/tammylaw01.SigSames", spec := "sigSames", unfollowed := true, recurses := true, apart := false }
def SigSamesSaid : Prop := sigSamesRow.holds Try.pinned (OpenSpec.ofChange sigSamesSpec)

/-- ITS FALSE NEIGHBOUR: 'it returns false'. Refute it at one input. -/
def sigSamesWrong : ChangeSpec := { name := "sigSames", fn := fun _ => fun
  | [d1, d2, d3] => { results := [.lit (.bool false)], args := [d1, d2, d3] }
  | _ => none }
def SigSamesWrongFalsely : Prop := sigSamesRow.holds Try.pinned (OpenSpec.ofChange sigSamesWrong)

/- THE SECOND FORM. 'bulk': how many values and letters a reading holds, each counted each time it is reached (what is shared counts as often as it is met; a slice's spare places count too). A statement '..UptoSaid' is the law's where the arguments, and the package variables that the reading takes, are together of bulk at most 1048576: NARROWER than '..Said'. Prove '..Said' where nothing that the law and all that it calls make is longer than what came in: it says more and counts as full. Else prove '..UptoSaid'. A law counts once. -/
mutual
def uptoBulk {H : Type} : DataW H → Nat
  | .lit (.string bytes) => bytes.length + 1
  | .lit _ => 1
  | .nil => 1
  | .ptr d => uptoBulk d + 1
  | .slice elems spare => uptoBulkAll elems + uptoBulkAll spare + 1
  | .agg parts => uptoBulkAll parts + 1
  | .iface _ d => uptoBulk d + 1
  | .map entries => uptoBulkEntries entries + 1
  | .held _ => 1
def uptoBulkAll {H : Type} : List (DataW H) → Nat
  | [] => 0
  | d :: r => uptoBulk d + uptoBulkAll r
def uptoBulkEntries {H : Type} : List (Lit × DataW H) → Nat
  | [] => 0
  | x :: r => uptoBulkEntry x + uptoBulkEntries r
def uptoBulkEntry {H : Type} : Lit × DataW H → Nat
  | (.string bytes, d) => bytes.length + uptoBulk d + 1
  | (_, d) => uptoBulk d + 1
 end
def uptoSmall : (H : Type) → List (DataW H) → Bool := fun _ ds => decide (uptoBulkAll ds ≤ 1048576)
def OpenSpec.upto (s : _root_.Go.ChangeSpec) : _root_.Go.OpenSpec := { _root_.Go.OpenSpec.ofChange s with cond := some uptoSmall }

/-- 'tammylaw01.SigAdds', WHERE WHAT IT READS IS OF BULK AT MOST 1048576: true; the input reads as it did. -/
def sigAddsUptoRow : OpenClaim := { program := "ytoabdeobaogkoaa", sum := "f91a1bf22fb81d714556ee63c1632598214bd81984223f56743c2ea6413e88c7", func := "tammy/tammylaw01.SigAdds", spec := "sigAdds", unfollowed := true, recurses := true, apart := false, narrowed := true }
def SigAddsUptoSaid : Prop := sigAddsUptoRow.holds Try.pinned (OpenSpec.upto sigAddsSpec)

/-- 'tammylaw01.SigStays', WHERE WHAT IT READS IS OF BULK AT MOST 1048576: true; the input reads as it did. -/
def sigStaysUptoRow : OpenClaim := { program := "ytoabdeobaogkoaa", sum := "f91a1bf22fb81d714556ee63c1632598214bd81984223f56743c2ea6413e88c7", func := "tammy/tammylaw01.SigStays", spec := "sigStays", unfollowed := true, recurses := true, apart := false, narrowed := true }
def SigStaysUptoSaid : Prop := sigStaysUptoRow.holds Try.pinned (OpenSpec.upto sigStaysSpec)

/-- 'tammylaw01.SigVaries', WHERE WHAT IT READS IS OF BULK AT MOST 1048576: true; the input reads as it did. -/
def sigVariesUptoRow : OpenClaim := { program := "ytoabdeobaogkoaa", sum := "f91a1bf22fb81d714556ee63c1632598214bd81984223f56743c2ea6413e88c7", func := "tammy/tammylaw01.SigVaries", spec := "sigVaries", unfollowed := true, recurses := true, apart := false, narrowed := true }
def SigVariesUptoSaid : Prop := sigVariesUptoRow.holds Try.pinned (OpenSpec.upto sigVariesSpec)

/-- 'tammylaw01.SigNames', WHERE WHAT IT READS IS OF BULK AT MOST 1048576: true; the input reads as it did. -/
def sigNamesUptoRow : OpenClaim := { program := "ytoabdeobaogkoaa", sum := "f91a1bf22fb81d714556ee63c1632598214bd81984223f56743c2ea6413e88c7", func := "tammy/tammylaw01.SigNames", spec := "sigNames", unfollowed := true, recurses := true, apart := false, narrowed := true }
def SigNamesUptoSaid : Prop := sigNamesUptoRow.holds Try.pinned (OpenSpec.upto sigNamesSpec)

/-- 'tammylaw01.SigSames', WHERE WHAT IT READS IS OF BULK AT MOST 1048576: true; the input reads as it did. -/
def sigSamesUptoRow : OpenClaim := { program := "ytoabdeobaogkoaa", sum := "f91a1bf22fb81d714556ee63c1632598214bd81984223f56743c2ea6413e88c7", func := "tammy/tammylaw01.SigSames", spec := "sigSames", unfollowed := true, recurses := true, apart := false, narrowed := true }
def SigSamesUptoSaid : Prop := sigSamesUptoRow.holds Try.pinned (OpenSpec.upto sigSamesSpec)

end Rows
end Go.Proofs.Ytoabdeobaogkoaa
