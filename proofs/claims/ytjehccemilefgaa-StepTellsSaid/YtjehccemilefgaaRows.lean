/-
  No cell of these rows narrows 'for every input' (looked for: loops, veiled, ifaces, maps, wideKeys, modest, calm, conditions, laid).
  DERIVED. THE GIVEN ROWS OF THIS SEAT. 6 by the template 'for every input the law returns true; each argument reads behind the call as it read before'; 0 by the template 'total and deterministic' (their statements: YtjehccemilefgaaTotals.lean).
  GIVEN WITH THE SEED: the statements are not yours to turn. If you find one false, say at which input.
  Laid BY PROGRAM, IN A SANDBOX (cutbox-rows.mjs): the forced cells as the released guide's own fill.sh prints them over the translation 1b13bf8b3a4510cd… (all of the seat's roots in one cut). By AI agents, Wed Nov 11 2026. No macro, syntax, notation, axiom, sorry.
-/
import Derived.Test.YtjehccemilefgaaChecked
import GoSem.Claim
import GoSem.ClaimJoined
import GoSem.ClaimMapViews
import Derived.JoinedTies
import Derived.KernelRfl
namespace Go.Proofs.Ytjehccemilefgaa
/- THE CELL 'sum', in the pinned program and in every row, IS THE sha256 OF THE DUMP (.gsa) THAT YtjehccemilefgaaProg.lean LOADS. Nothing in Lean hashes anything: it is a label: what it is worth is what the hold of that sum in a sandbox is worth. -/
noncomputable def Try.pinned : Pinned := { name := "ytjehccemilefgaa", sum := "1b13bf8b3a4510cd9c09ff6d9ae5d068abc341b8dcea726a6c8a6559e8f2c895", checked := Try.checked }
namespace Rows
def none {H : Type} : Left H := { results := [], args := [] }

/-- 'tammylaw10.StepTells': WHATEVER THE INPUT: true; the input reads as it did. -/
def stepTellsSpec : ChangeSpec := { name := "stepTells", fn := fun _ => fun
  | [d] => { results := [.lit (.bool true)], args := [d] }
  | _ => none }
def stepTellsRow : OpenClaim := { program := "ytjehccemilefgaa", sum := "1b13bf8b3a4510cd9c09ff6d9ae5d068abc341b8dcea726a6c8a6559e8f2c895", func := "tammy/tammylaw10.StepTells", spec := "stepTells", unfollowed := true, recurses := true, plainKeys := false, apart := false }
def StepTellsSaid : Prop := stepTellsRow.holds Try.pinned (OpenSpec.ofChange stepTellsSpec)

/-- ITS FALSE NEIGHBOUR: 'it returns false'. Refute it at one input. -/
def stepTellsWrong : ChangeSpec := { name := "stepTells", fn := fun _ => fun
  | [d] => { results := [.lit (.bool false)], args := [d] }
  | _ => none }
def StepTellsWrongFalsely : Prop := stepTellsRow.holds Try.pinned (OpenSpec.ofChange stepTellsWrong)

/-- 'tammylaw10.StepAll': WHATEVER THE INPUT: true; the input reads as it did. -/
def stepAllSpec : ChangeSpec := { name := "stepAll", fn := fun _ => fun
  | [d] => { results := [.lit (.bool true)], args := [d] }
  | _ => none }
def stepAllRow : OpenClaim := { program := "ytjehccemilefgaa", sum := "1b13bf8b3a4510cd9c09ff6d9ae5d068abc341b8dcea726a6c8a6559e8f2c895", func := "tammy/tammylaw10.StepAll", spec := "stepAll", unfollowed := true, recurses := true, plainKeys := false, apart := false }
def StepAllSaid : Prop := stepAllRow.holds Try.pinned (OpenSpec.ofChange stepAllSpec)

/-- ITS FALSE NEIGHBOUR: 'it returns false'. Refute it at one input. -/
def stepAllWrong : ChangeSpec := { name := "stepAll", fn := fun _ => fun
  | [d] => { results := [.lit (.bool false)], args := [d] }
  | _ => none }
def StepAllWrongFalsely : Prop := stepAllRow.holds Try.pinned (OpenSpec.ofChange stepAllWrong)

/-- 'tammylaw10.StepSides': WHATEVER THE INPUT: true; the input reads as it did. -/
def stepSidesSpec : ChangeSpec := { name := "stepSides", fn := fun _ => fun
  | [d] => { results := [.lit (.bool true)], args := [d] }
  | _ => none }
def stepSidesRow : OpenClaim := { program := "ytjehccemilefgaa", sum := "1b13bf8b3a4510cd9c09ff6d9ae5d068abc341b8dcea726a6c8a6559e8f2c895", func := "tammy/tammylaw10.StepSides", spec := "stepSides", unfollowed := true, recurses := true, plainKeys := false, apart := false }
def StepSidesSaid : Prop := stepSidesRow.holds Try.pinned (OpenSpec.ofChange stepSidesSpec)

/-- ITS FALSE NEIGHBOUR: 'it returns false'. Refute it at one input. -/
def stepSidesWrong : ChangeSpec := { name := "stepSides", fn := fun _ => fun
  | [d] => { results := [.lit (.bool false)], args := [d] }
  | _ => none }
def StepSidesWrongFalsely : Prop := stepSidesRow.holds Try.pinned (OpenSpec.ofChange stepSidesWrong)

/-- 'tammylaw10.StepEnds': WHATEVER THE INPUT: true; the input reads as it did. -/
def stepEndsSpec : ChangeSpec := { name := "stepEnds", fn := fun _ => fun
  | [d] => { results := [.lit (.bool true)], args := [d] }
  | _ => none }
def stepEndsRow : OpenClaim := { program := "ytjehccemilefgaa", sum := "1b13bf8b3a4510cd9c09ff6d9ae5d068abc341b8dcea726a6c8a6559e8f2c895", func := "tammy/tammylaw10.StepEnds", spec := "stepEnds", unfollowed := true, recurses := true, plainKeys := false, apart := false }
def StepEndsSaid : Prop := stepEndsRow.holds Try.pinned (OpenSpec.ofChange stepEndsSpec)

/-- ITS FALSE NEIGHBOUR: 'it returns false'. Refute it at one input. -/
def stepEndsWrong : ChangeSpec := { name := "stepEnds", fn := fun _ => fun
  | [d] => { results := [.lit (.bool false)], args := [d] }
  | _ => none }
def StepEndsWrongFalsely : Prop := stepEndsRow.holds Try.pinned (OpenSpec.ofChange stepEndsWrong)

/-- 'tammylaw10.StepMade': WHATEVER THE INPUT: true; the input reads as it did. -/
def stepMadeSpec : ChangeSpec := { name := "stepMade", fn := fun _ => fun
  | [d] => { results := [.lit (.bool true)], args := [d] }
  | _ => none }
def stepMadeRow : OpenClaim := { program := "ytjehccemilefgaa", sum := "1b13bf8b3a4510cd9c09ff6d9ae5d068abc341b8dcea726a6c8a6559e8f2c895", func := "tammy/tammylaw10.StepMade", spec := "stepMade", unfollowed := true, recurses := true, plainKeys := false, apart := false }
def StepMadeSaid : Prop := stepMadeRow.holds Try.pinned (OpenSpec.ofChange stepMadeSpec)

/-- ITS FALSE NEIGHBOUR: 'it returns false'. Refute it at one input. -/
def stepMadeWrong : ChangeSpec := { name := "stepMade", fn := fun _ => fun
  | [d] => { results := [.lit (.bool false)], args := [d] }
  | _ => none }
def StepMadeWrongFalsely : Prop := stepMadeRow.holds Try.pinned (OpenSpec.ofChange stepMadeWrong)

/-- 'tammylaw10.StepSided': WHATEVER THE INPUT: true; the input reads as it did. -/
def stepSidedSpec : ChangeSpec := { name := "stepSided", fn := fun _ => fun
  | [d1, d2, d3] => { results := [.lit (.bool true)], args := [d1, d2, d3] }
  | _ => none }
def stepSidedRow : OpenClaim := { program := "ytjehccemilefgaa", sum := "1b13bf8b3a4510cd9c09ff6d9ae5d068abc341b8dcea726a6c8a6559e8f2c895", func := "tammy/tammylaw10.StepSided", spec := "stepSided", unfollowed := true, recurses := true, plainKeys := false, apart := false }
def StepSidedSaid : Prop := stepSidedRow.holds Try.pinned (OpenSpec.ofChange stepSidedSpec)

/-- ITS FALSE NEIGHBOUR: 'it returns false'. Refute it at one input. -/
def stepSidedWrong : ChangeSpec := { name := "stepSided", fn := fun _ => fun
  | [d1, d2, d3] => { results := [.lit (.bool false)], args := [d1, d2, d3] }
  | _ => none }
def StepSidedWrongFalsely : Prop := stepSidedRow.holds Try.pinned (OpenSpec.ofChange stepSidedWrong)

/- THE SECOND FORM. 'bulk': how many values and letters a reading holds, each counted each time it is reached (what is shared counts as often as it is met; a slice's spare places count too). A statement '..UptoSaid' is the law's where the arguments, and the package variables that the reading takes, are together of bulk at most 1048576: NARROWER than '..Said'. Prove '..Said' where nothing that the law and all that it calls make is longer than what came in: it says more and counts as full. Else prove '..UptoSaid'. A law counts once. -/
mutual
def uptoBulk {H : Type} : DataW H → Nat
  | .lit (.string bytes) => bytes.length + 1
  | .lit _ => 1
  | .nil => 1
  | .ptr d => uptoBulk d + 1
  | .slice elems spare => uptoBulkAll elems + uptoBulkAll spare + 1
  | .agg parts => uptoBulkAll parts + 1
  | .iface _ d => uptoBulk d + 1
  | .map entries => uptoBulkEntries entries + 1
  | .held _ => 1
def uptoBulkAll {H : Type} : List (DataW H) → Nat
  | [] => 0
  | d :: r => uptoBulk d + uptoBulkAll r
def uptoBulkEntries {H : Type} : List (Lit × DataW H) → Nat
  | [] => 0
  | x :: r => uptoBulkEntry x + uptoBulkEntries r
def uptoBulkEntry {H : Type} : Lit × DataW H → Nat
  | (.string bytes, d) => bytes.length + uptoBulk d + 1
  | (_, d) => uptoBulk d + 1
 end
def uptoSmall : (H : Type) → List (DataW H) → Bool := fun _ ds => decide (uptoBulkAll ds ≤ 1048576)
def OpenSpec.upto (s : _root_.Go.ChangeSpec) : _root_.Go.OpenSpec := { _root_.Go.OpenSpec.ofChange s with cond := some uptoSmall }

/-- 'tammylaw10.StepTells', WHERE WHAT IT READS IS OF BULK AT MOST 1048576: true; the input reads as it did. -/
def stepTellsUptoRow : OpenClaim := { program := "ytjehccemilefgaa", sum := "1b13bf8b3a4510cd9c09ff6d9ae5d068abc341b8dcea726a6c8a6559e8f2c895", func := "tammy/tammylaw10.StepTells", spec := "stepTells", unfollowed := true, recurses := true, plainKeys := false, apart := false, narrowed := true }
def StepTellsUptoSaid : Prop := stepTellsUptoRow.holds Try.pinned (OpenSpec.upto stepTellsSpec)

/-- 'tammylaw10.StepAll', WHERE WHAT IT READS IS OF BULK AT MOST 1048576: true; the input reads as it did. -/
def stepAllUptoRow : OpenClaim := { program := "ytjehccemilefgaa", sum := "1b13bf8b3a4510cd9c09ff6d9ae5d068abc341b8dcea726a6c8a6559e8f2c895", func := "tammy/tammylaw10.StepAll", spec := "stepAll", unfollowed := true, recurses := true, plainKeys := false, apart := false, narrowed := true }
def StepAllUptoSaid : Prop := stepAllUptoRow.holds Try.pinned (OpenSpec.upto stepAllSpec)

/-- 'tammylaw10.StepSides', WHERE WHAT IT READS IS OF BULK AT MOST 1048576: true; the input reads as it did. -/
def stepSidesUptoRow : OpenClaim := { program := "ytjehccemilefgaa", sum := "1b13bf8b3a4510cd9c09ff6d9ae5d068abc341b8dcea726a6c8a6559e8f2c895", func := "tammy/tammylaw10.StepSides", spec := "stepSides", unfollowed := true, recurses := true, plainKeys := false, apart := false, narrowed := true }
def StepSidesUptoSaid : Prop := stepSidesUptoRow.holds Try.pinned (OpenSpec.upto stepSidesSpec)

/-- 'tammylaw10.StepEnds', WHERE WHAT IT READS IS OF BULK AT MOST 1048576: true; the input reads as it did. -/
def stepEndsUptoRow : OpenClaim := { program := "ytjehccemilefgaa", sum := "1b13bf8b3a4510cd9c09ff6d9ae5d068abc341b8dcea726a6c8a6559e8f2c895", func := "tammy/tammylaw10.StepEnds", spec := "stepEnds", unfollowed := true, recurses := true, plainKeys := false, apart := false, narrowed := true }
def StepEndsUptoSaid : Prop := stepEndsUptoRow.holds Try.pinned (OpenSpec.upto stepEndsSpec)

/-- 'tammylaw10.StepMade', WHERE WHAT IT READS IS OF BULK AT MOST 1048576: true; the input reads as it did. -/
def stepMadeUptoRow : OpenClaim := { program := "ytjehccemilefgaa", sum := "1b13bf8b3a4510cd9c09ff6d9ae5d068abc341b8dcea726a6c8a6559e8f2c895", func := "tammy/tammylaw10.StepMade", spec := "stepMade", unfollowed := true, recurses := true, plainKeys := false, apart := false, narrowed := true }
def StepMadeUptoSaid : Prop := stepMadeUptoRow.holds Try.pinned (OpenSpec.upto stepMadeSpec)

/-- 'tammylaw10.StepSided', WHERE WHAT IT READS IS OF BULK AT MOST 1048576: true; the input reads as it did. -/
def stepSidedUptoRow : OpenClaim := { program := "ytjehccemilefgaa", sum := "1b13bf8b3a4510cd9c09ff6d9ae5d068abc341b8dcea726a6c8a6559e8f2c895", func := "tammy/tammylaw10.StepSided", spec := "stepSided", unfollowed := true, recurses := true, plainKeys := false, apart := false, narrowed := true }
def StepSidedUptoSaid : Prop := stepSidedUptoRow.holds Try.pinned (OpenSpec.upto stepSidedSpec)

end Rows
end Go.Proofs.Ytjehccemilefgaa
