/-
  No cell of these rows narrows 'for every input' (looked for: loops, veiled, ifaces, maps, wideKeys, modest, calm, conditions, laid).
  DERIVED. THE GIVEN ROWS OF THIS SEAT. 11 by the template 'for every input the law returns true; each argument reads behind the call as it read before'; 0 by the template 'total and deterministic' (their statements: YtnifmfdlocgefaaGreatTotals.lean).
  GIVEN WITH THE SEED: the statements are not yours to turn. If you find one false, say at which input.
  Laid BY PROGRAM, IN A SANDBOX (cutbox-rows.mjs): the forced cells as the released guide's own fill.sh prints them over the translation 63c41396ded72ef3… (all of the seat's roots in one cut). By AI agents, Wed Nov 11 2026. No macro, syntax, notation, axiom, sorry.
-/
import Derived.Test.YtnifmfdlocgefaaGreatChecked
import GoSem.Claim
import GoSem.ClaimJoined
import GoSem.ClaimMapViews
import Derived.JoinedTies
import Derived.KernelRfl
namespace Go.Proofs.YtnifmfdlocgefaaGreat
/- THE CELL 'sum', in the pinned program and in every row, IS THE sha256 OF THE DUMP (.gsa) THAT YtnifmfdlocgefaaGreatProg.lean LOADS. Nothing in Lean hashes anything: it is a label: what it is worth is what the hold of that sum in a sandbox is worth. -/
noncomputable def Tryz.pinned : Pinned := { name := "ytnifmfdlocgefaagreat", sum := "63c41396ded72ef39774bdda1595eb8b278dd0f30b72b9d9607edb64f3f5c9e1", checked := Tryz.checked }
namespace Rows
def none {H : Type} : Left H := { results := [], args := [] }

/-- 'tammylaw13.CycTells': WHATEVER THE INPUT: true; the input reads as it did. -/
def cycTellsSpec : ChangeSpec := { name := "cycTells", fn := fun _ => fun
  | [d] => { results := [.lit (.bool true)], args := [d] }
  | _ => none }
def cycTellsRow : OpenClaim := { program := "ytnifmfdlocgefaagreat", sum := "63c41396ded72ef39774bdda1595eb8b278dd0f30b72b9d9607edb64f3f5c9e1", func := "tammy/tammylaw13.CycTells", spec := "cycTells", unfollowed := true, recurses := true, plainKeys := false, apart := false }
def CycTellsSaid : Prop := cycTellsRow.holds Tryz.pinned (OpenSpec.ofChange cycTellsSpec)

/-- ITS FALSE NEIGHBOUR: 'it returns false'. Refute it at one input. -/
def cycTellsWrong : ChangeSpec := { name := "cycTells", fn := fun _ => fun
  | [d] => { results := [.lit (.bool false)], args := [d] }
  | _ => none }
def CycTellsWrongFalsely : Prop := cycTellsRow.holds Tryz.pinned (OpenSpec.ofChange cycTellsWrong)

/-- 'tammylaw13.CycJoins': WHATEVER THE INPUT: true; the input reads as it did. -/
def cycJoinsSpec : ChangeSpec := { name := "cycJoins", fn := fun _ => fun
  | [d] => { results := [.lit (.bool true)], args := [d] }
  | _ => none }
def cycJoinsRow : OpenClaim := { program := "ytnifmfdlocgefaagreat", sum := "63c41396ded72ef39774bdda1595eb8b278dd0f30b72b9d9607edb64f3f5c9e1", func := "tammy/tammylaw13.CycJoins", spec := "cycJoins", unfollowed := true, recurses := true, plainKeys := false, apart := false }
def CycJoinsSaid : Prop := cycJoinsRow.holds Tryz.pinned (OpenSpec.ofChange cycJoinsSpec)

/-- ITS FALSE NEIGHBOUR: 'it returns false'. Refute it at one input. -/
def cycJoinsWrong : ChangeSpec := { name := "cycJoins", fn := fun _ => fun
  | [d] => { results := [.lit (.bool false)], args := [d] }
  | _ => none }
def CycJoinsWrongFalsely : Prop := cycJoinsRow.holds Tryz.pinned (OpenSpec.ofChange cycJoinsWrong)

/-- 'tammylaw13.CycOnce': WHATEVER THE INPUT: true; the input reads as it did. -/
def cycOnceSpec : ChangeSpec := { name := "cycOnce", fn := fun _ => fun
  | [d] => { results := [.lit (.bool true)], args := [d] }
  | _ => none }
def cycOnceRow : OpenClaim := { program := "ytnifmfdlocgefaagreat", sum := "63c41396ded72ef39774bdda1595eb8b278dd0f30b72b9d9607edb64f3f5c9e1", func := "tammy/tammylaw13.CycOnce", spec := "cycOnce", unfollowed := true, recurses := true, plainKeys := false, apart := false }
def CycOnceSaid : Prop := cycOnceRow.holds Tryz.pinned (OpenSpec.ofChange cycOnceSpec)

/-- ITS FALSE NEIGHBOUR: 'it returns false'. Refute it at one input. -/
def cycOnceWrong : ChangeSpec := { name := "cycOnce", fn := fun _ => fun
  | [d] => { results := [.lit (.bool false)], args := [d] }
  | _ => none }
def CycOnceWrongFalsely : Prop := cycOnceRow.holds Tryz.pinned (OpenSpec.ofChange cycOnceWrong)

/-- 'tammylaw14.SolveClashes': WHATEVER THE INPUT: true; the input reads as it did. -/
def solveClashesSpec : ChangeSpec := { name := "solveClashes", fn := fun _ => fun
  | [d] => { results := [.lit (.bool true)], args := [d] }
  | _ => none }
def solveClashesRow : OpenClaim := { program := "ytnifmfdlocgefaagreat", sum := "63c41396ded72ef39774bdda1595eb8b278dd0f30b72b9d9607edb64f3f5c9e1", func := "tammy/tammylaw14.SolveClashes", spec := "solveClashes", inPlace := ["slices.overlaps[int]", "slices.overlaps[tammy/api.Pair]"], unfollowed := true, recurses := true, plainKeys := false, apart := false }
def SolveClashesSaid : Prop := solveClashesRow.holds Tryz.pinned (OpenSpec.ofChange solveClashesSpec)

/-- ITS FALSE NEIGHBOUR: 'it returns false'. Refute it at one input. -/
def solveClashesWrong : ChangeSpec := { name := "solveClashes", fn := fun _ => fun
  | [d] => { results := [.lit (.bool false)], args := [d] }
  | _ => none }
def SolveClashesWrongFalsely : Prop := solveClashesRow.holds Tryz.pinned (OpenSpec.ofChange solveClashesWrong)

/-- 'tammylaw14.SolveBudget': WHATEVER THE INPUT: true; the input reads as it did. -/
def solveBudgetSpec : ChangeSpec := { name := "solveBudget", fn := fun _ => fun
  | [d1, d2] => { results := [.lit (.bool true)], args := [d1, d2] }
  | _ => none }
def solveBudgetRow : OpenClaim := { program := "ytnifmfdlocgefaagreat", sum := "63c41396ded72ef39774bdda1595eb8b278dd0f30b72b9d9607edb64f3f5c9e1", func := "tammy/tammylaw14.SolveBudget", spec := "solveBudget", inPlace := ["slices.overlaps[int]", "slices.overlaps[tammy/api.Pair]"], unfollowed := true, recurses := true, plainKeys := false, apart := false }
def SolveBudgetSaid : Prop := solveBudgetRow.holds Tryz.pinned (OpenSpec.ofChange solveBudgetSpec)

/-- ITS FALSE NEIGHBOUR: 'it returns false'. Refute it at one input. -/
def solveBudgetWrong : ChangeSpec := { name := "solveBudget", fn := fun _ => fun
  | [d1, d2] => { results := [.lit (.bool false)], args := [d1, d2] }
  | _ => none }
def SolveBudgetWrongFalsely : Prop := solveBudgetRow.holds Tryz.pinned (OpenSpec.ofChange solveBudgetWrong)

/-- 'tammylaw14.SolveAny': WHATEVER THE INPUT: true; the input reads as it did. -/
def solveAnySpec : ChangeSpec := { name := "solveAny", fn := fun _ => fun
  | [d1, d2, d3] => { results := [.lit (.bool true)], args := [d1, d2, d3] }
  | _ => none }
def solveAnyRow : OpenClaim := { program := "ytnifmfdlocgefaagreat", sum := "63c41396ded72ef39774bdda1595eb8b278dd0f30b72b9d9607edb64f3f5c9e1", func := "tammy/tammylaw14.SolveAny", spec := "solveAny", inPlace := ["slices.overlaps[int]", "slices.overlaps[tammy/api.Pair]"], unfollowed := true, recurses := true, plainKeys := false, apart := false }
def SolveAnySaid : Prop := solveAnyRow.holds Tryz.pinned (OpenSpec.ofChange solveAnySpec)

/-- ITS FALSE NEIGHBOUR: 'it returns false'. Refute it at one input. -/
def solveAnyWrong : ChangeSpec := { name := "solveAny", fn := fun _ => fun
  | [d1, d2, d3] => { results := [.lit (.bool false)], args := [d1, d2, d3] }
  | _ => none }
def SolveAnyWrongFalsely : Prop := solveAnyRow.holds Tryz.pinned (OpenSpec.ofChange solveAnyWrong)

/-- 'tammylaw14.SolveStays': WHATEVER THE INPUT: true; the input reads as it did. -/
def solveStaysSpec : ChangeSpec := { name := "solveStays", fn := fun _ => fun
  | [d] => { results := [.lit (.bool true)], args := [d] }
  | _ => none }
def solveStaysRow : OpenClaim := { program := "ytnifmfdlocgefaagreat", sum := "63c41396ded72ef39774bdda1595eb8b278dd0f30b72b9d9607edb64f3f5c9e1", func := "tammy/tammylaw14.SolveStays", spec := "solveStays", inPlace := ["slices.overlaps[int]", "slices.overlaps[tammy/api.Pair]"], unfollowed := true, recurses := true, plainKeys := false, apart := false }
def SolveStaysSaid : Prop := solveStaysRow.holds Tryz.pinned (OpenSpec.ofChange solveStaysSpec)

/-- ITS FALSE NEIGHBOUR: 'it returns false'. Refute it at one input. -/
def solveStaysWrong : ChangeSpec := { name := "solveStays", fn := fun _ => fun
  | [d] => { results := [.lit (.bool false)], args := [d] }
  | _ => none }
def SolveStaysWrongFalsely : Prop := solveStaysRow.holds Tryz.pinned (OpenSpec.ofChange solveStaysWrong)

/-- 'tammylaw14.SolveMore': WHATEVER THE INPUT: true; the input reads as it did. -/
def solveMoreSpec : ChangeSpec := { name := "solveMore", fn := fun _ => fun
  | [d1, d2] => { results := [.lit (.bool true)], args := [d1, d2] }
  | _ => none }
def solveMoreRow : OpenClaim := { program := "ytnifmfdlocgefaagreat", sum := "63c41396ded72ef39774bdda1595eb8b278dd0f30b72b9d9607edb64f3f5c9e1", func := "tammy/tammylaw14.SolveMore", spec := "solveMore", inPlace := ["slices.overlaps[int]", "slices.overlaps[tammy/api.Pair]"], unfollowed := true, recurses := true, plainKeys := false, apart := false }
def SolveMoreSaid : Prop := solveMoreRow.holds Tryz.pinned (OpenSpec.ofChange solveMoreSpec)

/-- ITS FALSE NEIGHBOUR: 'it returns false'. Refute it at one input. -/
def solveMoreWrong : ChangeSpec := { name := "solveMore", fn := fun _ => fun
  | [d1, d2] => { results := [.lit (.bool false)], args := [d1, d2] }
  | _ => none }
def SolveMoreWrongFalsely : Prop := solveMoreRow.holds Tryz.pinned (OpenSpec.ofChange solveMoreWrong)

/-- 'tammylaw14.SolveParts': WHATEVER THE INPUT: true; the input reads as it did. -/
def solvePartsSpec : ChangeSpec := { name := "solveParts", fn := fun _ => fun
  | [d1, d2] => { results := [.lit (.bool true)], args := [d1, d2] }
  | _ => none }
def solvePartsRow : OpenClaim := { program := "ytnifmfdlocgefaagreat", sum := "63c41396ded72ef39774bdda1595eb8b278dd0f30b72b9d9607edb64f3f5c9e1", func := "tammy/tammylaw14.SolveParts", spec := "solveParts", inPlace := ["slices.overlaps[int]", "slices.overlaps[tammy/api.Pair]"], unfollowed := true, recurses := true, plainKeys := false, apart := false }
def SolvePartsSaid : Prop := solvePartsRow.holds Tryz.pinned (OpenSpec.ofChange solvePartsSpec)

/-- ITS FALSE NEIGHBOUR: 'it returns false'. Refute it at one input. -/
def solvePartsWrong : ChangeSpec := { name := "solveParts", fn := fun _ => fun
  | [d1, d2] => { results := [.lit (.bool false)], args := [d1, d2] }
  | _ => none }
def SolvePartsWrongFalsely : Prop := solvePartsRow.holds Tryz.pinned (OpenSpec.ofChange solvePartsWrong)

/-- 'tammylaw15.LeastTells': WHATEVER THE INPUT: true; the input reads as it did. -/
def leastTellsSpec : ChangeSpec := { name := "leastTells", fn := fun _ => fun
  | [d1, d2, d3] => { results := [.lit (.bool true)], args := [d1, d2, d3] }
  | _ => none }
def leastTellsRow : OpenClaim := { program := "ytnifmfdlocgefaagreat", sum := "63c41396ded72ef39774bdda1595eb8b278dd0f30b72b9d9607edb64f3f5c9e1", func := "tammy/tammylaw15.LeastTells", spec := "leastTells", inPlace := ["internal/reflectlite.ValueOf", "internal/reflectlite.Swapper", "(internal/reflectlite.Value).Len"], unfollowed := true, recurses := true, plainKeys := false, apart := false }
def LeastTellsSaid : Prop := leastTellsRow.holds Tryz.pinned (OpenSpec.ofChange leastTellsSpec)

/-- ITS FALSE NEIGHBOUR: 'it returns false'. Refute it at one input. -/
def leastTellsWrong : ChangeSpec := { name := "leastTells", fn := fun _ => fun
  | [d1, d2, d3] => { results := [.lit (.bool false)], args := [d1, d2, d3] }
  | _ => none }
def LeastTellsWrongFalsely : Prop := leastTellsRow.holds Tryz.pinned (OpenSpec.ofChange leastTellsWrong)

/-- 'tammylaw15.LeastIs': WHATEVER THE INPUT: true; the input reads as it did. -/
def leastIsSpec : ChangeSpec := { name := "leastIs", fn := fun _ => fun
  | [d] => { results := [.lit (.bool true)], args := [d] }
  | _ => none }
def leastIsRow : OpenClaim := { program := "ytnifmfdlocgefaagreat", sum := "63c41396ded72ef39774bdda1595eb8b278dd0f30b72b9d9607edb64f3f5c9e1", func := "tammy/tammylaw15.LeastIs", spec := "leastIs", inPlace := ["internal/reflectlite.ValueOf", "internal/reflectlite.Swapper", "(internal/reflectlite.Value).Len"], unfollowed := true, recurses := true, plainKeys := false, apart := false }
def LeastIsSaid : Prop := leastIsRow.holds Tryz.pinned (OpenSpec.ofChange leastIsSpec)

/-- ITS FALSE NEIGHBOUR: 'it returns false'. Refute it at one input. -/
def leastIsWrong : ChangeSpec := { name := "leastIs", fn := fun _ => fun
  | [d] => { results := [.lit (.bool false)], args := [d] }
  | _ => none }
def LeastIsWrongFalsely : Prop := leastIsRow.holds Tryz.pinned (OpenSpec.ofChange leastIsWrong)

/- THE SECOND FORM. 'bulk': how many values and letters a reading holds, each counted each time it is reached (what is shared counts as often as it is met; a slice's spare places count too). A statement '..UptoSaid' is the law's where the arguments, and the package variables that the reading takes, are together of bulk at most 1048576: NARROWER than '..Said'. Prove '..Said' where nothing that the law and all that it calls make is longer than what came in: it says more and counts as full. Else prove '..UptoSaid'. A law counts once. -/
mutual
def uptoBulk {H : Type} : DataW H → Nat
  | .lit (.string bytes) => bytes.length + 1
  | .lit _ => 1
  | .nil => 1
  | .ptr d => uptoBulk d + 1
  | .slice elems spare => uptoBulkAll elems + uptoBulkAll spare + 1
  | .agg parts => uptoBulkAll parts + 1
  | .iface _ d => uptoBulk d + 1
  | .map entries => uptoBulkEntries entries + 1
  | .held _ => 1
def uptoBulkAll {H : Type} : List (DataW H) → Nat
  | [] => 0
  | d :: r => uptoBulk d + uptoBulkAll r
def uptoBulkEntries {H : Type} : List (Lit × DataW H) → Nat
  | [] => 0
  | x :: r => uptoBulkEntry x + uptoBulkEntries r
def uptoBulkEntry {H : Type} : Lit × DataW H → Nat
  | (.string bytes, d) => bytes.length + uptoBulk d + 1
  | (_, d) => uptoBulk d + 1
 end
def uptoSmall : (H : Type) → List (DataW H) → Bool := fun _ ds => decide (uptoBulkAll ds ≤ 1048576)
def OpenSpec.upto (s : _root_.Go.ChangeSpec) : _root_.Go.OpenSpec := { _root_.Go.OpenSpec.ofChange s with cond := some uptoSmall }

/-- 'tammylaw13.CycTells', WHERE WHAT IT READS IS OF BULK AT MOST 1048576: true; the input reads as it did. -/
def cycTellsUptoRow : OpenClaim := { program := "ytnifmfdlocgefaagreat", sum := "63c41396ded72ef39774bdda1595eb8b278dd0f30b72b9d9607edb64f3f5c9e1", func := "tammy/tammylaw13.CycTells", spec := "cycTells", unfollowed := true, recurses := true, plainKeys := false, apart := false, narrowed := true }
def CycTellsUptoSaid : Prop := cycTellsUptoRow.holds Tryz.pinned (OpenSpec.upto cycTellsSpec)

/-- 'tammylaw13.CycJoins', WHERE WHAT IT READS IS OF BULK AT MOST 1048576: true; the input reads as it did. -/
def cycJoinsUptoRow : OpenClaim := { program := "ytnifmfdlocgefaagreat", sum := "63c41396ded72ef39774bdda1595eb8b278dd0f30b72b9d9607edb64f3f5c9e1", func := "tammy/tammylaw13.CycJoins", spec := "cycJoins", unfollowed := true, recurses := true, plainKeys := false, apart := false, narrowed := true }
def CycJoinsUptoSaid : Prop := cycJoinsUptoRow.holds Tryz.pinned (OpenSpec.upto cycJoinsSpec)

/-- 'tammylaw13.CycOnce', WHERE WHAT IT READS IS OF BULK AT MOST 1048576: true; the input reads as it did. -/
def cycOnceUptoRow : OpenClaim := { program := "ytnifmfdlocgefaagreat", sum := "63c41396ded72ef39774bdda1595eb8b278dd0f30b72b9d9607edb64f3f5c9e1", func := "tammy/tammylaw13.CycOnce", spec := "cycOnce", unfollowed := true, recurses := true, plainKeys := false, apart := false, narrowed := true }
def CycOnceUptoSaid : Prop := cycOnceUptoRow.holds Tryz.pinned (OpenSpec.upto cycOnceSpec)

/-- 'tammylaw14.SolveClashes', WHERE WHAT IT READS IS OF BULK AT MOST 1048576: true; the input reads as it did. -/
def solveClashesUptoRow : OpenClaim := { program := "ytnifmfdlocgefaagreat", sum := "63c41396ded72ef39774bdda1595eb8b278dd0f30b72b9d9607edb64f3f5c9e1", func := "tammy/tammylaw14.SolveClashes", spec := "solveClashes", inPlace := ["slices.overlaps[int]", "slices.overlaps[tammy/api.Pair]"], unfollowed := true, recurses := true, plainKeys := false, apart := false, narrowed := true }
def SolveClashesUptoSaid : Prop := solveClashesUptoRow.holds Tryz.pinned (OpenSpec.upto solveClashesSpec)

/-- 'tammylaw14.SolveBudget', WHERE WHAT IT READS IS OF BULK AT MOST 1048576: true; the input reads as it did. -/
def solveBudgetUptoRow : OpenClaim := { program := "ytnifmfdlocgefaagreat", sum := "63c41396ded72ef39774bdda1595eb8b278dd0f30b72b9d9607edb64f3f5c9e1", func := "tammy/tammylaw14.SolveBudget", spec := "solveBudget", inPlace := ["slices.overlaps[int]", "slices.overlaps[tammy/api.Pair]"], unfollowed := true, recurses := true, plainKeys := false, apart := false, narrowed := true }
def SolveBudgetUptoSaid : Prop := solveBudgetUptoRow.holds Tryz.pinned (OpenSpec.upto solveBudgetSpec)

/-- 'tammylaw14.SolveAny', WHERE WHAT IT READS IS OF BULK AT MOST 1048576: true; the input reads as it did. -/
def solveAnyUptoRow : OpenClaim := { program := "ytnifmfdlocgefaagreat", sum := "63c41396ded72ef39774bdda1595eb8b278dd0f30b72b9d9607edb64f3f5c9e1", func := "tammy/tammylaw14.SolveAny", spec := "solveAny", inPlace := ["slices.overlaps[int]", "slices.overlaps[tammy/api.Pair]"], unfollowed := true, recurses := true, plainKeys := false, apart := false, narrowed := true }
def SolveAnyUptoSaid : Prop := solveAnyUptoRow.holds Tryz.pinned (OpenSpec.upto solveAnySpec)

/-- 'tammylaw14.SolveStays', WHERE WHAT IT READS IS OF BULK AT MOST 1048576: true; the input reads as it did. -/
def solveStaysUptoRow : OpenClaim := { program := "ytnifmfdlocgefaagreat", sum := "63c41396ded72ef39774bdda1595eb8b278dd0f30b72b9d9607edb64f3f5c9e1", func := "tammy/tammylaw14.SolveStays", spec := "solveStays", inPlace := ["slices.overlaps[int]", "slices.overlaps[tammy/api.Pair]"], unfollowed := true, recurses := true, plainKeys := false, apart := false, narrowed := true }
def SolveStaysUptoSaid : Prop := solveStaysUptoRow.holds Tryz.pinned (OpenSpec.upto solveStaysSpec)

/-- 'tammylaw14.SolveMore', WHERE WHAT IT READS IS OF BULK AT MOST 1048576: true; the input reads as it did. -/
def solveMoreUptoRow : OpenClaim := { program := "ytnifmfdlocgefaagreat", sum := "63c41396ded72ef39774bdda1595eb8b278dd0f30b72b9d9607edb64f3f5c9e1", func := "tammy/tammylaw14.SolveMore", spec := "solveMore", inPlace := ["slices.overlaps[int]", "slices.overlaps[tammy/api.Pair]"], unfollowed := true, recurses := true, plainKeys := false, apart := false, narrowed := true }
def SolveMoreUptoSaid : Prop := solveMoreUptoRow.holds Tryz.pinned (OpenSpec.upto solveMoreSpec)

/-- 'tammylaw14.SolveParts', WHERE WHAT IT READS IS OF BULK AT MOST 1048576: true; the input reads as it did. -/
def solvePartsUptoRow : OpenClaim := { program := "ytnifmfdlocgefaagreat", sum := "63c41396ded72ef39774bdda1595eb8b278dd0f30b72b9d9607edb64f3f5c9e1", func := "tammy/tammylaw14.SolveParts", spec := "solveParts", inPlace := ["slices.overlaps[int]", "slices.overlaps[tammy/api.Pair]"], unfollowed := true, recurses := true, plainKeys := false, apart := false, narrowed := true }
def SolvePartsUptoSaid : Prop := solvePartsUptoRow.holds Tryz.pinned (OpenSpec.upto solvePartsSpec)

/-- 'tammylaw15.LeastTells', WHERE WHAT IT READS IS OF BULK AT MOST 1048576: true; the input reads as it did. -/
def leastTellsUptoRow : OpenClaim := { program := "ytnifmfdlocgefaagreat", sum := "63c41396ded72ef39774bdda1595eb8b278dd0f30b72b9d9607edb64f3f5c9e1", func := "tammy/tammylaw15.LeastTells", spec := "leastTells", inPlace := ["internal/reflectlite.ValueOf", "internal/reflectlite.Swapper", "(internal/reflectlite.Value).Len"], unfollowed := true, recurses := true, plainKeys := false, apart := false, narrowed := true }
def LeastTellsUptoSaid : Prop := leastTellsUptoRow.holds Tryz.pinned (OpenSpec.upto leastTellsSpec)

/-- 'tammylaw15.LeastIs', WHERE WHAT IT READS IS OF BULK AT MOST 1048576: true; the input reads as it did. -/
def leastIsUptoRow : OpenClaim := { program := "ytnifmfdlocgefaagreat", sum := "63c41396ded72ef39774bdda1595eb8b278dd0f30b72b9d9607edb64f3f5c9e1", func := "tammy/tammylaw15.LeastIs", spec := "leastIs", inPlace := ["internal/reflectlite.ValueOf", "internal/reflectlite.Swapper", "(internal/reflectlite.Value).Len"], unfollowed := true, recurses := true, plainKeys := false, apart := false, narrowed := true }
def LeastIsUptoSaid : Prop := leastIsUptoRow.holds Tryz.pinned (OpenSpec.upto leastIsSpec)

end Rows
end Go.Proofs.YtnifmfdlocgefaaGreat
