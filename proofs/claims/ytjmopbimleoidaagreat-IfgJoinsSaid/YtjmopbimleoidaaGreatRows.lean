/-
  No cell of these rows narrows 'for every input' (looked for: loops, veiled, ifaces, maps, wideKeys, modest, calm, conditions, laid).
  DERIVED. THE GIVEN ROWS OF THIS SEAT. 5 by the template 'for every input the law returns true; each argument reads behind the call as it read before'; 0 by the template 'total and deterministic' (their statements: YtjmopbimleoidaaGreatTotals.lean).
  GIVEN WITH THE SEED: the statements are not yours to turn. If you find one false, say at which input.
  Laid BY PROGRAM, IN A SANDBOX (cutbox-rows.mjs): the forced cells as the released guide's own fill.sh prints them over the translation 89f730475afc3d29… (all of the seat's roots in one cut). By AI agents, Wed Nov 11 2026. No macro, syntax, notation, axiom, sorry.
-/
import Derived.Test.YtjmopbimleoidaaGreatChecked
import GoSem.Claim
import GoSem.ClaimJoined
import GoSem.ClaimMapViews
import Derived.JoinedTies
import Derived.KernelRfl
namespace Go.Proofs.YtjmopbimleoidaaGreat
/- THE CELL 'sum', in the pinned program and in every row, IS THE sha256 OF THE DUMP (.gsa) THAT YtjmopbimleoidaaGreatProg.lean LOADS. Nothing in Lean hashes anything: it is a label: what it is worth is what the hold of that sum in a sandbox is worth. -/
noncomputable def Tryz.pinned : Pinned := { name := "ytjmopbimleoidaagreat", sum := "89f730475afc3d291746181b5fc39ef286535b53196cbae1afc872e1fe09621e", checked := Tryz.checked }
namespace Rows
def none {H : Type} : Left H := { results := [], args := [] }

/-- 'tammylaw12.IfgOnes': WHATEVER THE INPUT: true; the input reads as it did. -/
def ifgOnesSpec : ChangeSpec := { name := "ifgOnes", fn := fun _ => fun
  | [d] => { results := [.lit (.bool true)], args := [d] }
  | _ => none }
def ifgOnesRow : OpenClaim := { program := "ytjmopbimleoidaagreat", sum := "89f730475afc3d291746181b5fc39ef286535b53196cbae1afc872e1fe09621e", func := "tammy/tammylaw12.IfgOnes", spec := "ifgOnes", inPlace := ["slices.overlaps[int]"], unfollowed := true, recurses := true, apart := false }
def IfgOnesSaid : Prop := ifgOnesRow.holds Tryz.pinned (OpenSpec.ofChange ifgOnesSpec)

/-- ITS FALSE NEIGHBOUR: 'it returns false'. Refute it at one input. -/
def ifgOnesWrong : ChangeSpec := { name := "ifgOnes", fn := fun _ => fun
  | [d] => { results := [.lit (.bool false)], args := [d] }
  | _ => none }
def IfgOnesWrongFalsely : Prop := ifgOnesRow.holds Tryz.pinned (OpenSpec.ofChange ifgOnesWrong)

/-- 'tammylaw12.IfgJoins': WHATEVER THE INPUT: true; the input reads as it did. -/
def ifgJoinsSpec : ChangeSpec := { name := "ifgJoins", fn := fun _ => fun
  | [d] => { results := [.lit (.bool true)], args := [d] }
  | _ => none }
def ifgJoinsRow : OpenClaim := { program := "ytjmopbimleoidaagreat", sum := "89f730475afc3d291746181b5fc39ef286535b53196cbae1afc872e1fe09621e", func := "tammy/tammylaw12.IfgJoins", spec := "ifgJoins", inPlace := ["slices.overlaps[int]"], unfollowed := true, recurses := true, apart := false }
def IfgJoinsSaid : Prop := ifgJoinsRow.holds Tryz.pinned (OpenSpec.ofChange ifgJoinsSpec)

/-- ITS FALSE NEIGHBOUR: 'it returns false'. Refute it at one input. -/
def ifgJoinsWrong : ChangeSpec := { name := "ifgJoins", fn := fun _ => fun
  | [d] => { results := [.lit (.bool false)], args := [d] }
  | _ => none }
def IfgJoinsWrongFalsely : Prop := ifgJoinsRow.holds Tryz.pinned (OpenSpec.ofChange ifgJoinsWrong)

/-- 'tammylaw13.CycTells': WHATEVER THE INPUT: true; the input reads as it did. -/
def cycTellsSpec : ChangeSpec := { name := "cycTells", fn := fun _ => fun
  | [d] => { results := [.lit (.bool true)], args := [d] }
  | _ => none }
def cycTellsRow : OpenClaim := { program := "ytjmopbimleoidaagreat", sum := "89f730475afc3d291746181b5fc39ef286535b53196cbae1afc872e1fe09621e", func := "tammy/tammylaw13.CycTells", spec := "cycTells", unfollowed := true, recurses := true, apart := false }
def CycTellsSaid : Prop := cycTellsRow.holds Tryz.pinned (OpenSpec.ofChange cycTellsSpec)

/-- ITS FALSE NEIGHBOUR: 'it returns false'. Refute it at one input. -/
def cycTellsWrong : ChangeSpec := { name := "cycTells", fn := fun _ => fun
  | [d] => { results := [.lit (.bool false)], args := [d] }
  | _ => none }
def CycTellsWrongFalsely : Prop := cycTellsRow.holds Tryz.pinned (OpenSpec.ofChange cycTellsWrong)

/-- 'tammylaw13.CycJoins': WHATEVER THE INPUT: true; the input reads as it did. -/
def cycJoinsSpec : ChangeSpec := { name := "cycJoins", fn := fun _ => fun
  | [d] => { results := [.lit (.bool true)], args := [d] }
  | _ => none }
def cycJoinsRow : OpenClaim := { program := "ytjmopbimleoidaagreat", sum := "89f730475afc3d291746181b5fc39ef286535b53196cbae1afc872e1fe09621e", func := "tammy/tammylaw13.CycJoins", spec := "cycJoins", unfollowed := true, recurses := true, apart := false }
def CycJoinsSaid : Prop := cycJoinsRow.holds Tryz.pinned (OpenSpec.ofChange cycJoinsSpec)

/-- ITS FALSE NEIGHBOUR: 'it returns false'. Refute it at one input. -/
def cycJoinsWrong : ChangeSpec := { name := "cycJoins", fn := fun _ => fun
  | [d] => { results := [.lit (.bool false)], args := [d] }
  | _ => none }
def CycJoinsWrongFalsely : Prop := cycJoinsRow.holds Tryz.pinned (OpenSpec.ofChange cycJoinsWrong)

/-- 'tammylaw13.CycOnce': WHATEVER THE INPUT: true; the input reads as it did. -/
def cycOnceSpec : ChangeSpec := { name := "cycOnce", fn := fun _ => fun
  | [d] => { results := [.lit (.bool true)], args := [d] }
  | _ => none }
def cycOnceRow : OpenClaim := { program := "ytjmopbimleoidaagreat", sum := "89f730475afc3d291746181b5fc39ef286535b53196cbae1afc872e1fe09621e", func := "tammy/tammylaw13.CycOnce", spec := "cycOnce", unfollowed := true, recurses := true, apart := false }
def CycOnceSaid : Prop := cycOnceRow.holds Tryz.pinned (OpenSpec.ofChange cycOnceSpec)

/-- ITS FALSE NEIGHBOUR: 'it returns false'. Refute it at one input. -/
def cycOnceWrong : ChangeSpec := { name := "cycOnce", fn := fun _ => fun
  | [d] => { results := [.lit (.bool false)], args := [d] }
  | _ => none }
def CycOnceWrongFalsely : Prop := cycOnceRow.holds Tryz.pinned (OpenSpec.ofChange cycOnceWrong)

/- THE SECOND FORM. 'bulk': how many values and letters a reading holds, each counted each time it is reached (what is shared counts as often as it is met; a slice's spare places count too). A statement '..UptoSaid' is the law's where the arguments, and the package variables that the reading takes, are together of bulk at most 1048576: NARROWER than '..Said'. Prove '..Said' where nothing that the law and all that it calls make is longer than what came in: it says more and counts as full. Else prove '..UptoSaid'. A law counts once. -/
mutual
def uptoBulk {H : Type} : DataW H → Nat
  | .lit (.string bytes) => bytes.length + 1
  | .lit _ => 1
  | .nil => 1
  | .ptr d => uptoBulk d + 1
  | .slice elems spare => uptoBulkAll elems + uptoBulkAll spare + 1
  | .agg parts => uptoBulkAll parts + 1
  | .iface _ d => uptoBulk d + 1
  | .map entries => uptoBulkEntries entries + 1
  | .held _ => 1
def uptoBulkAll {H : Type} : List (DataW H) → Nat
  | [] => 0
  | d :: r => uptoBulk d + uptoBulkAll r
def uptoBulkEntries {H : Type} : List (Lit × DataW H) → Nat
  | [] => 0
  | x :: r => uptoBulkEntry x + uptoBulkEntries r
def uptoBulkEntry {H : Type} : Lit × DataW H → Nat
  | (.string bytes, d) => bytes.length + uptoBulk d + 1
  | (_, d) => uptoBulk d + 1
 end
def uptoSmall : (H : Type) → List (DataW H) → Bool := fun _ ds => decide (uptoBulkAll ds ≤ 1048576)
def OpenSpec.upto (s : _root_.Go.ChangeSpec) : _root_.Go.OpenSpec := { _root_.Go.OpenSpec.ofChange s with cond := some uptoSmall }

/-- 'tammylaw12.IfgOnes', WHERE WHAT IT READS IS OF BULK AT MOST 1048576: true; the input reads as it did. -/
def ifgOnesUptoRow : OpenClaim := { program := "ytjmopbimleoidaagreat", sum := "89f730475afc3d291746181b5fc39ef286535b53196cbae1afc872e1fe09621e", func := "tammy/tammylaw12.IfgOnes", spec := "ifgOnes", inPlace := ["slices.overlaps[int]"], unfollowed := true, recurses := true, apart := false, narrowed := true }
def IfgOnesUptoSaid : Prop := ifgOnesUptoRow.holds Tryz.pinned (OpenSpec.upto ifgOnesSpec)

/-- 'tammylaw12.IfgJoins', WHERE WHAT IT READS IS OF BULK AT MOST 1048576: true; the input reads as it did. -/
def ifgJoinsUptoRow : OpenClaim := { program := "ytjmopbimleoidaagreat", sum := "89f730475afc3d291746181b5fc39ef286535b53196cbae1afc872e1fe09621e", func := "tammy/tammylaw12.IfgJoins", spec := "ifgJoins", inPlace := ["slices.overlaps[int]"], unfollowed := true, recurses := true, apart := false, narrowed := true }
def IfgJoinsUptoSaid : Prop := ifgJoinsUptoRow.holds Tryz.pinned (OpenSpec.upto ifgJoinsSpec)

/-- 'tammylaw13.CycTells', WHERE WHAT IT READS IS OF BULK AT MOST 1048576: true; the input reads as it did. -/
def cycTellsUptoRow : OpenClaim := { program := "ytjmopbimleoidaagreat", sum := "89f730475afc3d291746181b5fc39ef286535b53196cbae1afc872e1fe09621e", func := "tammy/tammylaw13.CycTells", spec := "cycTells", unfollowed := true, recurses := true, apart := false, narrowed := true }
def CycTellsUptoSaid : Prop := cycTellsUptoRow.holds Tryz.pinned (OpenSpec.upto cycTellsSpec)

/-- 'tammylaw13.CycJoins', WHERE WHAT IT READS IS OF BULK AT MOST 1048576: true; the input reads as it did. -/
def cycJoinsUptoRow : OpenClaim := { program := "ytjmopbimleoidaagreat", sum := "89f730475afc3d291746181b5fc39ef286535b53196cbae1afc872e1fe09621e", func := "tammy/tammylaw13.CycJoins", spec := "cycJoins", unfollowed := true, recurses := true, apart := false, narrowed := true }
def CycJoinsUptoSaid : Prop := cycJoinsUptoRow.holds Tryz.pinned (OpenSpec.upto cycJoinsSpec)

/-- 'tammylaw13.CycOnce', WHERE WHAT IT READS IS OF BULK AT MOST 1048576: true; the input reads as it did. -/
def cycOnceUptoRow : OpenClaim := { program := "ytjmopbimleoidaagreat", sum := "89f730475afc3d291746181b5fc39ef286535b53196cbae1afc872e1fe09621e", func := "tammy/tammylaw13.CycOnce", spec := "cycOnce", unfollowed := true, recurses := true, apart := false, narrowed := true }
def CycOnceUptoSaid : Prop := cycOnceUptoRow.holds Tryz.pinned (OpenSpec.upto cycOnceSpec)

end Rows
end Go.Proofs.YtjmopbimleoidaaGreat
