/-
  No cell of these rows narrows 'for every input' (looked for: loops, veiled, ifaces, maps, wideKeys, modest, calm, conditions, laid).
  DERIVED. THE GIVEN ROWS OF THIS SEAT. 5 by the template 'for every input the law returns true; each argument reads behind the call as it read before'; 0 by the template 'total and deterministic' (their statements: YtcbhnhjefolpkaaTotals.lean).
  GIVEN WITH THE SEED: the statements are not yours to turn. If you find one false, say at which input.
  Laid BY PROGRAM, IN A SANDBOX (cutbox-rows.mjs): the forced cells as the released guide's own fill.sh prints them over the translation c7eb501470ac9f7d… (all of the seat's roots in one cut). By AI agents, Wed Nov 11 2026. No macro, syntax, notation, axiom, sorry.
-/
import Derived.Test.YtcbhnhjefolpkaaChecked
import GoSem.Claim
import GoSem.ClaimJoined
import GoSem.ClaimMapViews
import Derived.JoinedTies
import Derived.KernelRfl
namespace Go.Proofs.Ytcbhnhjefolpkaa
/- THE CELL 'sum', in the pinned program and in every row, IS THE sha256 OF THE DUMP (.gsa) THAT YtcbhnhjefolpkaaProg.lean LOADS. Nothing in Lean hashes anything: it is a label: what it is worth is what the hold of that sum in a sandbox is worth. -/
noncomputable def Try.pinned : Pinned := { name := "ytcbhnhjefolpkaa", sum := "c7eb501470ac9f7dadd0238b7396cfed580153bb0686901b5eab16a8dbc5c68d", checked := Try.checked }
namespace Rows
def none {H : Type} : Left H := { results := [], args := [] }

/-- 'tammylaw02.HashPuts': WHATEVER THE INPUT: true; the input reads as it did. -/
def hashPutsSpec : ChangeSpec := { name := "hashPuts", fn := fun _ => fun
  | [d1, d2] => { results := [.lit (.bool true)], args := [d1, d2] }
  | _ => none }
def hashPutsRow : OpenClaim := { program := "ytcbhnhjefolpkaa", sum := "c7eb501470ac9f7dadd0238b7396cfed580153bb0686901b5eab16a8dbc5c68d", func := "tammy/tammylaw02.HashPuts", spec := "hashPuts", unfollowed := true, recurses := true, apart := false }
def HashPutsSaid : Prop := hashPutsRow.holds Try.pinned (OpenSpec.ofChange hashPutsSpec)

/-- ITS FALSE NEIGHBOUR: 'it returns false'. Refute it at one input. -/
def hashPutsWrong : ChangeSpec := { name := "hashPuts", fn := fun _ => fun
  | [d1, d2] => { results := [.lit (.bool false)], args := [d1, d2] }
  | _ => none }
def HashPutsWrongFalsely : Prop := hashPutsRow.holds Try.pinned (OpenSpec.ofChange hashPutsWrong)

/-- 'tammylaw02.HashKeeps': WHATEVER THE INPUT: true; the input reads as it did. -/
def hashKeepsSpec : ChangeSpec := { name := "hashKeeps", fn := fun _ => fun
  | [d1, d2] => { results := [.lit (.bool true)], args := [d1, d2] }
  | _ => none }
def hashKeepsRow : OpenClaim := { program := "ytcbhnhjefolpkaa", sum := "c7eb501470ac9f7dadd0238b7396cfed580153bb0686901b5eab16a8dbc5c68d", func := "tammy/tammylaw02.HashKeeps", spec := "hashKeeps", unfollowed := true, recurses := true, apart := false }
def HashKeepsSaid : Prop := hashKeepsRow.holds Try.pinned (OpenSpec.ofChange hashKeepsSpec)

/-- ITS FALSE NEIGHBOUR: 'it returns false'. Refute it at one input. -/
def hashKeepsWrong : ChangeSpec := { name := "hashKeeps", fn := fun _ => fun
  | [d1, d2] => { results := [.lit (.bool false)], args := [d1, d2] }
  | _ => none }
def HashKeepsWrongFalsely : Prop := hashKeepsRow.holds Try.pinned (OpenSpec.ofChange hashKeepsWrong)

/-- 'tammylaw02.HashMany': WHATEVER THE INPUT: true; the input reads as it did. -/
def hashManySpec : ChangeSpec := { name := "hashMany", fn := fun _ => fun
  | [d1, d2] => { results := [.lit (.bool true)], args := [d1, d2] }
  | _ => none }
def hashManyRow : OpenClaim := { program := "ytcbhnhjefolpkaa", sum := "c7eb501470ac9f7dadd0238b7396cfed580153bb0686901b5eab16a8dbc5c68d", func := "tammy/tammylaw02.HashMany", spec := "hashMany", unfollowed := true, recurses := true, apart := false }
def HashManySaid : Prop := hashManyRow.holds Try.pinned (OpenSpec.ofChange hashManySpec)

/-- ITS FALSE NEIGHBOUR: 'it returns false'. Refute it at one input. -/
def hashManyWrong : ChangeSpec := { name := "hashMany", fn := fun _ => fun
  | [d1, d2] => { results := [.lit (.bool false)], args := [d1, d2] }
  | _ => none }
def HashManyWrongFalsely : Prop := hashManyRow.holds Try.pinned (OpenSpec.ofChange hashManyWrong)

/-- 'tammylaw02.HashSizes': WHATEVER THE INPUT: true; the input reads as it did. -/
def hashSizesSpec : ChangeSpec := { name := "hashSizes", fn := fun _ => fun
  | [d1, d2] => { results := [.lit (.bool true)], args := [d1, d2] }
  | _ => none }
def hashSizesRow : OpenClaim := { program := "ytcbhnhjefolpkaa", sum := "c7eb501470ac9f7dadd0238b7396cfed580153bb0686901b5eab16a8dbc5c68d", func := "tammy/tammylaw02.HashSizes", spec := "hashSizes", unfollowed := true, recurses := true, apart := false }
def HashSizesSaid : Prop := hashSizesRow.holds Try.pinned (OpenSpec.ofChange hashSizesSpec)

/-- ITS FALSE NEIGHBOUR: 'it returns false'. Refute it at one input. -/
def hashSizesWrong : ChangeSpec := { name := "hashSizes", fn := fun _ => fun
  | [d1, d2] => { results := [.lit (.bool false)], args := [d1, d2] }
  | _ => none }
def HashSizesWrongFalsely : Prop := hashSizesRow.holds Try.pinned (OpenSpec.ofChange hashSizesWrong)

/-- 'tammylaw02.HashLays': WHATEVER THE INPUT: true; the input reads as it did. -/
def hashLaysSpec : ChangeSpec := { name := "hashLays", fn := fun _ => fun
  | [d] => { results := [.lit (.bool true)], args := [d] }
  | _ => none }
def hashLaysRow : OpenClaim := { program := "ytcbhnhjefolpkaa", sum := "c7eb501470ac9f7dadd0238b7396cfed580153bb0686901b5eab16a8dbc5c68d", func := "tammy/tammylaw02.HashLays", spec := "hashLays", unfollowed := true, recurses := true, apart := false }
def HashLaysSaid : Prop := hashLaysRow.holds Try.pinned (OpenSpec.ofChange hashLaysSpec)

/-- ITS FALSE NEIGHBOUR: 'it returns false'. Refute it at one input. -/
def hashLaysWrong : ChangeSpec := { name := "hashLays", fn := fun _ => fun
  | [d] => { results := [.lit (.bool false)], args := [d] }
  | _ => none }
def HashLaysWrongFalsely : Prop := hashLaysRow.holds Try.pinned (OpenSpec.ofChange hashLaysWrong)

/- THE SECOND FORM. 'bulk': how many values and letters a reading holds, each counted each time it is reached (what is shared counts as often as it is met; a slice's spare places count too). A statement '..UptoSaid' is the law's where the arguments, and the package variables that the reading takes, are together of bulk at most 1048576: NARROWER than '..Said'. Prove '..Said' where nothing that the law and all that it calls make is longer than what came in: it says more and counts as full. Else prove '..UptoSaid'. A law counts once. -/
mutual
def uptoBulk {H : Type} : DataW H → Nat
  | .lit (.string bytes) => bytes.length + 1
  | .lit _ => 1
  | .nil => 1
  | .ptr d => uptoBulk d + 1
  | .slice elems spare => uptoBulkAll elems + uptoBulkAll spare + 1
  | .agg parts => uptoBulkAll parts + 1
  | .iface _ d => uptoBulk d + 1
  | .map entries => uptoBulkEntries entries + 1
  | .held _ => 1
def uptoBulkAll {H : Type} : List (DataW H) → Nat
  | [] => 0
  | d :: r => uptoBulk d + uptoBulkAll r
def uptoBulkEntries {H : Type} : List (Lit × DataW H) → Nat
  | [] => 0
  | x :: r => uptoBulkEntry x + uptoBulkEntries r
def uptoBulkEntry {H : Type} : Lit × DataW H → Nat
  | (.string bytes, d) => bytes.length + uptoBulk d + 1
  | (_, d) => uptoBulk d + 1
 end
def uptoSmall : (H : Type) → List (DataW H) → Bool := fun _ ds => decide (uptoBulkAll ds ≤ 1048576)
def OpenSpec.upto (s : _root_.Go.ChangeSpec) : _root_.Go.OpenSpec := { _root_.Go.OpenSpec.ofChange s with cond := some uptoSmall }

/-- 'tammylaw02.HashPuts', WHERE WHAT IT READS IS OF BULK AT MOST 1048576: true; the input reads as it did. -/
def hashPutsUptoRow : OpenClaim := { program := "ytcbhnhjefolpkaa", sum := "c7eb501470ac9f7dadd0238b7396cfed580153bb0686901b5eab16a8dbc5c68d", func := "tammy/tammylaw02.HashPuts", spec := "hashPuts", unfollowed := true, recurses := true, apart := false, narrowed := true }
def HashPutsUptoSaid : Prop := hashPutsUptoRow.holds Try.pinned (OpenSpec.upto hashPutsSpec)

/-- 'tammylaw02.HashKeeps', WHERE WHAT IT READS IS OF BULK AT MOST 1048576: true; the input reads as it did. -/
def hashKeepsUptoRow : OpenClaim := { program := "ytcbhnhjefolpkaa", sum := "c7eb501470ac9f7dadd0238b7396cfed580153bb0686901b5eab16a8dbc5c68d", func := "tammy/tammylaw02.HashKeeps", spec := "hashKeeps", unfollowed := true, recurses := true, apart := false, narrowed := true }
def HashKeepsUptoSaid : Prop := hashKeepsUptoRow.holds Try.pinned (OpenSpec.upto hashKeepsSpec)

/-- 'tammylaw02.HashMany', WHERE WHAT IT READS IS OF BULK AT MOST 1048576: true; the input reads as it did. -/
def hashManyUptoRow : OpenClaim := { program := "ytcbhnhjefolpkaa", sum := "c7eb501470ac9f7dadd0238b7396cfed580153bb0686901b5eab16a8dbc5c68d", func := "tammy/tammylaw02.HashMany", spec := "hashMany", unfollowed := true, recurses := true, apart := false, narrowed := true }
def HashManyUptoSaid : Prop := hashManyUptoRow.holds Try.pinned (OpenSpec.upto hashManySpec)

/-- 'tammylaw02.HashSizes', WHERE WHAT IT READS IS OF BULK AT MOST 1048576: true; the input reads as it did. -/
def hashSizesUptoRow : OpenClaim := { program := "ytcbhnhjefolpkaa", sum := "c7eb501470ac9f7dadd0238b7396cfed580153bb0686901b5eab16a8dbc5c68d", func := "tammy/tammylaw02.HashSizes", spec := "hashSizes", unfollowed := true, recurses := true, apart := false, narrowed := true }
def HashSizesUptoSaid : Prop := hashSizesUptoRow.holds Try.pinned (OpenSpec.upto hashSizesSpec)

/-- 'tammylaw02.HashLays', WHERE WHAT IT READS IS OF BULK AT MOST 1048576: true; the input reads as it did. -/
def hashLaysUptoRow : OpenClaim := { program := "ytcbhnhjefolpkaa", sum := "c7eb501470ac9f7dadd0238b7396cfed580153bb0686901b5eab16a8dbc5c68d", func := "tammy/tammylaw02.HashLays", spec := "hashLays", unfollowed := true, recurses := true, apart := false, narrowed := true }
def HashLaysUptoSaid : Prop := hashLaysUptoRow.holds Try.pinned (OpenSpec.upto hashLaysSpec)

end Rows
end Go.Proofs.Ytcbhnhjefolpkaa
