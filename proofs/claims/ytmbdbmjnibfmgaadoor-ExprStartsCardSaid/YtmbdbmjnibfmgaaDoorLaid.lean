/-
  The witness's world of a row that lists five of the library's variables: each holds what its initialiser lays.
-/
import Derived.Test.YtmbdbmjnibfmgaaDoorKit
import Derived.Test.YtmbdbmjnibfmgaaDoorCards
import Derived.Test.YtmbdbmjnibfmgaaDoorTie
import Derived.ProofKit
import Derived.Deep.DeepHandedRow
import Derived.Lib.LaidTab
import Derived.LaidLaws
namespace Go.Proofs.YtmbdbmjnibfmgaaDoor.Kit
open Go.RowKit Go.WideShapes Go.ChangeShapes Go.ChangeAt

/-- the cells of a table of numbers -/
def tabCells : DataW Unit → Array Value
  | .agg l => (l.map fun d => match d with
    | .lit (.int k n) => Value.int k n
    | _ => Value.bool false).toArray
  | _ => #[]
/-- the text of a sentinel -/
def textOf : DataW Unit → ByteArray
  | .iface _ (.ptr (.agg [.lit (.string b)])) => ⟨(b.map fun n => n).toArray⟩
  | _ => ⟨#[]⟩
noncomputable def low : Nat := (World.holding Tryd.prog default ⟨#[], #[], []⟩).heap.size
noncomputable def laidWorld (os : Os) : World :=
  let w0 := World.holding Tryd.prog os ⟨#[.cells #[.string (textOf Rows.laid_strconv_ErrSyntax)] 134, .cells #[.string (textOf Rows.laid_strconv_ErrRange)] 134], #[], []⟩
  let put (w : World) (g : Nat) (cs : Array Value) : World := { w with heap := w.heap.modify g fun
      | .cells _ t frozen => .cells cs t frozen
      | o => o }
  put (put (put (put (put w0 1 #[.iface 132 (.pointer (some ⟨low, 0, none⟩))]) 2 #[.iface 132 (.pointer (some ⟨low + 1, 0, none⟩))])
    0 (tabCells Rows.laid_internal_strconv_uint64pow10)) 3 (tabCells Rows.laid_math_bits_deBruijn32tab)) 4 (tabCells Rows.laid_math_bits_deBruijn64tab)
def laidList : List (String × DataW Unit) := [("math/bits.deBruijn32tab", Rows.laid_math_bits_deBruijn32tab), ("math/bits.deBruijn64tab", Rows.laid_math_bits_deBruijn64tab), ("internal/strconv.uint64pow10", Rows.laid_internal_strconv_uint64pow10), ("strconv.ErrRange", Rows.laid_strconv_ErrRange), ("strconv.ErrSyntax", Rows.laid_strconv_ErrSyntax)]
set_option maxRecDepth 100000 in
theorem laid_met (os : Os) (args : Array Value) : laidMet Tryd.prog laidList ((laidWorld os).forCall (fun _ _ => 0) ⟨#[], args, []⟩).memory :=
  laidMet_of_run' 8 (by kernel_rfl) (by kernel_rfl)
theorem laid_vars (os : Os) (args : Array Value) : ((laidWorld os).forCall (fun _ _ => 0) ⟨#[], args, []⟩).variablesB Tryd.prog = true := by kernel_rfl
end Go.Proofs.YtmbdbmjnibfmgaaDoor.Kit
