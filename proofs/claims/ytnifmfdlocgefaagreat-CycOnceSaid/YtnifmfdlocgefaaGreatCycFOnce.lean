/-
  The closed facts of CycOnce's row, one by one.
-/
import Derived.Test.YtnifmfdlocgefaaGreatRows
import Derived.OpenShut
import Derived.RegionTactic
import Derived.JoinedOf
open Go
namespace Go.Proofs.YtnifmfdlocgefaaGreat.cycOnce
theorem and_both {a b : Bool} (h : a = true) (k : b = true) : (a && b) = true := by
  rw [h, k]; rfl
set_option maxHeartbeats 8000000 in
theorem facts : joinedFacts Tryz.pinned.checked.prog 5 Tryz.f5 Rows.cycOnceSpec Rows.cycOnceRow = true := by
  unfold joinedFacts
  refine and_both ?_ (by as_aux_lemma => kernel_rfl)
  refine and_both ?_ (by as_aux_lemma => kernel_rfl)
  refine and_both ?_ (by as_aux_lemma => kernel_rfl)
  refine and_both ?_ (by as_aux_lemma => kernel_rfl)
  refine and_both ?_ (by as_aux_lemma => kernel_rfl)
  refine and_both ?_ (by as_aux_lemma => kernel_rfl)
  refine and_both ?_ (by as_aux_lemma => kernel_rfl)
  refine and_both ?_ (by as_aux_lemma => kernel_rfl)
  refine and_both ?_ (by as_aux_lemma => kernel_rfl)
  refine and_both ?_ (by as_aux_lemma => kernel_rfl)
  refine and_both ?_ (by as_aux_lemma => kernel_rfl)
  refine and_both ?_ (by as_aux_lemma => kernel_rfl)
  refine and_both ?_ (by as_aux_lemma => kernel_rfl)
  refine and_both ?_ (by as_aux_lemma => kernel_rfl)
  refine and_both ?_ (by as_aux_lemma => kernel_rfl)
  refine and_both ?_ (by as_aux_lemma => kernel_rfl)
  refine and_both ?_ (by as_aux_lemma => kernel_rfl)
  refine and_both ?_ (by as_aux_lemma => kernel_rfl)
  refine and_both ?_ (by as_aux_lemma => kernel_rfl)
  as_aux_lemma => kernel_rfl
end Go.Proofs.YtnifmfdlocgefaaGreat.cycOnce
