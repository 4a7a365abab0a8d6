/-
  Small facts: sizes, a table of nothing, a row of one.
-/
import Derived.Test.YtgnbempkobgeiaaHashU
namespace Go.Proofs.Ytgnbempkobgeiaa.Hs
open Go.RowKit Kit

theorem size0 : sizeN 0 = 8 := by unfold sizeN; rw [sizeG_ge (by omega)]
theorem size1 : sizeN 1 = 8 := by unfold sizeN; rw [sizeG_ge (by omega)]
theorem size7 : sizeN 7 = 16 := by unfold sizeN; rw [sizeG_lt (by omega) (by omega), sizeG_ge (by omega)]
theorem lay0 : layI [] = List.replicate 8 0 := by unfold layI; rw [List.length_nil, size0]; rfl
theorem dist0 : Dist [] := fun i j x h => by simp at h
theorem one_ints (w : World) (x : Int) (t : TypeId) : Ints (w.alloc (.cells #[.int .i64 x] t)) (w.alloc (.cells #[.int .i64 x] t)).heap.size (some ⟨w.heap.size, 0, none⟩) [x] := fun _ => by
  refine ⟨_, rfl, by simp, fun i y hy => ?_⟩
  rw [add_zero_head, cell_of_row _ _ _ _ _ _ (heap_alloc_new w _)]
  match i, hy with
  | 0, hy => obtain rfl : x = y := by simpa using hy
             rfl

end Go.Proofs.Ytgnbempkobgeiaa.Hs
