/-
  The document's example holds: contract of shown.
-/
import Derived.Test.YtdedlkeeifgajaaHashU
namespace Go.Proofs.Ytdedlkeeifgajaa.Hs
open Go.RowKit Kit

theorem size0 : sizeN 0 = 8 := by unfold sizeN; rw [sizeG_ge (by omega)]
theorem size1 : sizeN 1 = 8 := by unfold sizeN; rw [sizeG_ge (by omega)]
theorem size7 : sizeN 7 = 16 := by unfold sizeN; rw [sizeG_lt (by omega) (by omega), sizeG_ge (by omega)]
theorem lay0 : layI [] = List.replicate 8 0 := by unfold layI; rw [List.length_nil, size0]; rfl
theorem dist0 : Dist [] := fun i j x h => by simp at h
theorem one_ints (w : World) (x : Int) (t : TypeId) : Ints (w.alloc (.cells #[.int .i64 x] t)) (w.alloc (.cells #[.int .i64 x] t)).heap.size (some ⟨w.heap.size, 0, none⟩) [x] := fun _ => by
  refine ⟨_, rfl, by simp, fun i y hy => ?_⟩
  rw [add_zero_head, cell_of_row _ _ _ _ _ _ (heap_alloc_new w _)]
  match i, hy with
  | 0, hy => obtain rfl : x = y := by simpa using hy
             rfl

set_option maxRecDepth 100000 in
set_option maxHeartbeats 1000000 in
theorem shown_any (w : World) : Calls Try.prog 10 #[] w fun e w' => e = .returned (.bool true) ∧ Q w w' := by
  have hmk : ∀ u : World, (Instr.makeSlice 23 (.int .i64 8) (.int .i64 8)).run Try.prog u = .ok (.slice (some ⟨u.heap.size, 0, none⟩) 8 8) (u.alloc (.cells (madeCells #[.int .i64 0] 8) 3)) := make_ints 8 (by omega)
  have q0 := ((Q.refl w).alloc (.cells (madeCells #[.int .i64 0] 8) 3)).alloc (.cells #[.int .i64 5] 3)
  have HS : Hid (Ints ((w.alloc (.cells (madeCells #[.int .i64 0] 8) 3)).alloc (.cells #[.int .i64 5] 3)) ((w.alloc (.cells (madeCells #[.int .i64 0] 8) 3)).alloc (.cells #[.int .i64 5] 3)).heap.size (some ⟨w.heap.size, 0, none⟩) (layI [])) := by
    rw [lay0]
    have q1 := (Q.refl (w.alloc (.cells (madeCells #[.int .i64 0] 8) 3))).alloc (.cells #[.int .i64 5] 3)
    exact ((OwnI.made w 8 3).ints.q (Nat.le_refl _) q1).more q1.size
  have HE : Hid (Ints ((w.alloc (.cells (madeCells #[.int .i64 0] 8) 3)).alloc (.cells #[.int .i64 5] 3)) ((w.alloc (.cells (madeCells #[.int .i64 0] 8) 3)).alloc (.cells #[.int .i64 5] 3)).heap.size (some ⟨w.heap.size + 1, 0, none⟩) [5]) := by
    have := one_ints (w.alloc (.cells (madeCells #[.int .i64 0] 8) 3)) 5 3
    rw [World.size_alloc w] at this
    exact this
  have Hl : Hid (8 = (layI []).length) := by rw [lay0]; rfl
  go_enter Try.func10, Try.ntmps10
  go_wp2_with fail
  clear hmk
  generalize (w.alloc (.cells (madeCells #[.int .i64 0] 8) 3)).alloc (.cells #[.int .i64 5] 3) = W at *
  refine (put_any none (some ⟨w.heap.size, 0, none⟩) (some ⟨w.heap.size + 1, 0, none⟩) 0 0 8 8 1 1 [] [5] W rfl Hl.out rfl (fun h => absurd h (by simp)) HS.out HE.out dist0 (by simp) (by simp) (by simp) (by simp) (by simp)).mono ?_
  rintro e w1 ⟨A, c, S, d, rfl, hk, hS, q1⟩
  have e1 : putL [] [5] = [[5]] := rfl
  have e2 : placeI [] [5] = 0 := rfl
  have e3 : newB [] [5] = true := rfl
  rw [e1] at hk hS ⊢
  rw [e2, e3]
  have q01 := q0.trans q1
  have Hk := Lib.hid hk
  have HS1 := Lib.hid hS
  have hd : Dist [[5]] := by have := putL_dist (key := [5]) dist0; rwa [e1] at this
  have hln : (layI [[5]]).length = 8 := by rw [layI_length]; exact size1
  rw [hln]
  have Hln : Hid (8 = (layI [[5]]).length) := hln.symm
  clear hk hS e1 e2 e3 hln HS HE Hl
  have q12 := (Q.refl w1).alloc (.cells #[.slice A 1 c, .slice S 8 d] 27)
  have b0 : (w1.alloc (.cells #[.slice A 1 c, .slice S 8 d] 27)).cell? ⟨w1.heap.size, 0, none⟩ = some (.slice A 1 c) := by simp
  have b1 : (w1.alloc (.cells #[.slice A 1 c, .slice S 8 d] 27)).cell? ⟨w1.heap.size, 1, none⟩ = some (.slice S 8 d) := by simp
  have bl : (w1.alloc (.cells #[.slice A 1 c, .slice S 8 d] 27)).heap.size = w1.heap.size + 1 := by simp
  have HE := one_ints (w1.alloc (.cells #[.slice A 1 c, .slice S 8 d] 27)) 5 3
  rw [bl] at HE
  have HE' := Lib.hid HE
  have q13 := q12.alloc (.cells #[.int .i64 5] 3)
  have q23 := (Q.refl (w1.alloc (.cells #[.slice A 1 c, .slice S 8 d] 27))).alloc (.cells #[.int .i64 5] 3)
  have B0 := Lib.hid b0
  have B1 := Lib.hid b1
  have Bl := Lib.hid bl
  clear HE b0 b1 bl
  go_wp2_with fail
  refine (findR_any A S (some ⟨w1.heap.size + 1, 0, none⟩) 1 c 8 d 1 1 [[5]] [5] _ rfl Hln.out rfl ((Hk.out.q (Nat.le_refl _) q13).more q13.size) ((HS1.out.q (Nat.le_refl _) q13).more q13.size) HE'.out hd (by simp [maxLen]) (by simp [maxLen]) (by simp)).mono ?_
  rintro e w3 ⟨rfl, q3⟩
  have e0 : atI [[5]] [5] = 0 := rfl
  rw [e0]
  have q03 := q13.trans q3
  have q33 := q23.trans q3
  have x0 := (q33.cell (p := ⟨w1.heap.size, 0, none⟩) (by rw [Bl.out]; show w1.heap.size < w1.heap.size + 1; omega)).trans B0.out
  have x1 := (q33.cell (p := ⟨w1.heap.size, 1, none⟩) (by rw [Bl.out]; show w1.heap.size < w1.heap.size + 1; omega)).trans B1.out
  have hl3 : w1.heap.size < w3.heap.size := by have := q33.size; have := Bl.out; omega
  have q34 := (Q.refl w3).alloc (.cells #[.int .i64 6] 3)
  have q04 := q03.trans q34
  clear e0 HE'
  go_wp2_with fail
  refine (findR_any A S (some ⟨w3.heap.size, 0, none⟩) 1 c 8 d 1 1 [[5]] [6] _ rfl Hln.out rfl ((Hk.out.q (Nat.le_refl _) q04).more q04.size) ((HS1.out.q (Nat.le_refl _) q04).more q04.size) (one_ints w3 6 3) hd (by simp [maxLen]) (by simp [maxLen]) (by simp)).mono ?_
  rintro e w5 ⟨rfl, q5⟩
  have e0 : atI [[5]] [6] = -1 := rfl
  rw [e0]
  have q45 := q34.trans q5
  have q05 := q04.trans q5
  have y0 := (q45.cell (p := ⟨w1.heap.size, 0, none⟩) hl3).trans x0
  have y1 := (q45.cell (p := ⟨w1.heap.size, 1, none⟩) hl3).trans x1
  clear e0 x0 x1
  go_wp2_with fail
  refine (size_any 7 _ (by omega)).mono ?_
  rintro e w6 ⟨rfl, rfl⟩
  rw [size7]
  go_wp2_with fail
  refine (hash_any none 0 0 [] _ rfl (fun h => absurd h (by simp)) (by simp)).mono ?_
  rintro e w6 ⟨rfl, rfl⟩
  have e0 : hashI [] = 2166136261 := rfl
  rw [e0]
  clear e0
  go_wp2_with fail
  refine (rightT_any A S 1 c 8 d [[5]] _ rfl size1.symm ((Hk.out.q (Nat.le_refl _) q05).more q05.size) ((HS1.out.q (Nat.le_refl _) q05).more q05.size) hd (by simp [maxLen]) (by simp)).mono ?_
  rintro e w7 ⟨rfl, q7⟩
  go_wp2_with fail
  go_ret
  exact ⟨rfl, (q01.trans q05).trans q7⟩
end Go.Proofs.Ytdedlkeeifgajaa.Hs
