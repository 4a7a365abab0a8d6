/-
  The document's example, at the head of all statements of the layer.
-/
import Derived.Test.YtngdjndekdcdkaaTrailC
import Derived.Test.YtngdjndekdcdkaaTrailS
import Derived.Test.YtngdjndekdcdkaaTrailH
import Derived.Test.YtngdjndekdcdkaaTrailI
namespace Go.Proofs.Ytngdjndekdcdkaa.Tr
open Go.RowKit Kit

theorem one_int (w : World) (x : Int) (t : TypeId) : Rds (w.alloc (.cells #[.int .i64 x] t)) (w.alloc (.cells #[.int .i64 x] t)).heap.size (some ⟨w.heap.size, 0, none⟩) (cellsI [x]) := fun _ =>
  ⟨_, rfl, by simp, fun j v hv => src1 w (.int .i64 x) t j v hv⟩
def sh0 : Cells := ⟨[5], [], []⟩
def sh1 : Cells := ⟨[5], [], [0]⟩
def sh2 : Cells := ⟨[7], [(0, 5)], [0]⟩
def sh3 : Cells := ⟨[5], [], []⟩
theorem few_small {c : Cells} (h1 : c.V.length ≤ 1) (h2 : c.N.length ≤ 1) (h3 : c.M.length ≤ 1) : Few c 1000000 := ⟨by omega, by omega, by omega⟩

set_option maxRecDepth 100000 in
set_option maxHeartbeats 2000000 in
theorem shown_any (w : World) : Calls Try.prog 17 #[] w fun e w' => e = .returned (.bool true) ∧ Q w w' := by
  have q0 := (Q.refl w).alloc (Obj.cells #[.int .i64 5] 3)
  have HR0 : Hid (Rd (w.alloc (Obj.cells #[.int .i64 5] 3)) sh0 (some ⟨w.heap.size, 0, none⟩) 1 none 0 none 0) := ⟨one_int w 5 _, Rds.nil _ _ _, Rds.nil _ _ _, by simp [sh0], by simp [sh0], by simp [sh0]⟩
  go_enter Try.func17, Try.ntmps17
  go_upto_region 2 with (go_at_call 20; refine (mark_any sh0 _ _ _ _ _ _ _ _ _ _ rfl rfl rfl HR0.out (few_small (by simp [sh0]) (by simp [sh0]) (by simp [sh0]))).mono ?_; rintro e w1 ⟨g1, k1, g2, k2, g3, k3, rfl, hO⟩; have HO := Lib.hid hO; clear hO)
  rw [show (markC sh0).V.length = 1 from rfl, show (markC sh0).N.length = 0 from rfl, show (markC sh0).M.length = 1 from rfl]
  have HB := Lib.hid (Box3.new w1 (.slice (some ⟨g1, 0, none⟩) 1 k1) (.slice (some ⟨g2, 0, none⟩) 0 k2) (.slice (some ⟨g3, 0, none⟩) 1 k3) 44)
  have qb := (Q.refl w1).alloc (.cells #[.slice (some ⟨g1, 0, none⟩) 1 k1, .slice (some ⟨g2, 0, none⟩) 0 k2, .slice (some ⟨g3, 0, none⟩) 1 k3] 44)
  have HR1 : Hid (Rd _ sh1 _ _ _ _ _ _) := HO.out.rd.q qb
  have Hq := Lib.hid ((q0.trans HO.out.q).trans qb)
  clear HO HR0 q0 qb
  generalize w1.alloc (.cells #[.slice (some ⟨g1, 0, none⟩) 1 k1, .slice (some ⟨g2, 0, none⟩) 0 k2, .slice (some ⟨g3, 0, none⟩) 1 k3] 44) = W1 at *
  generalize w1.heap.size = B1 at *
  have b0 := HB.out.c0
  have b1 := HB.out.c1
  have b2 := HB.out.c2
  go_upto_region 3 with (go_at_call 21; refine (set_some sh1 0 7 _ _ _ _ _ _ _ _ _ _ rfl rfl rfl HR1.out (few_small (by simp [sh1]) (by simp [sh1]) (by simp [sh1])) (by simp [sh1])).mono ?_; rintro e w2 ⟨g1, k1, g2, k2, g3, k3, rfl, hO⟩; have HO := Lib.hid hO; clear hO)
  rw [show (setC sh1 0 7).V.length = 1 from rfl, show (setC sh1 0 7).N.length = 1 from rfl, show (setC sh1 0 7).M.length = 1 from rfl]
  clear b0 b1 b2 HB HR1
  have HB := Lib.hid (Box3.new w2 (.slice (some ⟨g1, 0, none⟩) 1 k1) (.slice (some ⟨g2, 0, none⟩) 1 k2) (.slice (some ⟨g3, 0, none⟩) 1 k3) 44)
  have qb := (Q.refl w2).alloc (.cells #[.slice (some ⟨g1, 0, none⟩) 1 k1, .slice (some ⟨g2, 0, none⟩) 1 k2, .slice (some ⟨g3, 0, none⟩) 1 k3] 44)
  have HR2 : Hid (Rd _ sh2 _ _ _ _ _ _) := HO.out.rd.q qb
  have Hq2 := Lib.hid ((Hq.out.trans HO.out.q).trans qb)
  clear HO Hq qb
  generalize w2.alloc (.cells #[.slice (some ⟨g1, 0, none⟩) 1 k1, .slice (some ⟨g2, 0, none⟩) 1 k2, .slice (some ⟨g3, 0, none⟩) 1 k3] 44) = W2 at *
  generalize w2.heap.size = B2 at *
  have b0 := HB.out.c0
  have b1 := HB.out.c1
  have b2 := HB.out.c2
  go_upto_region 4 with (go_at_call 23; refine (back_some sh2 0 [5] _ _ _ _ _ _ _ _ _ _ rfl rfl rfl HR2.out (few_small (by simp [sh2]) (by simp [sh2]) (by simp [sh2])) rfl (by simp [sh2]) rfl).mono ?_; rintro e w3 ⟨h1, l1, h2, l2, h3, l3, rfl, hO⟩; have HO := Lib.hid hO; clear hO)
  rw [show (backC sh2 0 [5]).V.length = 1 from rfl, show (backC sh2 0 [5]).N.length = 0 from rfl, show (backC sh2 0 [5]).M.length = 0 from rfl]
  clear b0 b1 b2
  have HB3 := Lib.hid (Box3.new w3 (.slice (some ⟨h1, 0, none⟩) 1 l1) (.slice (some ⟨h2, 0, none⟩) 0 l2) (.slice (some ⟨h3, 0, none⟩) 0 l3) 44)
  have qb := (Q.refl w3).alloc (.cells #[.slice (some ⟨h1, 0, none⟩) 1 l1, .slice (some ⟨h2, 0, none⟩) 0 l2, .slice (some ⟨h3, 0, none⟩) 0 l3] 44)
  have HR3 : Hid (Rd _ sh3 _ _ _ _ _ _) := HO.out.rd.q qb
  have HR4 := Lib.hid (HR2.out.q (HO.out.q.trans qb))
  have HB4 := Lib.hid (HB.out.q (HO.out.q.trans qb))
  have Hq3 := Lib.hid ((Hq2.out.trans HO.out.q).trans qb)
  clear HO Hq2 qb HB HR2
  generalize w3.alloc (.cells #[.slice (some ⟨h1, 0, none⟩) 1 l1, .slice (some ⟨h2, 0, none⟩) 0 l2, .slice (some ⟨h3, 0, none⟩) 0 l3] 44) = W3 at *
  generalize w3.heap.size = B3 at *
  have b0 := HB3.out.c0
  have b1 := HB3.out.c1
  have b2 := HB3.out.c2
  have d0 := HB4.out.c0
  have d1 := HB4.out.c1
  have d2 := HB4.out.c2
  have x0 : W3.cell? ⟨h1, 0, none⟩ = some (.int .i64 5) := by
    obtain ⟨ad, e, _, hc⟩ := HR3.out.v (by simp [sh3, cellsI])
    injection e with e
    subst e
    have := hc 0 _ (by simp [sh3, cellsI]; rfl)
    rwa [add_zero_head] at this
  have x1 : W3.cell? ⟨g1, 0, none⟩ = some (.int .i64 7) := by
    obtain ⟨ad, e, _, hc⟩ := HR4.out.v (by simp [sh2, cellsI])
    injection e with e
    subst e
    have := hc 0 _ (by simp [sh2, cellsI]; rfl)
    rwa [add_zero_head] at this
  go_wp2_with (refine (right_true sh2 _ _ _ _ _ _ _ _ _ _ rfl rfl rfl HR4.out (few_small (by simp [sh2]) (by simp [sh2]) (by simp [sh2])) (by decide)).mono ?_; rintro e w4 ⟨rfl, q4⟩)
  go_ret
  exact ⟨rfl, Hq3.out.trans q4⟩
end Go.Proofs.Ytngdjndekdcdkaa.Tr
