/-
  TrailNone: without a mark nothing is taken back, nor kept; a mark that is taken back at once changes nothing. Proved for all cells: no condition.
-/
import Derived.Test.YtngdjndekdcdkaaTrailO
import Derived.Test.YtngdjndekdcdkaaRows
namespace Go.Proofs.Ytngdjndekdcdkaa.trailNone
open Go.ChangeShapes Go.WideShapes Go.RowKit Kit Go.Deep Go.Joins Tr

set_option maxRecDepth 100000 in
set_option maxHeartbeats 4000000 in
theorem walk (c : Cells) (A D E : Option Addr) (n1 k1 n2 k2 n3 k3 : Nat) (w : World) (h1 : n1 = c.V.length) (h2 : n2 = c.N.length) (h3 : n3 = c.M.length) (h : Rd w c A k1 D k2 E k3) (hw : Few c 1152921504606846976) :
    Calls Try.prog 8 #[.agg #[.slice A n1 k1, .slice D n2 k2, .slice E n3 k3]] w fun e w' => e = .returned (.bool true) ∧ Q w w' := by
  subst h1 h2 h3
  have q0 := (Q.refl w).alloc (Obj.cells #[Value.slice A c.V.length k1, Value.slice D c.N.length k2, Value.slice E c.M.length k3] 44)
  have HB1 := Lib.hid (Box3.new w (Value.slice A c.V.length k1) (Value.slice D c.N.length k2) (Value.slice E c.M.length k3) 44)
  have HR1 := Lib.hid (h.q q0)
  obtain ⟨l1, l2, l3⟩ := hw
  have Hl := Lib.hid (⟨l1, l2, l3⟩ : c.V.length ≤ 1152921504606846976 ∧ c.N.length ≤ 1152921504606846976 ∧ c.M.length ≤ 1152921504606846976)
  clear h l1 l2 l3
  go_enter Try.func8, Try.ntmps8
  go_upto_region 1 with fail
  generalize w.alloc (Obj.cells #[Value.slice A c.V.length k1, Value.slice D c.N.length k2, Value.slice E c.M.length k3] 44) = W0 at *
  go_upto_region 2 with (go_at_call 17; refine (shown_any _).mono ?_; rintro e w1 ⟨rfl, q1⟩)
  have Hq := Lib.hid (q0.trans q1)
  have HB1 := Lib.hid (HB1.out.q q1)
  have HR1 := Lib.hid (HR1.out.q q1)
  have b1_0 := HB1.out.c0
  have b1_1 := HB1.out.c1
  have b1_2 := HB1.out.c2
  clear q0 q1
  cases hfw : fewB c
  · go_wp2_with (go_at_call 18; refine (few_any c _ _ _ _ _ _ _ _ _ _ rfl rfl rfl (by have := Hl.out; omega) (by have := Hl.out; omega) (by have := Hl.out; omega)).mono ?_; rintro e w2 ⟨rfl, q2⟩; rw [hfw])
    go_ret
    exact ⟨rfl, Hq.out.trans q2⟩
  have Hf := Lib.hid (few_500 hfw)
  have hfM : Few c 1000000 := few_more Hf.out (by omega)
  obtain ⟨fv, fn, fm⟩ := Hf.out
  have HfM := Lib.hid hfM
  clear hfM
  go_wp2_with fail
  refine (few_any c _ _ _ _ _ _ _ _ _ _ rfl rfl rfl (by omega) (by omega) (by omega)).mono ?_
  rintro e w2 ⟨rfl, q2⟩
  rw [hfw]
  clear b1_0 b1_1 b1_2 hfw
  have HB1 := Lib.hid (HB1.out.q q2)
  have HR1 := Lib.hid (HR1.out.q q2)
  have Hq := Lib.hid (Hq.out.trans q2)
  have b1_0 := HB1.out.c0
  have b1_1 := HB1.out.c1
  have b1_2 := HB1.out.c2
  clear q2
  go_wp2_with fail
  refine (refRight_any c _ _ _ _ _ _ _ _ _ _ rfl rfl rfl HR1.out HfM.out).mono ?_
  rintro e w3 ⟨rfl, q3⟩
  cases hrt : rightB c
  · go_wp2_with fail
    go_ret
    exact ⟨rfl, Hq.out.trans q3⟩
  have HRt := Lib.hid hrt
  clear b1_0 b1_1 b1_2 hrt
  have HB1 := Lib.hid (HB1.out.q q3)
  have HR1 := Lib.hid (HR1.out.q q3)
  have Hq := Lib.hid (Hq.out.trans q3)
  clear q3
  have b1_0 := HB1.out.c0
  have b1_1 := HB1.out.c1
  have b1_2 := HB1.out.c2
  have HfK : Hid (Few (markC c) 1000000) := few_mark Hf.out (by omega)
  go_upto_region 5 with (first | (go_at_call 20; refine (mark_any c _ _ _ _ _ _ _ _ _ _ rfl rfl rfl HR1.out HfM.out).mono ?_; rintro e w4 ⟨g1_4, k1_4, g2_4, k2_4, g3_4, k3_4, rfl, hO4⟩; have HO4 := Lib.hid hO4; clear hO4) | (go_at_call 23; refine (back_marked c _ _ _ _ _ _ _ _ _ _ rfl rfl rfl HO4.out.rd HfK.out).mono ?_; rintro e w5 ⟨g1_5, k1_5, g2_5, k2_5, g3_5, k3_5, rfl, hO5⟩; have HO5 := Lib.hid hO5; clear hO5))
  clear b1_0 b1_1 b1_2
  have qb := ((HO4.out.q).trans HO5.out.q).trans ((Q.refl w5).alloc (.cells #[.slice (some ⟨g1_5, 0, none⟩) (c).V.length k1_5, .slice (some ⟨g2_5, 0, none⟩) (c).N.length k2_5, .slice (some ⟨g3_5, 0, none⟩) (c).M.length k3_5] 44))
  have HB1 := Lib.hid (HB1.out.q qb)
  have HR1 := Lib.hid (HR1.out.q qb)
  have Hq := Lib.hid (Hq.out.trans qb)
  have HB4 := Lib.hid (Box3.new w5 (.slice (some ⟨g1_5, 0, none⟩) (c).V.length k1_5) (.slice (some ⟨g2_5, 0, none⟩) (c).N.length k2_5) (.slice (some ⟨g3_5, 0, none⟩) (c).M.length k3_5) 44)
  have HR4 := Lib.hid (HO5.out.rd.q ((Q.refl w5).alloc (.cells #[.slice (some ⟨g1_5, 0, none⟩) (c).V.length k1_5, .slice (some ⟨g2_5, 0, none⟩) (c).N.length k2_5, .slice (some ⟨g3_5, 0, none⟩) (c).M.length k3_5] 44)))
  clear qb HO4 HO5
  generalize w5.alloc (.cells #[.slice (some ⟨g1_5, 0, none⟩) (c).V.length k1_5, .slice (some ⟨g2_5, 0, none⟩) (c).N.length k2_5, .slice (some ⟨g3_5, 0, none⟩) (c).M.length k3_5] 44) = W5 at *
  generalize w5.heap.size = B5 at *
  have b1_0 := HB1.out.c0
  have b1_1 := HB1.out.c1
  have b1_2 := HB1.out.c2
  go_upto_region 6 with (first | (go_at_call 20; refine (mark_any c _ _ _ _ _ _ _ _ _ _ rfl rfl rfl HR1.out HfM.out).mono ?_; rintro e w6 ⟨g1_6, k1_6, g2_6, k2_6, g3_6, k3_6, rfl, hO6⟩; have HO6 := Lib.hid hO6; clear hO6) | (go_at_call 24; refine (keep_marked c _ _ _ _ _ _ _ _ _ _ rfl rfl rfl HO6.out.rd HfK.out).mono ?_; rintro e w7 ⟨g1_7, k1_7, g2_7, k2_7, g3_7, k3_7, rfl, hO7⟩; have HO7 := Lib.hid hO7; clear hO7))
  clear b1_0 b1_1 b1_2
  have qb := ((HO6.out.q).trans HO7.out.q).trans ((Q.refl w7).alloc (.cells #[.slice (some ⟨g1_7, 0, none⟩) (c).V.length k1_7, .slice (some ⟨g2_7, 0, none⟩) (c).N.length k2_7, .slice (some ⟨g3_7, 0, none⟩) (c).M.length k3_7] 44))
  have HB1 := Lib.hid (HB1.out.q qb)
  have HR1 := Lib.hid (HR1.out.q qb)
  have HB4 := Lib.hid (HB4.out.q qb)
  have HR4 := Lib.hid (HR4.out.q qb)
  have Hq := Lib.hid (Hq.out.trans qb)
  have HB6 := Lib.hid (Box3.new w7 (.slice (some ⟨g1_7, 0, none⟩) (c).V.length k1_7) (.slice (some ⟨g2_7, 0, none⟩) (c).N.length k2_7) (.slice (some ⟨g3_7, 0, none⟩) (c).M.length k3_7) 44)
  have HR6 := Lib.hid (HO7.out.rd.q ((Q.refl w7).alloc (.cells #[.slice (some ⟨g1_7, 0, none⟩) (c).V.length k1_7, .slice (some ⟨g2_7, 0, none⟩) (c).N.length k2_7, .slice (some ⟨g3_7, 0, none⟩) (c).M.length k3_7] 44)))
  clear qb HO6 HO7
  generalize w7.alloc (.cells #[.slice (some ⟨g1_7, 0, none⟩) (c).V.length k1_7, .slice (some ⟨g2_7, 0, none⟩) (c).N.length k2_7, .slice (some ⟨g3_7, 0, none⟩) (c).M.length k3_7] 44) = W7 at *
  generalize w7.heap.size = B7 at *
  have b1_0 := HB1.out.c0
  have b1_1 := HB1.out.c1
  have b1_2 := HB1.out.c2
  go_upto_region 7 with fail
  clear b1_0 b1_1 b1_2
  have qb := (Q.refl W7).alloc (.cells #[.slice A c.V.length k1, .slice D c.N.length k2, .slice none 0 0] 44)
  have HR8 : Hid (Rd W7 ⟨c.V, c.N, []⟩ A k1 D k2 none 0) := ⟨HR1.out.v, HR1.out.n, Rds.nil _ _ _, HR1.out.lv, HR1.out.ln, Nat.le_refl _⟩
  have HB1 := Lib.hid (HB1.out.q qb)
  have HR1 := Lib.hid (HR1.out.q qb)
  have HB4 := Lib.hid (HB4.out.q qb)
  have HR4 := Lib.hid (HR4.out.q qb)
  have HB6 := Lib.hid (HB6.out.q qb)
  have HR6 := Lib.hid (HR6.out.q qb)
  have Hq := Lib.hid (Hq.out.trans qb)
  have HR8 := Lib.hid (HR8.out.q qb)
  have HB8 := Lib.hid (Box3.new W7 (.slice A c.V.length k1) (.slice D c.N.length k2) (.slice none 0 0) 44)
  clear qb
  generalize W7.alloc (.cells #[.slice A c.V.length k1, .slice D c.N.length k2, .slice none 0 0] 44) = W8 at *
  generalize W7.heap.size = B8 at *
  have HfB : Hid (Few (⟨c.V, c.N, []⟩ : Cells) 1000000) := ⟨HfM.out.1, HfM.out.2.1, by simp⟩
  have b8_0 := HB8.out.c0
  have b8_1 := HB8.out.c1
  have b8_2 := HB8.out.c2
  go_upto_region 8 with (go_at_call 23; refine (back_none ⟨c.V, c.N, []⟩ _ _ _ _ _ _ _ _ _ _ rfl rfl rfl HR8.out HfB.out rfl).mono ?_; rintro e w9 ⟨g1_9, k1_9, g2_9, k2_9, g3_9, k3_9, rfl, hO9⟩; have HO9 := Lib.hid hO9; clear hO9)
  clear b8_0 b8_1 b8_2
  have qb := (HO9.out.q).trans ((Q.refl w9).alloc (.cells #[.slice (some ⟨g1_9, 0, none⟩) ((⟨c.V, c.N, []⟩ : Cells)).V.length k1_9, .slice (some ⟨g2_9, 0, none⟩) ((⟨c.V, c.N, []⟩ : Cells)).N.length k2_9, .slice (some ⟨g3_9, 0, none⟩) ((⟨c.V, c.N, []⟩ : Cells)).M.length k3_9] 44))
  have HB1 := Lib.hid (HB1.out.q qb)
  have HR1 := Lib.hid (HR1.out.q qb)
  have HB4 := Lib.hid (HB4.out.q qb)
  have HR4 := Lib.hid (HR4.out.q qb)
  have HB6 := Lib.hid (HB6.out.q qb)
  have HR6 := Lib.hid (HR6.out.q qb)
  have HB8 := Lib.hid (HB8.out.q qb)
  have HR8 := Lib.hid (HR8.out.q qb)
  have Hq := Lib.hid (Hq.out.trans qb)
  have HB9 := Lib.hid (Box3.new w9 (.slice (some ⟨g1_9, 0, none⟩) ((⟨c.V, c.N, []⟩ : Cells)).V.length k1_9) (.slice (some ⟨g2_9, 0, none⟩) ((⟨c.V, c.N, []⟩ : Cells)).N.length k2_9) (.slice (some ⟨g3_9, 0, none⟩) ((⟨c.V, c.N, []⟩ : Cells)).M.length k3_9) 44)
  have HR9 := Lib.hid (HO9.out.rd.q ((Q.refl w9).alloc (.cells #[.slice (some ⟨g1_9, 0, none⟩) ((⟨c.V, c.N, []⟩ : Cells)).V.length k1_9, .slice (some ⟨g2_9, 0, none⟩) ((⟨c.V, c.N, []⟩ : Cells)).N.length k2_9, .slice (some ⟨g3_9, 0, none⟩) ((⟨c.V, c.N, []⟩ : Cells)).M.length k3_9] 44)))
  clear qb HO9
  generalize w9.alloc (.cells #[.slice (some ⟨g1_9, 0, none⟩) ((⟨c.V, c.N, []⟩ : Cells)).V.length k1_9, .slice (some ⟨g2_9, 0, none⟩) ((⟨c.V, c.N, []⟩ : Cells)).N.length k2_9, .slice (some ⟨g3_9, 0, none⟩) ((⟨c.V, c.N, []⟩ : Cells)).M.length k3_9] 44) = W9 at *
  generalize w9.heap.size = B9 at *
  have b8_0 := HB8.out.c0
  have b8_1 := HB8.out.c1
  have b8_2 := HB8.out.c2
  go_upto_region 9 with (go_at_call 24; refine (keep_none ⟨c.V, c.N, []⟩ _ _ _ _ _ _ _ _ _ _ rfl rfl rfl HR8.out HfB.out rfl).mono ?_; rintro e w10 ⟨g1_10, k1_10, g2_10, k2_10, g3_10, k3_10, rfl, hO10⟩; have HO10 := Lib.hid hO10; clear hO10)
  clear b8_0 b8_1 b8_2
  have qb := (HO10.out.q).trans ((Q.refl w10).alloc (.cells #[.slice (some ⟨g1_10, 0, none⟩) ((⟨c.V, c.N, []⟩ : Cells)).V.length k1_10, .slice (some ⟨g2_10, 0, none⟩) ((⟨c.V, c.N, []⟩ : Cells)).N.length k2_10, .slice (some ⟨g3_10, 0, none⟩) ((⟨c.V, c.N, []⟩ : Cells)).M.length k3_10] 44))
  have HB1 := Lib.hid (HB1.out.q qb)
  have HR1 := Lib.hid (HR1.out.q qb)
  have HB4 := Lib.hid (HB4.out.q qb)
  have HR4 := Lib.hid (HR4.out.q qb)
  have HB6 := Lib.hid (HB6.out.q qb)
  have HR6 := Lib.hid (HR6.out.q qb)
  have HB8 := Lib.hid (HB8.out.q qb)
  have HR8 := Lib.hid (HR8.out.q qb)
  have HB9 := Lib.hid (HB9.out.q qb)
  have HR9 := Lib.hid (HR9.out.q qb)
  have Hq := Lib.hid (Hq.out.trans qb)
  have HB11 := Lib.hid (Box3.new w10 (.slice (some ⟨g1_10, 0, none⟩) ((⟨c.V, c.N, []⟩ : Cells)).V.length k1_10) (.slice (some ⟨g2_10, 0, none⟩) ((⟨c.V, c.N, []⟩ : Cells)).N.length k2_10) (.slice (some ⟨g3_10, 0, none⟩) ((⟨c.V, c.N, []⟩ : Cells)).M.length k3_10) 44)
  have HR11 := Lib.hid (HO10.out.rd.q ((Q.refl w10).alloc (.cells #[.slice (some ⟨g1_10, 0, none⟩) ((⟨c.V, c.N, []⟩ : Cells)).V.length k1_10, .slice (some ⟨g2_10, 0, none⟩) ((⟨c.V, c.N, []⟩ : Cells)).N.length k2_10, .slice (some ⟨g3_10, 0, none⟩) ((⟨c.V, c.N, []⟩ : Cells)).M.length k3_10] 44)))
  clear qb HO10
  generalize w10.alloc (.cells #[.slice (some ⟨g1_10, 0, none⟩) ((⟨c.V, c.N, []⟩ : Cells)).V.length k1_10, .slice (some ⟨g2_10, 0, none⟩) ((⟨c.V, c.N, []⟩ : Cells)).N.length k2_10, .slice (some ⟨g3_10, 0, none⟩) ((⟨c.V, c.N, []⟩ : Cells)).M.length k3_10] 44) = W10 at *
  generalize w10.heap.size = B10 at *
  have b1_0 := HB1.out.c0
  have b1_1 := HB1.out.c1
  have b1_2 := HB1.out.c2
  have b4_0 := HB4.out.c0
  have b4_1 := HB4.out.c1
  have b4_2 := HB4.out.c2
  have b6_0 := HB6.out.c0
  have b6_1 := HB6.out.c1
  have b6_2 := HB6.out.c2
  have b8_0 := HB8.out.c0
  have b8_1 := HB8.out.c1
  have b8_2 := HB8.out.c2
  have b9_0 := HB9.out.c0
  have b9_1 := HB9.out.c1
  have b9_2 := HB9.out.c2
  have b11_0 := HB11.out.c0
  have b11_1 := HB11.out.c1
  have b11_2 := HB11.out.c2
  go_wp2_with fail
  refine (same_any c _ _ _ _ _ _ _ _ _ _ _ _ _ _ _ _ _ _ _ rfl rfl rfl rfl rfl rfl HR4.out HR1.out HfM.out).mono ?_
  rintro e y1 ⟨rfl, qs⟩
  clear b1_0 b1_1 b1_2 b4_0 b4_1 b4_2 b6_0 b6_1 b6_2 b8_0 b8_1 b8_2 b9_0 b9_1 b9_2 b11_0 b11_1 b11_2
  have HB1 := Lib.hid (HB1.out.q qs)
  have HR1 := Lib.hid (HR1.out.q qs)
  have HB4 := Lib.hid (HB4.out.q qs)
  have HR4 := Lib.hid (HR4.out.q qs)
  have HB6 := Lib.hid (HB6.out.q qs)
  have HR6 := Lib.hid (HR6.out.q qs)
  have HB8 := Lib.hid (HB8.out.q qs)
  have HR8 := Lib.hid (HR8.out.q qs)
  have HB9 := Lib.hid (HB9.out.q qs)
  have HR9 := Lib.hid (HR9.out.q qs)
  have HB11 := Lib.hid (HB11.out.q qs)
  have HR11 := Lib.hid (HR11.out.q qs)
  have Hq := Lib.hid (Hq.out.trans qs)
  clear qs
  have b1_0 := HB1.out.c0
  have b1_1 := HB1.out.c1
  have b1_2 := HB1.out.c2
  have b4_0 := HB4.out.c0
  have b4_1 := HB4.out.c1
  have b4_2 := HB4.out.c2
  have b6_0 := HB6.out.c0
  have b6_1 := HB6.out.c1
  have b6_2 := HB6.out.c2
  have b8_0 := HB8.out.c0
  have b8_1 := HB8.out.c1
  have b8_2 := HB8.out.c2
  have b9_0 := HB9.out.c0
  have b9_1 := HB9.out.c1
  have b9_2 := HB9.out.c2
  have b11_0 := HB11.out.c0
  have b11_1 := HB11.out.c1
  have b11_2 := HB11.out.c2
  go_wp2_with fail
  refine (same_any c _ _ _ _ _ _ _ _ _ _ _ _ _ _ _ _ _ _ _ rfl rfl rfl rfl rfl rfl HR6.out HR1.out HfM.out).mono ?_
  rintro e y2 ⟨rfl, qs⟩
  clear b1_0 b1_1 b1_2 b4_0 b4_1 b4_2 b6_0 b6_1 b6_2 b8_0 b8_1 b8_2 b9_0 b9_1 b9_2 b11_0 b11_1 b11_2
  have HB1 := Lib.hid (HB1.out.q qs)
  have HR1 := Lib.hid (HR1.out.q qs)
  have HB4 := Lib.hid (HB4.out.q qs)
  have HR4 := Lib.hid (HR4.out.q qs)
  have HB6 := Lib.hid (HB6.out.q qs)
  have HR6 := Lib.hid (HR6.out.q qs)
  have HB8 := Lib.hid (HB8.out.q qs)
  have HR8 := Lib.hid (HR8.out.q qs)
  have HB9 := Lib.hid (HB9.out.q qs)
  have HR9 := Lib.hid (HR9.out.q qs)
  have HB11 := Lib.hid (HB11.out.q qs)
  have HR11 := Lib.hid (HR11.out.q qs)
  have Hq := Lib.hid (Hq.out.trans qs)
  clear qs
  have b1_0 := HB1.out.c0
  have b1_1 := HB1.out.c1
  have b1_2 := HB1.out.c2
  have b4_0 := HB4.out.c0
  have b4_1 := HB4.out.c1
  have b4_2 := HB4.out.c2
  have b6_0 := HB6.out.c0
  have b6_1 := HB6.out.c1
  have b6_2 := HB6.out.c2
  have b8_0 := HB8.out.c0
  have b8_1 := HB8.out.c1
  have b8_2 := HB8.out.c2
  have b9_0 := HB9.out.c0
  have b9_1 := HB9.out.c1
  have b9_2 := HB9.out.c2
  have b11_0 := HB11.out.c0
  have b11_1 := HB11.out.c1
  have b11_2 := HB11.out.c2
  go_wp2_with fail
  refine (same_any ⟨c.V, c.N, []⟩ _ _ _ _ _ _ _ _ _ _ _ _ _ _ _ _ _ _ _ rfl rfl rfl rfl rfl rfl HR9.out HR8.out HfB.out).mono ?_
  rintro e y3 ⟨rfl, qs⟩
  clear b1_0 b1_1 b1_2 b4_0 b4_1 b4_2 b6_0 b6_1 b6_2 b8_0 b8_1 b8_2 b9_0 b9_1 b9_2 b11_0 b11_1 b11_2
  have HB1 := Lib.hid (HB1.out.q qs)
  have HR1 := Lib.hid (HR1.out.q qs)
  have HB4 := Lib.hid (HB4.out.q qs)
  have HR4 := Lib.hid (HR4.out.q qs)
  have HB6 := Lib.hid (HB6.out.q qs)
  have HR6 := Lib.hid (HR6.out.q qs)
  have HB8 := Lib.hid (HB8.out.q qs)
  have HR8 := Lib.hid (HR8.out.q qs)
  have HB9 := Lib.hid (HB9.out.q qs)
  have HR9 := Lib.hid (HR9.out.q qs)
  have HB11 := Lib.hid (HB11.out.q qs)
  have HR11 := Lib.hid (HR11.out.q qs)
  have Hq := Lib.hid (Hq.out.trans qs)
  clear qs
  have b1_0 := HB1.out.c0
  have b1_1 := HB1.out.c1
  have b1_2 := HB1.out.c2
  have b4_0 := HB4.out.c0
  have b4_1 := HB4.out.c1
  have b4_2 := HB4.out.c2
  have b6_0 := HB6.out.c0
  have b6_1 := HB6.out.c1
  have b6_2 := HB6.out.c2
  have b8_0 := HB8.out.c0
  have b8_1 := HB8.out.c1
  have b8_2 := HB8.out.c2
  have b9_0 := HB9.out.c0
  have b9_1 := HB9.out.c1
  have b9_2 := HB9.out.c2
  have b11_0 := HB11.out.c0
  have b11_1 := HB11.out.c1
  have b11_2 := HB11.out.c2
  go_wp2_with fail
  refine (same_any ⟨c.V, c.N, []⟩ _ _ _ _ _ _ _ _ _ _ _ _ _ _ _ _ _ _ _ rfl rfl rfl rfl rfl rfl HR11.out HR8.out HfB.out).mono ?_
  rintro e y4 ⟨rfl, qs⟩
  clear b1_0 b1_1 b1_2 b4_0 b4_1 b4_2 b6_0 b6_1 b6_2 b8_0 b8_1 b8_2 b9_0 b9_1 b9_2 b11_0 b11_1 b11_2
  have HB1 := Lib.hid (HB1.out.q qs)
  have HR1 := Lib.hid (HR1.out.q qs)
  have HB4 := Lib.hid (HB4.out.q qs)
  have HR4 := Lib.hid (HR4.out.q qs)
  have HB6 := Lib.hid (HB6.out.q qs)
  have HR6 := Lib.hid (HR6.out.q qs)
  have HB8 := Lib.hid (HB8.out.q qs)
  have HR8 := Lib.hid (HR8.out.q qs)
  have HB9 := Lib.hid (HB9.out.q qs)
  have HR9 := Lib.hid (HR9.out.q qs)
  have HB11 := Lib.hid (HB11.out.q qs)
  have HR11 := Lib.hid (HR11.out.q qs)
  have Hq := Lib.hid (Hq.out.trans qs)
  clear qs
  go_wp2_with fail
  go_ret
  exact ⟨rfl, Hq.out⟩

set_option maxRecDepth 100000 in
theorem lifted (os : Os) (started : os.Started) (H : Type) (enc : TypeId × Value → H) :
    ReturnsInHanded {} Try.checked os 8 .any (Rows.trailNoneSpec.pre6 enc Try.prog Try.f8 Rows.trailNoneRow.domain false) (Rows.trailNoneSpec.post enc Try.prog Try.f8 false true false false) := by
  refine returnsInHanded_of_change_sized (C := Try.checked) own started (by kernel_rfl) Try.func8
    (ChangeSpec.witness6 (enc := enc) (C := Try.checked) false ⟨#[], #[.agg #[.slice none 0 0, .slice none 0 0, .slice none 0 0]], []⟩ 8 (by kernel_rfl) (by kernel_rfl) (by kernel_rfl) (by kernel_rfl)) ?_
  intro W base args ds gs before hval0 hW hcnd hsz0 _
  have hval : ∀ (j : Nat) t v, Try.f8.params[j]? = some t → args[j]? = some v → Value.okWide Try.prog W .any base t v := hval0
  have hW' := hW
  obtain ⟨p, q, hA0, hV, rfl, hfz, hnd⟩ := hW
  have hA : DataW.TrodAll enc Try.prog W 0 (fun _ => true) true Try.f8.params.toList args.toList ds p := hA0
  rw [Try.params8] at hA hval
  obtain ⟨v0, vs0, d0, ds0, p0, q0, hargs, rfl, rfl, h0, r0⟩ := trodAll_cons hA
  obtain ⟨rfl, rfl, rfl⟩ := trodAll_nil r0
  obtain rfl : args = #[v0] := by cases args; simp_all
  obtain ⟨rfl, rfl⟩ := trodVars_none hV
  have z0 : ∀ n ∈ d0.weights Try.prog 44, n ≤ reachBytes := fun n hn => by
    have := List.all_eq_true.1 hsz0 n (DataW.weights_mem_each (j := 0) (t := 44) (d := d0) (by rw [Try.params8]; rfl) rfl n hn)
    simpa using this
  obtain ⟨c, A, n1, k1, D, n2, k2, E, n3, k3, rfl, h1, h2, h3, h, hw⟩ := open_cells (hval 0 44 v0 rfl rfl) h0 z0
  clear hA0 hval0
  refine (walk c A D E n1 k1 n2 k2 n3 k3 W h1 h2 h3 h hw).mono fun e W' ⟨he, hg⟩ => ?_
  subst he
  exact ⟨_, rfl, post_law laid (by rw [Try.params8]; decide +kernel) rfl rfl (by kernel_rfl) Try.underlying4 hW' hg⟩

/-- THE STATEMENT -/
theorem proved : Rows.TrailNoneSaid :=
  OpenClaim.holds_of_wide 8 Try.f8 rfl rfl rfl rfl rfl rfl rfl ⟨rfl, rfl, rfl, rfl, rfl⟩ rfl rfl rfl rfl rfl (by kernel_rfl) Try.func8 (by kernel_rfl)
    (of_decide_eq_true (by kernel_rfl)) (by unfold Func.isWrapper; first | (rw [if_pos (by decide +kernel)]; kernel_rfl) | (rw [if_neg (by decide +kernel)]; exact ⟨rfl, rfl⟩))
    (fun os started H enc _ => lifted os started H enc)
end Go.Proofs.Ytngdjndekdcdkaa.trailNone
