/-
  TrailTwo: what is set is as set when it is taken back to a mark behind it; taken back further it is as it was. Proved for all cells, places and numbers: no condition.
-/
import Derived.Test.YtngdjndekdcdkaaTrailO
import Derived.Test.YtngdjndekdcdkaaRows
import Derived.Test.YtngdjndekdcdkaaTrailAct
namespace Go.Proofs.Ytngdjndekdcdkaa.trailTwo
open Go.ChangeShapes Go.WideShapes Go.RowKit Kit Go.Deep Go.Joins Tr

set_option maxRecDepth 100000 in
set_option maxHeartbeats 8000000 in
theorem walk (c : Cells) (A D E : Option Addr) (n1 k1 n2 k2 n3 k3 : Nat) (at_ x y : Int) (w : World) (h1 : n1 = c.V.length) (h2 : n2 = c.N.length) (h3 : n3 = c.M.length) (h : Rd w c A k1 D k2 E k3) (hw : Few c 1152921504606846976) :
    Calls Try.prog 6 #[.agg #[.slice A n1 k1, .slice D n2 k2, .slice E n3 k3, .int .i64 at_, .int .i64 x, .int .i64 y]] w fun e w' => e = .returned (.bool true) ∧ Q w w' := by
  subst h1 h2 h3
  have q0 := ((Q.refl w).alloc (Obj.cells #[Value.slice A c.V.length k1, Value.slice D c.N.length k2, Value.slice E c.M.length k3, Value.int .i64 at_, Value.int .i64 x, Value.int .i64 y] 58)).alloc (Obj.cells #[Value.slice A c.V.length k1, Value.slice D c.N.length k2, Value.slice E c.M.length k3] 44)
  have X := Box3.new (w.alloc (Obj.cells #[Value.slice A c.V.length k1, Value.slice D c.N.length k2, Value.slice E c.M.length k3, Value.int .i64 at_, Value.int .i64 x, Value.int .i64 y] 58)) (Value.slice A c.V.length k1) (Value.slice D c.N.length k2) (Value.slice E c.M.length k3) 44
  rw [World.size_alloc] at X
  have HB1 := Lib.hid X
  have HR1 := Lib.hid (h.q q0)
  obtain ⟨l1, l2, l3⟩ := hw
  have Hl := Lib.hid (⟨l1, l2, l3⟩ : c.V.length ≤ 1152921504606846976 ∧ c.N.length ≤ 1152921504606846976 ∧ c.M.length ≤ 1152921504606846976)
  clear h l1 l2 l3 X
  go_enter Try.func6, Try.ntmps6
  go_upto_region 5 with fail
  generalize (w.alloc (Obj.cells #[Value.slice A c.V.length k1, Value.slice D c.N.length k2, Value.slice E c.M.length k3, Value.int .i64 at_, Value.int .i64 x, Value.int .i64 y] 58)).alloc (Obj.cells #[Value.slice A c.V.length k1, Value.slice D c.N.length k2, Value.slice E c.M.length k3] 44) = W0 at *
  go_upto_region 6 with (go_at_call 17; refine (shown_any _).mono ?_; rintro e w1 ⟨rfl, q1⟩)
  have Hq := Lib.hid (q0.trans q1)
  have HB1 := Lib.hid (HB1.out.q q1)
  have HR1 := Lib.hid (HR1.out.q q1)
  have b1_0 := HB1.out.c0
  have b1_1 := HB1.out.c1
  have b1_2 := HB1.out.c2
  clear q0 q1
  cases hfw : fewB c
  · go_wp2_with (go_at_call 18; refine (few_any c _ _ _ _ _ _ _ _ _ _ rfl rfl rfl (by have := Hl.out; omega) (by have := Hl.out; omega) (by have := Hl.out; omega)).mono ?_; rintro e w2 ⟨rfl, q2⟩; rw [hfw])
    go_ret
    exact ⟨rfl, Hq.out.trans q2⟩
  have Hf := Lib.hid (few_500 hfw)
  have hfM : Few c 1000000 := few_more Hf.out (by omega)
  obtain ⟨fv, fn, fm⟩ := Hf.out
  have HfM := Lib.hid hfM
  clear hfM
  go_wp2_with fail
  refine (few_any c _ _ _ _ _ _ _ _ _ _ rfl rfl rfl (by omega) (by omega) (by omega)).mono ?_
  rintro e w2 ⟨rfl, q2⟩
  rw [hfw]
  clear b1_0 b1_1 b1_2 hfw
  have HB1 := Lib.hid (HB1.out.q q2)
  have HR1 := Lib.hid (HR1.out.q q2)
  have Hq := Lib.hid (Hq.out.trans q2)
  have b1_0 := HB1.out.c0
  have b1_1 := HB1.out.c1
  have b1_2 := HB1.out.c2
  clear q2
  go_wp2_with fail
  refine (refRight_any c _ _ _ _ _ _ _ _ _ _ rfl rfl rfl HR1.out HfM.out).mono ?_
  rintro e w3 ⟨rfl, q3⟩
  cases hrt : rightB c
  · go_wp2_with fail
    go_ret
    exact ⟨rfl, Hq.out.trans q3⟩
  have HRt := Lib.hid hrt
  by_cases hat : 0 ≤ at_ ∧ at_ < c.V.length
  case neg =>
    have HB1 := Lib.hid (HB1.out.q q3)
    have b1_0 := HB1.out.c0
    by_cases hneg : at_ < 0
    · have hd1 : decide (at_ < 0) = true := decide_eq_true hneg
      clear hneg hat
      go_wp2_with fail
      go_ret
      exact ⟨rfl, Hq.out.trans q3⟩
    · have hd1 : decide (at_ < 0) = false := decide_eq_false hneg
      have hd2 : decide ((c.V.length : Int) ≤ at_) = true := decide_eq_true (by omega)
      clear hneg hat
      go_wp2_with fail
      go_ret
      exact ⟨rfl, Hq.out.trans q3⟩
  have Hat := Lib.hid hat
  have hd1 : decide (at_ < 0) = false := decide_eq_false (by omega)
  have hd2 : decide ((c.V.length : Int) ≤ at_) = false := decide_eq_false (by omega)
  clear hat
  clear b1_0 b1_1 b1_2 hrt
  have HB1 := Lib.hid (HB1.out.q q3)
  have HR1 := Lib.hid (HR1.out.q q3)
  have Hq := Lib.hid (Hq.out.trans q3)
  clear q3
  have b1_0 := HB1.out.c0
  have b1_1 := HB1.out.c1
  have b1_2 := HB1.out.c2
  go_upto_region 8 with fail
  obtain ⟨a, ha⟩ := Int.eq_ofNat_of_zero_le Hat.out.1
  have hal : a < c.V.length := by have := Hat.out.2; omega
  have HA := Lib.hid ha
  rw [HA.out]
  clear ha hd1 hd2
  have HfK : Hid (Few (markC c) 1000000) := few_mark Hf.out (by omega)
  go_upto_region 9 with (first | (go_at_call 21; refine (set_some (markC c) a x _ _ _ _ _ _ _ _ _ _ rfl rfl rfl HO4.out.rd HfK.out hal).mono ?_; rintro e w5 ⟨g1_5, k1_5, g2_5, k2_5, g3_5, k3_5, rfl, hO5⟩; have HO5 := Lib.hid hO5; clear hO5) | (go_at_call 20; refine (mark_any c _ _ _ _ _ _ _ _ _ _ rfl rfl rfl HR1.out HfM.out).mono ?_; rintro e w4 ⟨g1_4, k1_4, g2_4, k2_4, g3_4, k3_4, rfl, hO4⟩; have HO4 := Lib.hid hO4; clear hO4))
  have HfX0 : Hid (Few (setC (markC c) a x) 1000000) := few_set a x (few_mark Hf.out (Nat.le_refl _)) (by omega)
  have Hbx := Lib.hid (fun (A D E : Option Addr) (k1 k2 k3 : Nat) (w : World) (h : Rd w (setC (markC c) a x) A k1 D k2 E k3) => back_set c a x hal A D E _ k1 _ k2 _ k3 w rfl rfl rfl h HfX0.out)
  obtain ⟨X, hX⟩ : ∃ X, X = setC (markC c) a x := ⟨_, rfl⟩
  rw [← hX] at HO5 Hbx ⊢
  have HX := Lib.hid hX
  have HfX : Hid (Few X 502) := by rw [hX]; exact few_set a x (few_mark Hf.out (Nat.le_refl _)) (Nat.le_refl _)
  have HXl : Hid (X.V.length = c.V.length) := by rw [hX]; simp [setC, markC, Hid]
  have HXa : Hid (X.V[a]? = some x) := by rw [hX]; simp [setC, markC, Hid, hal]
  clear hX
  clear b1_0 b1_1 b1_2
  have qb := ((HO4.out.q).trans HO5.out.q).trans ((Q.refl w5).alloc (.cells #[.slice (some ⟨g1_5, 0, none⟩) (X).V.length k1_5, .slice (some ⟨g2_5, 0, none⟩) (X).N.length k2_5, .slice (some ⟨g3_5, 0, none⟩) (X).M.length k3_5] 44))
  have HB1 := Lib.hid (HB1.out.q qb)
  have HR1 := Lib.hid (HR1.out.q qb)
  have Hq := Lib.hid (Hq.out.trans qb)
  have HB8 := Lib.hid (Box3.new w5 (.slice (some ⟨g1_5, 0, none⟩) (X).V.length k1_5) (.slice (some ⟨g2_5, 0, none⟩) (X).N.length k2_5) (.slice (some ⟨g3_5, 0, none⟩) (X).M.length k3_5) 44)
  have HR8 := Lib.hid (HO5.out.rd.q ((Q.refl w5).alloc (.cells #[.slice (some ⟨g1_5, 0, none⟩) (X).V.length k1_5, .slice (some ⟨g2_5, 0, none⟩) (X).N.length k2_5, .slice (some ⟨g3_5, 0, none⟩) (X).M.length k3_5] 44)))
  clear qb HO4 HO5
  generalize w5.alloc (.cells #[.slice (some ⟨g1_5, 0, none⟩) (X).V.length k1_5, .slice (some ⟨g2_5, 0, none⟩) (X).N.length k2_5, .slice (some ⟨g3_5, 0, none⟩) (X).M.length k3_5] 44) = W5 at *
  generalize w5.heap.size = B5 at *
  have b8_0 := HB8.out.c0
  have b8_1 := HB8.out.c1
  have b8_2 := HB8.out.c2
  have HfXM : Hid (Few X 1000000) := few_more HfX.out (by omega)
  have HfY : Hid (Few (markC X) 1000000) := few_mark HfX.out (by omega)
  have halX : a < X.V.length := by rw [HXl.out]; exact hal
  go_upto_region 10 with (first | (go_at_call 21; refine (set_some (markC X) a y _ _ _ _ _ _ _ _ _ _ rfl rfl rfl HO6.out.rd HfY.out halX).mono ?_; rintro e w7 ⟨g1_7, k1_7, g2_7, k2_7, g3_7, k3_7, rfl, hO7⟩; have HO7 := Lib.hid hO7; clear hO7) | (go_at_call 20; refine (mark_any X _ _ _ _ _ _ _ _ _ _ rfl rfl rfl HR8.out HfXM.out).mono ?_; rintro e w6 ⟨g1_6, k1_6, g2_6, k2_6, g3_6, k3_6, rfl, hO6⟩; have HO6 := Lib.hid hO6; clear hO6))
  have HfY0 : Hid (Few (setC (markC X) a y) 1000000) := few_set a y (few_mark HfX.out (Nat.le_refl _)) (by omega)
  have Hby := Lib.hid (fun (A D E : Option Addr) (k1 k2 k3 : Nat) (w : World) (h : Rd w (setC (markC X) a y) A k1 D k2 E k3) => back_set X a y halX A D E _ k1 _ k2 _ k3 w rfl rfl rfl h HfY0.out)
  obtain ⟨Y, hY⟩ : ∃ Y, Y = setC (markC X) a y := ⟨_, rfl⟩
  rw [← hY] at HO7 Hby ⊢
  have HYl : Hid (Y.V.length = c.V.length) := by rw [hY]; simp [setC, markC, Hid, HXl.out]
  have HYa : Hid (Y.V[a]? = some y) := by rw [hY]; simp [setC, markC, Hid, halX]
  clear hY halX
  clear b8_0 b8_1 b8_2
  have qb := ((HO6.out.q).trans HO7.out.q).trans ((Q.refl w7).alloc (.cells #[.slice (some ⟨g1_7, 0, none⟩) (Y).V.length k1_7, .slice (some ⟨g2_7, 0, none⟩) (Y).N.length k2_7, .slice (some ⟨g3_7, 0, none⟩) (Y).M.length k3_7] 44))
  have HB1 := Lib.hid (HB1.out.q qb)
  have HR1 := Lib.hid (HR1.out.q qb)
  have HB8 := Lib.hid (HB8.out.q qb)
  have HR8 := Lib.hid (HR8.out.q qb)
  have Hq := Lib.hid (Hq.out.trans qb)
  have HB10 := Lib.hid (Box3.new w7 (.slice (some ⟨g1_7, 0, none⟩) (Y).V.length k1_7) (.slice (some ⟨g2_7, 0, none⟩) (Y).N.length k2_7) (.slice (some ⟨g3_7, 0, none⟩) (Y).M.length k3_7) 44)
  have HR10 := Lib.hid (HO7.out.rd.q ((Q.refl w7).alloc (.cells #[.slice (some ⟨g1_7, 0, none⟩) (Y).V.length k1_7, .slice (some ⟨g2_7, 0, none⟩) (Y).N.length k2_7, .slice (some ⟨g3_7, 0, none⟩) (Y).M.length k3_7] 44)))
  clear qb HO6 HO7
  generalize w7.alloc (.cells #[.slice (some ⟨g1_7, 0, none⟩) (Y).V.length k1_7, .slice (some ⟨g2_7, 0, none⟩) (Y).N.length k2_7, .slice (some ⟨g3_7, 0, none⟩) (Y).M.length k3_7] 44) = W7 at *
  generalize w7.heap.size = B7 at *
  have b10_0 := HB10.out.c0
  have b10_1 := HB10.out.c1
  have b10_2 := HB10.out.c2
  go_upto_region 11 with (go_at_call 23; refine (Hby.out _ _ _ _ _ _ _ HR10.out).mono ?_; rintro e w8 ⟨g1_8, k1_8, g2_8, k2_8, g3_8, k3_8, rfl, hO8⟩; have HO8 := Lib.hid hO8; clear hO8)
  clear b10_0 b10_1 b10_2
  have qb := (HO8.out.q).trans ((Q.refl w8).alloc (.cells #[.slice (some ⟨g1_8, 0, none⟩) (X).V.length k1_8, .slice (some ⟨g2_8, 0, none⟩) (X).N.length k2_8, .slice (some ⟨g3_8, 0, none⟩) (X).M.length k3_8] 44))
  have HB1 := Lib.hid (HB1.out.q qb)
  have HR1 := Lib.hid (HR1.out.q qb)
  have HB8 := Lib.hid (HB8.out.q qb)
  have HR8 := Lib.hid (HR8.out.q qb)
  have HB10 := Lib.hid (HB10.out.q qb)
  have HR10 := Lib.hid (HR10.out.q qb)
  have Hq := Lib.hid (Hq.out.trans qb)
  have HB12 := Lib.hid (Box3.new w8 (.slice (some ⟨g1_8, 0, none⟩) (X).V.length k1_8) (.slice (some ⟨g2_8, 0, none⟩) (X).N.length k2_8) (.slice (some ⟨g3_8, 0, none⟩) (X).M.length k3_8) 44)
  have HR12 := Lib.hid (HO8.out.rd.q ((Q.refl w8).alloc (.cells #[.slice (some ⟨g1_8, 0, none⟩) (X).V.length k1_8, .slice (some ⟨g2_8, 0, none⟩) (X).N.length k2_8, .slice (some ⟨g3_8, 0, none⟩) (X).M.length k3_8] 44)))
  clear qb HO8
  generalize w8.alloc (.cells #[.slice (some ⟨g1_8, 0, none⟩) (X).V.length k1_8, .slice (some ⟨g2_8, 0, none⟩) (X).N.length k2_8, .slice (some ⟨g3_8, 0, none⟩) (X).M.length k3_8] 44) = W8 at *
  generalize w8.heap.size = B8 at *
  have b12_0 := HB12.out.c0
  have b12_1 := HB12.out.c1
  have b12_2 := HB12.out.c2
  go_upto_region 12 with (go_at_call 23; refine (Hbx.out _ _ _ _ _ _ _ HR12.out).mono ?_; rintro e w9 ⟨g1_9, k1_9, g2_9, k2_9, g3_9, k3_9, rfl, hO9⟩; have HO9 := Lib.hid hO9; clear hO9)
  clear b12_0 b12_1 b12_2
  have qb := (HO9.out.q).trans ((Q.refl w9).alloc (.cells #[.slice (some ⟨g1_9, 0, none⟩) (c).V.length k1_9, .slice (some ⟨g2_9, 0, none⟩) (c).N.length k2_9, .slice (some ⟨g3_9, 0, none⟩) (c).M.length k3_9] 44))
  have HB1 := Lib.hid (HB1.out.q qb)
  have HR1 := Lib.hid (HR1.out.q qb)
  have HB8 := Lib.hid (HB8.out.q qb)
  have HR8 := Lib.hid (HR8.out.q qb)
  have HB10 := Lib.hid (HB10.out.q qb)
  have HR10 := Lib.hid (HR10.out.q qb)
  have HB12 := Lib.hid (HB12.out.q qb)
  have HR12 := Lib.hid (HR12.out.q qb)
  have Hq := Lib.hid (Hq.out.trans qb)
  have HB14 := Lib.hid (Box3.new w9 (.slice (some ⟨g1_9, 0, none⟩) (c).V.length k1_9) (.slice (some ⟨g2_9, 0, none⟩) (c).N.length k2_9) (.slice (some ⟨g3_9, 0, none⟩) (c).M.length k3_9) 44)
  have HR14 := Lib.hid (HO9.out.rd.q ((Q.refl w9).alloc (.cells #[.slice (some ⟨g1_9, 0, none⟩) (c).V.length k1_9, .slice (some ⟨g2_9, 0, none⟩) (c).N.length k2_9, .slice (some ⟨g3_9, 0, none⟩) (c).M.length k3_9] 44)))
  clear qb HO9
  generalize w9.alloc (.cells #[.slice (some ⟨g1_9, 0, none⟩) (c).V.length k1_9, .slice (some ⟨g2_9, 0, none⟩) (c).N.length k2_9, .slice (some ⟨g3_9, 0, none⟩) (c).M.length k3_9] 44) = W9 at *
  generalize w9.heap.size = B9 at *
  have b1_0 := HB1.out.c0
  have b1_1 := HB1.out.c1
  have b1_2 := HB1.out.c2
  have b8_0 := HB8.out.c0
  have b8_1 := HB8.out.c1
  have b8_2 := HB8.out.c2
  have b10_0 := HB10.out.c0
  have b10_1 := HB10.out.c1
  have b10_2 := HB10.out.c2
  have b12_0 := HB12.out.c0
  have b12_1 := HB12.out.c1
  have b12_2 := HB12.out.c2
  have b14_0 := HB14.out.c0
  have b14_1 := HB14.out.c1
  have b14_2 := HB14.out.c2
  have y10 : W9.cell? ⟨g1_7, a, none⟩ = some (.int .i64 y) := HR10.out.v.own HYa.out
  have y12 : W9.cell? ⟨g1_8, a, none⟩ = some (.int .i64 x) := HR12.out.v.own HXa.out
  have y14 : W9.cell? ⟨g1_9, a, none⟩ = some (.int .i64 c.V[a]) := HR14.out.v.own (List.getElem?_eq_getElem hal)
  obtain ⟨ad, e, hadl, y1⟩ := HR1.out.v.int_at hal
  have HE := Lib.hid e
  clear e
  rw [HE.out] at b1_0
  rw [HYl.out] at b10_0
  rw [HXl.out] at b12_0 b8_0
  have hj0 : (0 : Int) ≤ (a : Int) := Int.natCast_nonneg _
  have hj1 : (a : Int) < (c.V.length : Int) := by omega
  have hd3 : decide ((c.V.length : Int) ≤ (a : Int)) = false := decide_eq_false (by omega)
  have hd4 : decide (c.V.length ≤ a) = false := decide_eq_false (by omega)
  go_wp2_with fail
  have HS1 : Hid (∀ W, Q W9 W → Calls Try.prog 25 #[.agg #[.slice (some ⟨g1_8, 0, none⟩) c.V.length k1_8, .slice (some ⟨g2_8, 0, none⟩) X.N.length k2_8, .slice (some ⟨g3_8, 0, none⟩) X.M.length k3_8], .agg #[.slice (some ⟨g1_5, 0, none⟩) c.V.length k1_5, .slice (some ⟨g2_5, 0, none⟩) X.N.length k2_5, .slice (some ⟨g3_5, 0, none⟩) X.M.length k3_5]] W fun e w' => e = .returned (.bool true) ∧ Q W w') :=
    fun W q => same_any X _ _ _ _ _ _ _ _ _ _ _ _ _ _ _ _ _ _ _ HXl.out.symm rfl rfl HXl.out.symm rfl rfl (HR12.out.q q) (HR8.out.q q) HfXM.out
  have HS2 : Hid (∀ W, Q W9 W → Calls Try.prog 25 #[.agg #[.slice (some ⟨g1_9, 0, none⟩) c.V.length k1_9, .slice (some ⟨g2_9, 0, none⟩) c.N.length k2_9, .slice (some ⟨g3_9, 0, none⟩) c.M.length k3_9], .agg #[.slice (some ad) c.V.length k1, .slice D c.N.length k2, .slice E c.M.length k3]] W fun e w' => e = .returned (.bool true) ∧ Q W w') :=
    fun W q => same_any c _ _ _ (some ad) _ _ _ _ _ _ _ _ _ _ _ _ _ _ _ rfl rfl rfl rfl rfl rfl (HR14.out.q q) (by have := HR1.out.q q; rw [HE.out] at this; exact this) HfM.out

  have HK : Hid (∀ w', Q W9 w' → w'.cell? ⟨B8, 0, none⟩ = some (.slice (some ⟨g1_8, 0, none⟩) c.V.length k1_8) ∧ w'.cell? ⟨B8, 1, none⟩ = some (.slice (some ⟨g2_8, 0, none⟩) X.N.length k2_8) ∧ w'.cell? ⟨B8, 2, none⟩ = some (.slice (some ⟨g3_8, 0, none⟩) X.M.length k3_8) ∧ w'.cell? ⟨B5, 0, none⟩ = some (.slice (some ⟨g1_5, 0, none⟩) c.V.length k1_5) ∧ w'.cell? ⟨B5, 1, none⟩ = some (.slice (some ⟨g2_5, 0, none⟩) X.N.length k2_5) ∧ w'.cell? ⟨B5, 2, none⟩ = some (.slice (some ⟨g3_5, 0, none⟩) X.M.length k3_5) ∧ w'.cell? ⟨B9, 0, none⟩ = some (.slice (some ⟨g1_9, 0, none⟩) c.V.length k1_9) ∧ w'.cell? ⟨B9, 1, none⟩ = some (.slice (some ⟨g2_9, 0, none⟩) c.N.length k2_9) ∧ w'.cell? ⟨B9, 2, none⟩ = some (.slice (some ⟨g3_9, 0, none⟩) c.M.length k3_9) ∧ w'.cell? ⟨w.heap.size + 1, 0, none⟩ = some (.slice (some ad) c.V.length k1) ∧ w'.cell? ⟨w.heap.size + 1, 1, none⟩ = some (.slice D c.N.length k2) ∧ w'.cell? ⟨w.heap.size + 1, 2, none⟩ = some (.slice E c.M.length k3) ∧ w'.cell? ⟨B7, 0, none⟩ = some (.slice (some ⟨g1_7, 0, none⟩) c.V.length k1_7) ∧ w'.cell? ⟨g1_7, a, none⟩ = some (.int .i64 y) ∧ w'.cell? ⟨g1_8, a, none⟩ = some (.int .i64 x) ∧ w'.cell? ⟨g1_9, a, none⟩ = some (.int .i64 c.V[a]) ∧ w'.cell? (ad.add a) = some (.int .i64 c.V[a])) := fun w' q => ⟨(q.cell (p := ⟨B8, 0, none⟩) HB12.out.lt).trans b12_0, (q.cell (p := ⟨B8, 1, none⟩) HB12.out.lt).trans b12_1, (q.cell (p := ⟨B8, 2, none⟩) HB12.out.lt).trans b12_2, (q.cell (p := ⟨B5, 0, none⟩) HB8.out.lt).trans b8_0, (q.cell (p := ⟨B5, 1, none⟩) HB8.out.lt).trans b8_1, (q.cell (p := ⟨B5, 2, none⟩) HB8.out.lt).trans b8_2, (q.cell (p := ⟨B9, 0, none⟩) HB14.out.lt).trans b14_0, (q.cell (p := ⟨B9, 1, none⟩) HB14.out.lt).trans b14_1, (q.cell (p := ⟨B9, 2, none⟩) HB14.out.lt).trans b14_2, (q.cell (p := ⟨w.heap.size + 1, 0, none⟩) HB1.out.lt).trans b1_0, (q.cell (p := ⟨w.heap.size + 1, 1, none⟩) HB1.out.lt).trans b1_1, (q.cell (p := ⟨w.heap.size + 1, 2, none⟩) HB1.out.lt).trans b1_2, (q.cell (p := ⟨B7, 0, none⟩) HB10.out.lt).trans b10_0, (HR10.out.q q).v.own HYa.out, (HR12.out.q q).v.own HXa.out, (HR14.out.q q).v.own (List.getElem?_eq_getElem hal), (q.cell (p := ad.add a) (by rw [add_block]; exact hadl)).trans y1⟩
  go_region_held3 (fun w' => w'.cell? ⟨B8, 0, none⟩ = some (.slice (some ⟨g1_8, 0, none⟩) c.V.length k1_8) ∧ w'.cell? ⟨B8, 1, none⟩ = some (.slice (some ⟨g2_8, 0, none⟩) X.N.length k2_8) ∧ w'.cell? ⟨B8, 2, none⟩ = some (.slice (some ⟨g3_8, 0, none⟩) X.M.length k3_8) ∧ w'.cell? ⟨B5, 0, none⟩ = some (.slice (some ⟨g1_5, 0, none⟩) c.V.length k1_5) ∧ w'.cell? ⟨B5, 1, none⟩ = some (.slice (some ⟨g2_5, 0, none⟩) X.N.length k2_5) ∧ w'.cell? ⟨B5, 2, none⟩ = some (.slice (some ⟨g3_5, 0, none⟩) X.M.length k3_5) ∧ w'.cell? ⟨B9, 0, none⟩ = some (.slice (some ⟨g1_9, 0, none⟩) c.V.length k1_9) ∧ w'.cell? ⟨B9, 1, none⟩ = some (.slice (some ⟨g2_9, 0, none⟩) c.N.length k2_9) ∧ w'.cell? ⟨B9, 2, none⟩ = some (.slice (some ⟨g3_9, 0, none⟩) c.M.length k3_9) ∧ w'.cell? ⟨w.heap.size + 1, 0, none⟩ = some (.slice (some ad) c.V.length k1) ∧ w'.cell? ⟨w.heap.size + 1, 1, none⟩ = some (.slice D c.N.length k2) ∧ w'.cell? ⟨w.heap.size + 1, 2, none⟩ = some (.slice E c.M.length k3) ∧ w'.cell? ⟨B7, 0, none⟩ = some (.slice (some ⟨g1_7, 0, none⟩) c.V.length k1_7) ∧ w'.cell? ⟨g1_7, a, none⟩ = some (.int .i64 y) ∧ w'.cell? ⟨g1_8, a, none⟩ = some (.int .i64 x) ∧ w'.cell? ⟨g1_9, a, none⟩ = some (.int .i64 c.V[a]) ∧ w'.cell? (ad.add a) = some (.int .i64 c.V[a]))
    (first
      | go_keep
      | exact HK.out _ p2
      | exact HK.out _ p1
      | exact HK.out _ (Q.refl W9))
    (first
      | (go_at_call 25; (with_reducible refine (HS1.out _ (Q.refl W9).drew).mono ?_); rintro e y1 ⟨rfl, qs1⟩; have p1 : Q W9 y1 := (Q.refl W9).drew.trans qs1; clear qs1)
      | (go_at_call 25; (with_reducible refine (HS2.out _ p1).mono ?_); rintro e y2 ⟨rfl, qs2⟩; have p2 : Q W9 y2 := p1.trans qs2; clear qs2))
  all_goals
    go_wp2_with fail
    go_ret
    exact ⟨rfl, Hq.out.trans p2⟩

set_option maxRecDepth 100000 in
theorem lifted (os : Os) (started : os.Started) (H : Type) (enc : TypeId × Value → H) :
    ReturnsInHanded {} Try.checked os 6 .any (Rows.trailTwoSpec.pre6 enc Try.prog Try.f6 Rows.trailTwoRow.domain false) (Rows.trailTwoSpec.post enc Try.prog Try.f6 false true false false) := by
  refine returnsInHanded_of_change_sized (C := Try.checked) own started (by kernel_rfl) Try.func6
    (ChangeSpec.witness6 (enc := enc) (C := Try.checked) false ⟨#[], #[.agg #[.slice none 0 0, .slice none 0 0, .slice none 0 0, .int .i64 0, .int .i64 0, .int .i64 0]], []⟩ 8 (by kernel_rfl) (by kernel_rfl) (by kernel_rfl) (by kernel_rfl)) ?_
  intro W base args ds gs before hval0 hW hcnd hsz0 _
  have hval : ∀ (j : Nat) t v, Try.f6.params[j]? = some t → args[j]? = some v → Value.okWide Try.prog W .any base t v := hval0
  have hW' := hW
  obtain ⟨p, q, hA0, hV, rfl, hfz, hnd⟩ := hW
  have hA : DataW.TrodAll enc Try.prog W 0 (fun _ => true) true Try.f6.params.toList args.toList ds p := hA0
  rw [Try.params6] at hA hval
  obtain ⟨v0, vs0, d0, ds0, p0, q0, hargs, rfl, rfl, h0, r0⟩ := trodAll_cons hA
  obtain ⟨rfl, rfl, rfl⟩ := trodAll_nil r0
  obtain rfl : args = #[v0] := by cases args; simp_all
  obtain ⟨rfl, rfl⟩ := trodVars_none hV
  have z0 : ∀ n ∈ d0.weights Try.prog 58, n ≤ reachBytes := fun n hn => by
    have := List.all_eq_true.1 hsz0 n (DataW.weights_mem_each (j := 0) (t := 58) (d := d0) (by rw [Try.params6]; rfl) rfl n hn)
    simpa using this
  obtain ⟨c, A, n1, k1, D, n2, k2, E, n3, k3, at_, x, y, rfl, e1, e2, e3, h, hw⟩ := open_two (hval 0 58 v0 rfl rfl) h0 z0
  clear hA0 hval0
  refine (walk c A D E n1 k1 n2 k2 n3 k3 at_ x y W e1 e2 e3 h hw).mono fun e W' ⟨he, hg⟩ => ?_
  subst he
  exact ⟨_, rfl, post_law laid (by rw [Try.params6]; decide +kernel) rfl rfl (by kernel_rfl) Try.underlying4 hW' hg⟩

/-- THE STATEMENT -/
theorem proved : Rows.TrailTwoSaid :=
  OpenClaim.holds_of_wide 6 Try.f6 rfl rfl rfl rfl rfl rfl rfl ⟨rfl, rfl, rfl, rfl, rfl⟩ rfl rfl rfl rfl rfl (by kernel_rfl) Try.func6 (by kernel_rfl)
    (of_decide_eq_true (by kernel_rfl)) (by unfold Func.isWrapper; first | (rw [if_pos (by decide +kernel)]; kernel_rfl) | (rw [if_neg (by decide +kernel)]; exact ⟨rfl, rfl⟩))
    (fun os started H enc _ => lifted os started H enc)
end Go.Proofs.Ytngdjndekdcdkaa.trailTwo
