/-
  UfJoins: behind a join both are of one class, and just those that were with either are; it hangs on no order of the two; each first one is ahead of all of its class. Proved for all cells, ranks and numbers: no condition.
-/
import Derived.Test.YtodmompfnlcjpaaUfI
import Derived.Test.YtodmompfnlcjpaaTrailO
import Derived.Test.YtodmompfnlcjpaaRows
import Derived.Test.YtodmompfnlcjpaaUfK
import Derived.Test.YtodmompfnlcjpaaUfL
import Derived.Test.YtodmompfnlcjpaaKitStep
namespace Go.Proofs.Ytodmompfnlcjpaa.ufJoins
open Go.ChangeShapes Go.WideShapes Go.RowKit Kit Go.Deep Go.Joins Tr Uf

set_option maxRecDepth 100000 in
set_option maxHeartbeats 8000000 in
theorem walk (c : Cells) (R : List Int) (A D E F : Option Addr) (n1 k1 n2 k2 n3 k3 n4 k4 : Nat) (a b t : Int) (w : World) (h1 : n1 = c.V.length) (h2 : n2 = c.N.length) (h3 : n3 = c.M.length) (h4 : n4 = R.length) (h : Rd w c A k1 D k2 E k3) (hR : Rds w w.heap.size F (cellsI R)) (hw : Few c 1152921504606846976) :
    Calls Try.prog 3 #[.agg #[.slice A n1 k1, .slice D n2 k2, .slice E n3 k3, .slice F n4 k4, .int .i64 a, .int .i64 b, .int .i64 t]] w fun e w' => e = .returned (.bool true) ∧ Q w w' := by
  subst h1 h2 h3 h4
  have q0 := ((Q.refl w).alloc (Obj.cells #[Value.slice A c.V.length k1, Value.slice D c.N.length k2, Value.slice E c.M.length k3, Value.slice F R.length k4, Value.int .i64 a, Value.int .i64 b, Value.int .i64 t] 27)).alloc (Obj.cells #[Value.slice A c.V.length k1, Value.slice D c.N.length k2, Value.slice E c.M.length k3] 25)
  have X := Box3.new (w.alloc (Obj.cells #[Value.slice A c.V.length k1, Value.slice D c.N.length k2, Value.slice E c.M.length k3, Value.slice F R.length k4, Value.int .i64 a, Value.int .i64 b, Value.int .i64 t] 27)) (Value.slice A c.V.length k1) (Value.slice D c.N.length k2) (Value.slice E c.M.length k3) 25
  rw [World.size_alloc] at X
  have HB1 := Lib.hid X
  clear X
  have HR1 := Lib.hid (h.q q0)
  have HRk := Lib.hid (hR.q q0)
  have Hl := Lib.hid hw
  clear h hR hw
  go_enter Try.func3, Try.ntmps3
  go_upto_region 6 with fail
  generalize (w.alloc (Obj.cells #[Value.slice A c.V.length k1, Value.slice D c.N.length k2, Value.slice E c.M.length k3, Value.slice F R.length k4, Value.int .i64 a, Value.int .i64 b, Value.int .i64 t] 27)).alloc (Obj.cells #[Value.slice A c.V.length k1, Value.slice D c.N.length k2, Value.slice E c.M.length k3] 25) = W0 at *
  have Hq := Lib.hid q0
  clear q0
  go_upto_region 7 with (go_at_call 8; refine (shown_any _).mono ?_; rintro e y0 ⟨rfl, qs⟩)
  have HB1 := Lib.hid (HB1.out.q qs)
  have HR1 := Lib.hid (HR1.out.q qs)
  have HRk := Lib.hid (HRk.out.q qs)
  have Hq := Lib.hid (Hq.out.trans qs)
  clear qs
  have b1_0 := HB1.out.c0
  have b1_1 := HB1.out.c1
  have b1_2 := HB1.out.c2
  have few5 := fun (W : World) => few5_any c R A D E F c.V.length k1 c.N.length k2 c.M.length k3 R.length k4 W rfl rfl rfl rfl (by have := Hl.out.1; omega) (by have := Hl.out.2.1; omega) (by have := Hl.out.2.2; omega)
  have Few5 := Lib.hid few5
  clear few5
  cases hfw : (fewB c && decide (R.length ≤ 200))
  · rw [hfw] at Few5
    go_wp2_with (go_at_call 9; refine (Few5.out _).mono ?_; rintro e y ⟨rfl, qs⟩)
    go_ret
    exact ⟨rfl, Hq.out.trans qs⟩
  rw [hfw] at Few5
  obtain ⟨hf1, hf2⟩ := (Bool.and_eq_true _ _).mp hfw
  have Hf := Lib.hid (few_500 hf1)
  have HfM : Hid (Few c 1000000) := few_more Hf.out (by omega)
  have hRl : R.length ≤ 200 := of_decide_eq_true hf2
  have fv : c.V.length ≤ 500 := Hf.out.1
  clear hfw hf1 hf2
  go_wp2_with fail
  refine (Few5.out _).mono ?_
  rintro e y1 ⟨rfl, qs⟩
  clear b1_0 b1_1 b1_2
  have HB1 := Lib.hid (HB1.out.q qs)
  have HR1 := Lib.hid (HR1.out.q qs)
  have HRk := Lib.hid (HRk.out.q qs)
  have Hq := Lib.hid (Hq.out.trans qs)
  clear qs
  have b1_0 := HB1.out.c0
  have b1_1 := HB1.out.c1
  have b1_2 := HB1.out.c2
  have Rt5 := Lib.hid (right5_any R c A D E F _ k1 _ k2 _ k3 _ k4 y1 rfl rfl rfl rfl HR1.out HRk.out HfM.out)
  clear Few5
  cases hrt : (clB R c.V && rightB c)
  · rw [hrt] at Rt5
    go_wp2_with (go_at_call 10; refine Rt5.out.mono ?_; rintro e y ⟨rfl, qs⟩)
    go_ret
    exact ⟨rfl, Hq.out.trans qs⟩
  rw [hrt] at Rt5
  obtain ⟨hr1, hr2⟩ := (Bool.and_eq_true _ _).mp hrt
  have HC := Lib.hid (cl_of hr1)
  have HRt := Lib.hid hr2
  clear hrt hr1 hr2
  go_wp2_with fail
  refine (Rt5.out).mono ?_
  rintro e y2 ⟨rfl, qs⟩
  clear b1_0 b1_1 b1_2
  have HB1 := Lib.hid (HB1.out.q qs)
  have HR1 := Lib.hid (HR1.out.q qs)
  have HRk := Lib.hid (HRk.out.q qs)
  have Hq := Lib.hid (Hq.out.trans qs)
  clear qs
  have b1_0 := HB1.out.c0
  have b1_1 := HB1.out.c1
  have b1_2 := HB1.out.c2
  clear Rt5
  by_cases ha : 0 ≤ a ∧ a < c.V.length
  case neg =>
    have hd : (decide (0 ≤ a) && decide (a < (c.V.length : Int))) = false := by
      by_cases e : 0 ≤ a
      · rw [decide_eq_false (fun k => ha ⟨e, k⟩), Bool.and_false]
      · rw [decide_eq_false e]; rfl
    clear ha
    go_wp2_with fail
    refine (there_any _ _ _ _ _ _ _).mono ?_
    rintro e y ⟨rfl, qs⟩
    rw [hd]
    go_wp2_with fail
    go_ret
    exact ⟨rfl, Hq.out.trans qs⟩
  obtain ⟨a, rfl⟩ := Int.eq_ofNat_of_zero_le ha.1
  have hal : a < c.V.length := by omega
  have hda : (decide (0 ≤ (a : Int)) && decide ((a : Int) < (c.V.length : Int))) = true := by rw [decide_eq_true ha.1, decide_eq_true ha.2]; rfl
  clear ha
  go_wp2_with fail
  refine (there_any _ _ _ _ _ _ _).mono ?_
  rintro e y3 ⟨rfl, qs⟩
  rw [hda]
  clear b1_0 b1_1 b1_2
  have HB1 := Lib.hid (HB1.out.q qs)
  have HR1 := Lib.hid (HR1.out.q qs)
  have HRk := Lib.hid (HRk.out.q qs)
  have Hq := Lib.hid (Hq.out.trans qs)
  clear qs
  have b1_0 := HB1.out.c0
  have b1_1 := HB1.out.c1
  have b1_2 := HB1.out.c2
  clear hda
  by_cases hb : 0 ≤ b ∧ b < c.V.length
  case neg =>
    have hd : (decide (0 ≤ b) && decide (b < (c.V.length : Int))) = false := by
      by_cases e : 0 ≤ b
      · rw [decide_eq_false (fun k => hb ⟨e, k⟩), Bool.and_false]
      · rw [decide_eq_false e]; rfl
    clear hb
    go_wp2_with fail
    refine (there_any _ _ _ _ _ _ _).mono ?_
    rintro e y ⟨rfl, qs⟩
    rw [hd]
    go_wp2_with fail
    go_ret
    exact ⟨rfl, Hq.out.trans qs⟩
  obtain ⟨b, rfl⟩ := Int.eq_ofNat_of_zero_le hb.1
  have hbl : b < c.V.length := by omega
  have hdb : (decide (0 ≤ (b : Int)) && decide ((b : Int) < (c.V.length : Int))) = true := by rw [decide_eq_true hb.1, decide_eq_true hb.2]; rfl
  clear hb
  go_wp2_with fail
  refine (there_any _ _ _ _ _ _ _).mono ?_
  rintro e y4 ⟨rfl, qs⟩
  rw [hdb]
  clear b1_0 b1_1 b1_2
  have HB1 := Lib.hid (HB1.out.q qs)
  have HR1 := Lib.hid (HR1.out.q qs)
  have HRk := Lib.hid (HRk.out.q qs)
  have Hq := Lib.hid (Hq.out.trans qs)
  clear qs
  have b1_0 := HB1.out.c0
  have b1_1 := HB1.out.c1
  have b1_2 := HB1.out.c2
  clear hdb
  by_cases ht : 0 ≤ t ∧ t < c.V.length
  case neg =>
    have hd : (decide (0 ≤ t) && decide (t < (c.V.length : Int))) = false := by
      by_cases e : 0 ≤ t
      · rw [decide_eq_false (fun k => ht ⟨e, k⟩), Bool.and_false]
      · rw [decide_eq_false e]; rfl
    clear ht
    go_wp2_with fail
    refine (there_any _ _ _ _ _ _ _).mono ?_
    rintro e y ⟨rfl, qs⟩
    rw [hd]
    go_wp2_with fail
    go_ret
    exact ⟨rfl, Hq.out.trans qs⟩
  obtain ⟨t, rfl⟩ := Int.eq_ofNat_of_zero_le ht.1
  have htl : t < c.V.length := by omega
  have hdt : (decide (0 ≤ (t : Int)) && decide ((t : Int) < (c.V.length : Int))) = true := by rw [decide_eq_true ht.1, decide_eq_true ht.2]; rfl
  clear ht
  go_wp2_with fail
  refine (there_any _ _ _ _ _ _ _).mono ?_
  rintro e y5 ⟨rfl, qs⟩
  rw [hdt]
  clear b1_0 b1_1 b1_2
  have HB1 := Lib.hid (HB1.out.q qs)
  have HR1 := Lib.hid (HR1.out.q qs)
  have HRk := Lib.hid (HRk.out.q qs)
  have Hq := Lib.hid (Hq.out.trans qs)
  clear qs
  have b1_0 := HB1.out.c0
  have b1_1 := HB1.out.c1
  have b1_2 := HB1.out.c2
  clear hdt
  have J := joined (R := R) HC.out hal hbl
  have XC := Lib.hid J.cl
  have XL := Lib.hid J.len
  have XR : Hid (rightB (joinC R c a b) = true) := right_join HRt.out HC.out hal hbl
  have XF : Hid (Few (joinC R c a b) 1000000) := few_join a b Hf.out (by omega)
  have XY := Lib.hid (joinC_V R c a b)
  have HJ := Lib.hid J
  clear J
  go_upto_region 10 with (go_at_call 12; refine (join_any R c a b _ _ _ _ _ _ _ _ _ _ _ _ _ rfl rfl rfl rfl HR1.out HRk.out HfM.out HC.out hal hbl).mono ?_; rintro e w4 ⟨A_4, k_4, D_4, l_4, E_4, m_4, rfl, hO4⟩; have HO4 := Lib.hid hO4; clear hO4)
  have Jab := Lib.hid (HJ.out.a_b hal hbl)
  have Jm := Lib.hid (fun h => HJ.out.mine htl h)
  have Jo := Lib.hid (fun h => HJ.out.other htl h)
  clear HJ
  obtain ⟨X, hX⟩ : ∃ X, X = joinC R c a b := ⟨_, rfl⟩
  rw [← hX] at HO4 XC XL XR XF XY Jab Jm Jo ⊢
  clear hX
  clear b1_0 b1_1 b1_2
  have qb := (HO4.out.q).trans ((Q.refl w4).alloc (.cells #[.slice A_4 (X).V.length k_4, .slice D_4 (X).N.length l_4, .slice E_4 (X).M.length m_4] 25))
  have HB1 := Lib.hid (HB1.out.q qb)
  have HR1 := Lib.hid (HR1.out.q qb)
  have HRk := Lib.hid (HRk.out.q qb)
  have Hq := Lib.hid (Hq.out.trans qb)
  have HB2 := Lib.hid (Box3.new w4 (.slice A_4 (X).V.length k_4) (.slice D_4 (X).N.length l_4) (.slice E_4 (X).M.length m_4) 25)
  have HR2 := Lib.hid (HO4.out.rd.q ((Q.refl w4).alloc (.cells #[.slice A_4 (X).V.length k_4, .slice D_4 (X).N.length l_4, .slice E_4 (X).M.length m_4] 25)))
  clear qb
  generalize w4.alloc (.cells #[.slice A_4 (X).V.length k_4, .slice D_4 (X).N.length l_4, .slice E_4 (X).M.length m_4] 25) = W4 at *
  generalize w4.heap.size = B4 at *
  clear HO4
  have b1_0 := HB1.out.c0
  have b1_1 := HB1.out.c1
  have b1_2 := HB1.out.c2
  have b2_0 := HB2.out.c0
  have b2_1 := HB2.out.c1
  have b2_2 := HB2.out.c2
  go_upto_region 11 with (go_at_call 12; refine (join_any R c b a _ _ _ _ _ _ _ _ _ _ _ _ _ rfl rfl rfl rfl HR1.out HRk.out HfM.out HC.out hbl hal).mono ?_; rintro e w5 ⟨A_5, k_5, D_5, l_5, E_5, m_5, rfl, hO5⟩; have HO5 := Lib.hid hO5; clear hO5)
  obtain ⟨Y, hY⟩ : ∃ Y, Y = joinC R c b a := ⟨_, rfl⟩
  rw [← hY] at HO5 XY ⊢
  clear hY
  clear b1_0 b1_1 b1_2 b2_0 b2_1 b2_2
  have qb := (HO5.out.q).trans ((Q.refl w5).alloc (.cells #[.slice A_5 (Y).V.length k_5, .slice D_5 (Y).N.length l_5, .slice E_5 (Y).M.length m_5] 25))
  have HB1 := Lib.hid (HB1.out.q qb)
  have HR1 := Lib.hid (HR1.out.q qb)
  have HB2 := Lib.hid (HB2.out.q qb)
  have HR2 := Lib.hid (HR2.out.q qb)
  have HRk := Lib.hid (HRk.out.q qb)
  have Hq := Lib.hid (Hq.out.trans qb)
  have HB3 := Lib.hid (Box3.new w5 (.slice A_5 (Y).V.length k_5) (.slice D_5 (Y).N.length l_5) (.slice E_5 (Y).M.length m_5) 25)
  have HR3 := Lib.hid (HO5.out.rd.q ((Q.refl w5).alloc (.cells #[.slice A_5 (Y).V.length k_5, .slice D_5 (Y).N.length l_5, .slice E_5 (Y).M.length m_5] 25)))
  clear qb
  generalize w5.alloc (.cells #[.slice A_5 (Y).V.length k_5, .slice D_5 (Y).N.length l_5, .slice E_5 (Y).M.length m_5] 25) = W5 at *
  generalize w5.heap.size = B5 at *
  clear HO5
  rw [← XY.out] at HB3
  rw [XL.out] at HB2 HB3
  have b1_0 := HB1.out.c0
  have b1_1 := HB1.out.c1
  have b1_2 := HB1.out.c2
  have b2_0 := HB2.out.c0
  have b2_1 := HB2.out.c1
  have b2_2 := HB2.out.c2
  have b3_0 := HB3.out.c0
  have b3_1 := HB3.out.c1
  have b3_2 := HB3.out.c2
  have hft := XC.out.fst_in t (by rw [XL.out]; exact htl)
  rw [XL.out] at hft
  obtain ⟨f1, f2, f3⟩ := hft
  have Hff : Hid (fst X.V (fst X.V t) = fst X.V t) := XC.out.fst_fst (by rw [XL.out]; exact htl)
  have CR : Hid (Calls Try.prog 10 #[.agg #[.slice A_4 c.V.length k_4, .slice D_4 X.N.length l_4, .slice E_4 X.M.length m_4], .slice F R.length k4] W5 fun e w' => e = .returned (.bool true) ∧ Q W5 w') := by have := right5_any R X A_4 D_4 E_4 F c.V.length k_4 _ l_4 _ m_4 _ k4 W5 XL.out.symm rfl rfl rfl HR2.out HRk.out XF.out; rw [cl_to XC.out, XR.out] at this; exact this
  have hxl : X.V.length ≤ 1000000 := by rw [XL.out]; omega
  have HVV : Hid (∀ W, Q W5 W → Calls Try.prog 13 #[.slice A_4 c.V.length k_4, .slice A_5 c.V.length k_5] W fun e W' => e = .returned (.bool true) ∧ ∃ d, W' = W.drewN d) := fun W q => ints_same A_4 A_5 _ k_4 _ k_5 X.V W XL.out.symm XL.out.symm (HR2.out.q q).v (by rw [XY.out]; exact (HR3.out.q q).v) hxl
  have Hxl := Lib.hid hxl
  clear hxl
  go_wp2_with fail
  refine (CR.out).mono ?_
  rintro e y6 ⟨rfl, qs⟩
  clear b1_0 b1_1 b1_2 b2_0 b2_1 b2_2 b3_0 b3_1 b3_2
  have HB1 := Lib.hid (HB1.out.q qs)
  have HR1 := Lib.hid (HR1.out.q qs)
  have HB2 := Lib.hid (HB2.out.q qs)
  have HR2 := Lib.hid (HR2.out.q qs)
  have HB3 := Lib.hid (HB3.out.q qs)
  have HR3 := Lib.hid (HR3.out.q qs)
  have HRk := Lib.hid (HRk.out.q qs)
  have Hq := Lib.hid (Hq.out.trans qs)
  clear qs
  have b1_0 := HB1.out.c0
  have b1_1 := HB1.out.c1
  have b1_2 := HB1.out.c2
  have b2_0 := HB2.out.c0
  have b2_1 := HB2.out.c1
  have b2_2 := HB2.out.c2
  have b3_0 := HB3.out.c0
  have b3_1 := HB3.out.c1
  have b3_2 := HB3.out.c2
  have CV := Lib.hid (ints_same A_4 A_5 _ k_4 _ k_5 X.V y6 XL.out.symm XL.out.symm HR2.out.v (by rw [XY.out]; exact HR3.out.v) Hxl.out)
  clear HVV CR
  go_wp2_with fail
  refine CV.out.mono ?_
  rintro e y7 ⟨rfl, hdv⟩
  have qs := q_drewN _ hdv
  clear hdv CV
  clear b1_0 b1_1 b1_2 b2_0 b2_1 b2_2 b3_0 b3_1 b3_2
  have HB1 := Lib.hid (HB1.out.q qs)
  have HR1 := Lib.hid (HR1.out.q qs)
  have HB2 := Lib.hid (HB2.out.q qs)
  have HR2 := Lib.hid (HR2.out.q qs)
  have HB3 := Lib.hid (HB3.out.q qs)
  have HR3 := Lib.hid (HR3.out.q qs)
  have HRk := Lib.hid (HRk.out.q qs)
  have Hq := Lib.hid (Hq.out.trans qs)
  clear qs
  clear HB3 HR3
  have b1_0 := HB1.out.c0
  have b1_1 := HB1.out.c1
  have b1_2 := HB1.out.c2
  have b2_0 := HB2.out.c0
  have b2_1 := HB2.out.c1
  have b2_2 := HB2.out.c2
  have Ft := Lib.hid (fun (W : World) (h : Rd W X A_4 k_4 D_4 l_4 E_4 m_4) => find_any R X t A_4 D_4 E_4 c.V.length k_4 _ l_4 _ m_4 W XL.out.symm rfl rfl h XC.out (by rw [XL.out]; exact htl) Hxl.out)
  have Fa := Lib.hid (fun (W : World) (h : Rd W X A_4 k_4 D_4 l_4 E_4 m_4) => find_any R X a A_4 D_4 E_4 c.V.length k_4 _ l_4 _ m_4 W XL.out.symm rfl rfl h XC.out (by rw [XL.out]; exact hal) Hxl.out)
  have Fb := Lib.hid (fun (W : World) (h : Rd W X A_4 k_4 D_4 l_4 E_4 m_4) => find_any R X b A_4 D_4 E_4 c.V.length k_4 _ l_4 _ m_4 W XL.out.symm rfl rfl h XC.out (by rw [XL.out]; exact hbl) Hxl.out)
  have Ff := Lib.hid (fun (W : World) (h : Rd W X A_4 k_4 D_4 l_4 E_4 m_4) => find_any R X (fst X.V t) A_4 D_4 E_4 c.V.length k_4 _ l_4 _ m_4 W XL.out.symm rfl rfl h XC.out (by rw [XL.out]; exact f1) Hxl.out)
  rw [Hff.out] at Ff
  rw [Jab.out.1] at Fa
  rw [Jab.out.2] at Fb
  go_wp2_with fail
  refine (Ft.out _ HR2.out).mono ?_
  rintro e y8 ⟨rfl, qs⟩
  clear b1_0 b1_1 b1_2 b2_0 b2_1 b2_2
  have HB1 := Lib.hid (HB1.out.q qs)
  have HR1 := Lib.hid (HR1.out.q qs)
  have HB2 := Lib.hid (HB2.out.q qs)
  have HR2 := Lib.hid (HR2.out.q qs)
  have HRk := Lib.hid (HRk.out.q qs)
  have Hq := Lib.hid (Hq.out.trans qs)
  clear qs
  have b1_0 := HB1.out.c0
  have b1_1 := HB1.out.c1
  have b1_2 := HB1.out.c2
  have b2_0 := HB2.out.c0
  have b2_1 := HB2.out.c1
  have b2_2 := HB2.out.c2
  obtain ⟨f, hf⟩ : ∃ f, f = fst X.V t := ⟨_, rfl⟩
  obtain ⟨g, hg⟩ : ∃ g, g = lo R c.V a b := ⟨_, rfl⟩
  rw [← hf] at f1 f3 Ff Jm Jo ⊢
  rw [← hg] at Fa Fb Jm Jo
  clear hf hg f2 Ft Jab
  have hdf : (decide (0 ≤ (f : Int)) && decide ((f : Int) < (c.V.length : Int))) = true := by rw [decide_eq_true (show (0 : Int) ≤ (f : Int) by omega), decide_eq_true (show (f : Int) < (c.V.length : Int) by omega)]; rfl
  have CL := Lib.hid (fun (W : World) (h : Rds W W.heap.size F (cellsI R)) => less_any R F _ k4 f t W rfl h)
  go_wp2_with fail
  refine (there_any _ _ _ _ _ _ _).mono ?_
  rintro e y9 ⟨rfl, qs⟩
  rw [hdf]
  clear b1_0 b1_1 b1_2 b2_0 b2_1 b2_2
  have HB1 := Lib.hid (HB1.out.q qs)
  have HR1 := Lib.hid (HR1.out.q qs)
  have HB2 := Lib.hid (HB2.out.q qs)
  have HR2 := Lib.hid (HR2.out.q qs)
  have HRk := Lib.hid (HRk.out.q qs)
  have Hq := Lib.hid (Hq.out.trans qs)
  clear qs
  have b1_0 := HB1.out.c0
  have b1_1 := HB1.out.c1
  have b1_2 := HB1.out.c2
  have b2_0 := HB2.out.c0
  have b2_1 := HB2.out.c1
  have b2_2 := HB2.out.c2
  clear hdf
  obtain ⟨rt, hrt⟩ : ∃ r, r = fst c.V t := ⟨_, rfl⟩
  obtain ⟨ra, hra⟩ : ∃ r, r = fst c.V a := ⟨_, rfl⟩
  obtain ⟨rb, hrb⟩ : ∃ r, r = fst c.V b := ⟨_, rfl⟩
  rw [← hrt, ← hra, ← hrb] at Jm Jo
  have Hrt := Lib.hid hrt
  have Hra := Lib.hid hra
  have Hrb := Lib.hid hrb
  clear hrt hra hrb
  by_cases m1 : rt = ra
  · obtain rfl := Jm.out (.inl m1)
    subst m1
    have d1 : ((rt : Int) == (rt : Int)) = true := by simp
    have d3 : ((f : Int) == (f : Int)) = true := by simp
    clear Jm Jo
    by_cases hft : f = t
    · have dft : ((f : Int) != (t : Int)) = false := by rw [hft]; simp
      clear hft f3
      go_wp2_with fail
      refine (Ff.out _ HR2.out).mono ?_
      rintro e y10 ⟨rfl, qs⟩
      clear b1_0 b1_1 b1_2 b2_0 b2_1 b2_2
      have HB1 := Lib.hid (HB1.out.q qs)
      have HR1 := Lib.hid (HR1.out.q qs)
      have HB2 := Lib.hid (HB2.out.q qs)
      have HR2 := Lib.hid (HR2.out.q qs)
      have HRk := Lib.hid (HRk.out.q qs)
      have Hq := Lib.hid (Hq.out.trans qs)
      clear qs
      have b1_0 := HB1.out.c0
      have b1_1 := HB1.out.c1
      have b1_2 := HB1.out.c2
      have b2_0 := HB2.out.c0
      have b2_1 := HB2.out.c1
      have b2_2 := HB2.out.c2
      clear CL Ff dft
      have U1 : Hid (∀ W, Q y10 W → Calls Try.prog 14 #[.agg #[.slice A c.V.length k1, .slice D c.N.length k2, .slice E c.M.length k3], .int .i64 (t : Int)] W fun e W' => e = .returned (.int .i64 (rt : Int)) ∧ Q W W') := fun W q => by rw [Hrt.out]; exact find_any R c t A D E _ k1 _ k2 _ k3 W rfl rfl rfl (HR1.out.q q) HC.out htl HfM.out.1
      have U2 : Hid (∀ W, Q y10 W → Calls Try.prog 14 #[.agg #[.slice A c.V.length k1, .slice D c.N.length k2, .slice E c.M.length k3], .int .i64 (a : Int)] W fun e W' => e = .returned (.int .i64 (rt : Int)) ∧ Q W W') := fun W q => by rw [Hra.out]; exact find_any R c a A D E _ k1 _ k2 _ k3 W rfl rfl rfl (HR1.out.q q) HC.out hal HfM.out.1
      have U3 : Hid (∀ W, Q y10 W → Calls Try.prog 14 #[.agg #[.slice A c.V.length k1, .slice D c.N.length k2, .slice E c.M.length k3], .int .i64 (b : Int)] W fun e W' => e = .returned (.int .i64 (rb : Int)) ∧ Q W W') := fun W q => by rw [Hrb.out]; exact find_any R c b A D E _ k1 _ k2 _ k3 W rfl rfl rfl (HR1.out.q q) HC.out hbl HfM.out.1
      go_wp2_with fail
      have HK : Hid (∀ w', Q y10 w' → w'.cell? ⟨w.heap.size + 1, 0, none⟩ = some (.slice A c.V.length k1) ∧ w'.cell? ⟨w.heap.size + 1, 1, none⟩ = some (.slice D c.N.length k2) ∧ w'.cell? ⟨w.heap.size + 1, 2, none⟩ = some (.slice E c.M.length k3)) := fun w' q => ⟨(q.cell (p := ⟨w.heap.size + 1, 0, none⟩) HB1.out.lt).trans b1_0, (q.cell (p := ⟨w.heap.size + 1, 1, none⟩) HB1.out.lt).trans b1_1, (q.cell (p := ⟨w.heap.size + 1, 2, none⟩) HB1.out.lt).trans b1_2⟩
      refine wp_region_held_drew (S := (fun w' => w'.cell? ⟨w.heap.size + 1, 0, none⟩ = some (.slice A c.V.length k1) ∧ w'.cell? ⟨w.heap.size + 1, 1, none⟩ = some (.slice D c.N.length k2) ∧ w'.cell? ⟨w.heap.size + 1, 2, none⟩ = some (.slice E c.M.length k3))) (by kernel_rfl) ?_ (fun hHeld => ?_)
      · exact HK.out _ (Q.refl y10).drew
      refine take_w (i := 0) (d := some 101) (v := ?_) rfl (by kernel_rfl) (by kernel_rfl) (by kernel_rfl) (fun _ _ _ h => h) rfl (by rfl) ?_ (by assumption) ?_
      rotate_left
      · (intro w hSw; (try dsimp only at hSw); go_simp; (try with_reducible rfl))
      try simp only [Act.put, List.setIfInBounds_toArray, List.set_cons_zero, List.set_cons_succ]
      refine take_w (i := 1) (d := some 102) (v := ?_) rfl (by kernel_rfl) (by kernel_rfl) (by kernel_rfl) (fun _ _ _ h => h) rfl (by rfl) ?_ (by assumption) ?_
      rotate_left
      · (intro w hSw; (try dsimp only at hSw); go_simp; (try with_reducible rfl))
      try simp only [Act.put, List.setIfInBounds_toArray, List.set_cons_zero, List.set_cons_succ]
      refine take_w (i := 3) (d := some 104) (v := ?_) rfl (by kernel_rfl) (by kernel_rfl) (by kernel_rfl) (fun _ _ _ h => h) rfl (by rfl) ?_ (by assumption) ?_
      rotate_left
      · (intro w hSw; (try dsimp only at hSw); go_simp; (try with_reducible rfl))
      try simp only [Act.put, List.setIfInBounds_toArray, List.set_cons_zero, List.set_cons_succ]
      refine take_w (i := 4) (d := some 105) (v := ?_) rfl (by kernel_rfl) (by kernel_rfl) (by kernel_rfl) (fun _ _ _ h => h) rfl (by rfl) ?_ (by assumption) ?_
      rotate_left
      · (intro w hSw; (try dsimp only at hSw); go_simp; (try with_reducible rfl))
      try simp only [Act.put, List.setIfInBounds_toArray, List.set_cons_zero, List.set_cons_succ]
      refine call_w (i := 2) rfl (by kernel_rfl) (by rfl) (fun K hK => ?_)
      go_simp
      go_at_call 14
      refine (U1.out _ (Q.refl y10).drew).mono ?_
      rintro e z1 ⟨rfl, qs1⟩
      have p1 : Q y10 z1 := ((Q.refl y10).drew).trans qs1
      refine hK.out _ _ ?_ (fun hHeld => ?_)
      · exact HK.out _ p1
      clear hK K
      try simp only [Act.put, List.setIfInBounds_toArray, List.set_cons_zero, List.set_cons_succ]
      refine call_w (i := 5) rfl (by kernel_rfl) (by rfl) (fun K hK => ?_)
      go_simp
      go_at_call 14
      refine (U2.out _ p1).mono ?_
      rintro e z2 ⟨rfl, qs2⟩
      have p2 : Q y10 z2 := (p1).trans qs2
      refine hK.out _ _ ?_ (fun hHeld => ?_)
      · exact HK.out _ p2
      clear hK K
      try simp only [Act.put, List.setIfInBounds_toArray, List.set_cons_zero, List.set_cons_succ]
      refine take_w (i := 6) (d := some 107) (v := ?_) rfl (by kernel_rfl) (by kernel_rfl) (by kernel_rfl) (fun _ _ _ h => h) rfl (by rfl) ?_ (by assumption) ?_
      rotate_left
      · (intro w hSw; (try dsimp only at hSw); go_simp; (try with_reducible rfl))
      try simp only [Act.put, List.setIfInBounds_toArray, List.set_cons_zero, List.set_cons_succ]
      refine take_w (i := 7) (d := some 108) (v := ?_) rfl (by kernel_rfl) (by kernel_rfl) (by kernel_rfl) (fun _ _ _ h => h) rfl (by rfl) ?_ (by assumption) ?_
      rotate_left
      · (intro w hSw; (try dsimp only at hSw); go_simp; (try with_reducible rfl))
      try simp only [Act.put, List.setIfInBounds_toArray, List.set_cons_zero, List.set_cons_succ]
      refine take_u (i := 8) (d := some 109) rfl (by kernel_rfl) (by kernel_rfl) (by kernel_rfl) (fun _ _ _ h => h) rfl (by rfl) (by assumption) ?_
      try simp only [Act.put, List.setIfInBounds_toArray, List.set_cons_zero, List.set_cons_succ]
      refine take_u (i := 9) (d := some 110) rfl (by kernel_rfl) (by kernel_rfl) (by kernel_rfl) (fun _ _ _ h => h) rfl (by rfl) (by assumption) ?_
      try simp only [Act.put, List.setIfInBounds_toArray, List.set_cons_zero, List.set_cons_succ]
      refine take_u (i := 10) (d := some 111) rfl (by kernel_rfl) (by kernel_rfl) (by kernel_rfl) (fun _ _ _ h => h) rfl (by rfl) (by assumption) ?_
      try simp only [Act.put, List.setIfInBounds_toArray, List.set_cons_zero, List.set_cons_succ]
      refine take_u (i := 11) (d := some 112) rfl (by kernel_rfl) (by kernel_rfl) (by kernel_rfl) (fun _ _ _ h => h) rfl (by rfl) (by assumption) ?_
      try simp only [Act.put, List.setIfInBounds_toArray, List.set_cons_zero, List.set_cons_succ]
      refine take_u (i := 12) (d := some 113) rfl (by kernel_rfl) (by kernel_rfl) (by kernel_rfl) (fun _ _ _ h => h) rfl (by rfl) (by assumption) ?_
      try simp only [Act.put, List.setIfInBounds_toArray, List.set_cons_zero, List.set_cons_succ]
      refine take_u (i := 13) (d := some 114) rfl (by kernel_rfl) (by kernel_rfl) (by kernel_rfl) (fun _ _ _ h => h) rfl (by rfl) (by assumption) ?_
      try simp only [Act.put, List.setIfInBounds_toArray, List.set_cons_zero, List.set_cons_succ]
      refine take_u (i := 14) (d := some 115) rfl (by kernel_rfl) (by kernel_rfl) (by kernel_rfl) (fun _ _ _ h => h) rfl (by rfl) (by assumption) ?_
      try simp only [Act.put, List.setIfInBounds_toArray, List.set_cons_zero, List.set_cons_succ]
      refine take_w (i := 15) (d := some 116) (v := ?_) rfl (by kernel_rfl) (by kernel_rfl) (by kernel_rfl) (fun _ _ _ h => h) rfl (by rfl) ?_ (by assumption) ?_
      rotate_left
      · (intro w hSw; (try dsimp only at hSw); go_simp; (try with_reducible rfl))
      try simp only [Act.put, List.setIfInBounds_toArray, List.set_cons_zero, List.set_cons_succ]
      refine take_w (i := 16) (d := some 12) (v := ?_) rfl (by kernel_rfl) (by kernel_rfl) (by kernel_rfl) (fun _ _ _ h => h) rfl (by rfl) ?_ (by assumption) ?_
      rotate_left
      · (intro w hSw; (try dsimp only at hSw); go_simp; (try with_reducible rfl))
      try simp only [Act.put, List.setIfInBounds_toArray, List.set_cons_zero, List.set_cons_succ]
      refine wpAnyH_done (by kernel_rfl) ?_ _
      have qs := p2
      clear HK U1 U2 U3
      clear b1_0 b1_1 b1_2 b2_0 b2_1 b2_2
      have HB1 := Lib.hid (HB1.out.q qs)
      have HR1 := Lib.hid (HR1.out.q qs)
      have HB2 := Lib.hid (HB2.out.q qs)
      have HR2 := Lib.hid (HR2.out.q qs)
      have HRk := Lib.hid (HRk.out.q qs)
      have Hq := Lib.hid (Hq.out.trans qs)
      clear qs
      have b1_0 := HB1.out.c0
      have b1_1 := HB1.out.c1
      have b1_2 := HB1.out.c2
      have b2_0 := HB2.out.c0
      have b2_1 := HB2.out.c1
      have b2_2 := HB2.out.c2
      have T1 := Lib.hid (fun (W : World) (q : Q z2 W) => Fa.out W (HR2.out.q q))
      have T2 := Lib.hid (fun (W : World) (q : Q z2 W) => Fb.out W (HR2.out.q q))
      have T3 : Hid (∀ W, Q z2 W → Calls Try.prog 14 #[.agg #[.slice A c.V.length k1, .slice D c.N.length k2, .slice E c.M.length k3], .int .i64 (t : Int)] W fun e W' => e = .returned (.int .i64 (rt : Int)) ∧ Q W W') := fun W q => by rw [Hrt.out]; exact find_any R c t A D E _ k1 _ k2 _ k3 W rfl rfl rfl (HR1.out.q q) HC.out htl HfM.out.1
      go_wp2_with fail
      have HK : Hid (∀ w', Q z2 w' → w'.cell? ⟨w.heap.size + 1, 0, none⟩ = some (.slice A c.V.length k1) ∧ w'.cell? ⟨w.heap.size + 1, 1, none⟩ = some (.slice D c.N.length k2) ∧ w'.cell? ⟨w.heap.size + 1, 2, none⟩ = some (.slice E c.M.length k3) ∧ w'.cell? ⟨B4, 0, none⟩ = some (.slice A_4 c.V.length k_4) ∧ w'.cell? ⟨B4, 1, none⟩ = some (.slice D_4 X.N.length l_4) ∧ w'.cell? ⟨B4, 2, none⟩ = some (.slice E_4 X.M.length m_4)) := fun w' q => ⟨(q.cell (p := ⟨w.heap.size + 1, 0, none⟩) HB1.out.lt).trans b1_0, (q.cell (p := ⟨w.heap.size + 1, 1, none⟩) HB1.out.lt).trans b1_1, (q.cell (p := ⟨w.heap.size + 1, 2, none⟩) HB1.out.lt).trans b1_2, (q.cell (p := ⟨B4, 0, none⟩) HB2.out.lt).trans b2_0, (q.cell (p := ⟨B4, 1, none⟩) HB2.out.lt).trans b2_1, (q.cell (p := ⟨B4, 2, none⟩) HB2.out.lt).trans b2_2⟩
      refine wp_region_held_drew (S := (fun w' => w'.cell? ⟨w.heap.size + 1, 0, none⟩ = some (.slice A c.V.length k1) ∧ w'.cell? ⟨w.heap.size + 1, 1, none⟩ = some (.slice D c.N.length k2) ∧ w'.cell? ⟨w.heap.size + 1, 2, none⟩ = some (.slice E c.M.length k3) ∧ w'.cell? ⟨B4, 0, none⟩ = some (.slice A_4 c.V.length k_4) ∧ w'.cell? ⟨B4, 1, none⟩ = some (.slice D_4 X.N.length l_4) ∧ w'.cell? ⟨B4, 2, none⟩ = some (.slice E_4 X.M.length m_4))) (by kernel_rfl) ?_ (fun hHeld => ?_)
      · exact HK.out _ (Q.refl z2).drew
      refine take_w (i := 0) (d := some 117) (v := ?_) rfl (by kernel_rfl) (by kernel_rfl) (by kernel_rfl) (fun _ _ _ h => h) rfl (by rfl) ?_ (by assumption) ?_
      rotate_left
      · (intro w hSw; (try dsimp only at hSw); go_simp; (try with_reducible rfl))
      try simp only [Act.put, List.setIfInBounds_toArray, List.set_cons_zero, List.set_cons_succ]
      refine take_w (i := 1) (d := some 118) (v := ?_) rfl (by kernel_rfl) (by kernel_rfl) (by kernel_rfl) (fun _ _ _ h => h) rfl (by rfl) ?_ (by assumption) ?_
      rotate_left
      · (intro w hSw; (try dsimp only at hSw); go_simp; (try with_reducible rfl))
      try simp only [Act.put, List.setIfInBounds_toArray, List.set_cons_zero, List.set_cons_succ]
      refine take_w (i := 2) (d := some 119) (v := ?_) rfl (by kernel_rfl) (by kernel_rfl) (by kernel_rfl) (fun _ _ _ h => h) rfl (by rfl) ?_ (by assumption) ?_
      rotate_left
      · (intro w hSw; (try dsimp only at hSw); go_simp; (try with_reducible rfl))
      try simp only [Act.put, List.setIfInBounds_toArray, List.set_cons_zero, List.set_cons_succ]
      refine take_w (i := 3) (d := some 120) (v := ?_) rfl (by kernel_rfl) (by kernel_rfl) (by kernel_rfl) (fun _ _ _ h => h) rfl (by rfl) ?_ (by assumption) ?_
      rotate_left
      · (intro w hSw; (try dsimp only at hSw); go_simp; (try with_reducible rfl))
      try simp only [Act.put, List.setIfInBounds_toArray, List.set_cons_zero, List.set_cons_succ]
      refine take_w (i := 5) (d := some 122) (v := ?_) rfl (by kernel_rfl) (by kernel_rfl) (by kernel_rfl) (fun _ _ _ h => h) rfl (by rfl) ?_ (by assumption) ?_
      rotate_left
      · (intro w hSw; (try dsimp only at hSw); go_simp; (try with_reducible rfl))
      try simp only [Act.put, List.setIfInBounds_toArray, List.set_cons_zero, List.set_cons_succ]
      refine take_w (i := 6) (d := some 123) (v := ?_) rfl (by kernel_rfl) (by kernel_rfl) (by kernel_rfl) (fun _ _ _ h => h) rfl (by rfl) ?_ (by assumption) ?_
      rotate_left
      · (intro w hSw; (try dsimp only at hSw); go_simp; (try with_reducible rfl))
      try simp only [Act.put, List.setIfInBounds_toArray, List.set_cons_zero, List.set_cons_succ]
      refine call_w (i := 4) rfl (by kernel_rfl) (by rfl) (fun K hK => ?_)
      go_simp
      go_at_call 14
      refine (T1.out _ (Q.refl z2).drew).mono ?_
      rintro e v1 ⟨rfl, qt1⟩
      have r1 : Q z2 v1 := ((Q.refl z2).drew).trans qt1
      refine hK.out _ _ ?_ (fun hHeld => ?_)
      · exact HK.out _ r1
      clear hK K
      try simp only [Act.put, List.setIfInBounds_toArray, List.set_cons_zero, List.set_cons_succ]
      refine call_w (i := 7) rfl (by kernel_rfl) (by rfl) (fun K hK => ?_)
      go_simp
      go_at_call 14
      refine (T2.out _ r1).mono ?_
      rintro e v2 ⟨rfl, qt2⟩
      have r2 : Q z2 v2 := (r1).trans qt2
      refine hK.out _ _ ?_ (fun hHeld => ?_)
      · exact HK.out _ r2
      clear hK K
      try simp only [Act.put, List.setIfInBounds_toArray, List.set_cons_zero, List.set_cons_succ]
      refine take_w (i := 8) (d := some 125) (v := ?_) rfl (by kernel_rfl) (by kernel_rfl) (by kernel_rfl) (fun _ _ _ h => h) rfl (by rfl) ?_ (by assumption) ?_
      rotate_left
      · (intro w hSw; (try dsimp only at hSw); go_simp; (try with_reducible rfl))
      try simp only [Act.put, List.setIfInBounds_toArray, List.set_cons_zero, List.set_cons_succ]
      refine take_w (i := 9) (d := some 126) (v := ?_) rfl (by kernel_rfl) (by kernel_rfl) (by kernel_rfl) (fun _ _ _ h => h) rfl (by rfl) ?_ (by assumption) ?_
      rotate_left
      · (intro w hSw; (try dsimp only at hSw); go_simp; (try with_reducible rfl))
      try simp only [Act.put, List.setIfInBounds_toArray, List.set_cons_zero, List.set_cons_succ]
      refine take_w (i := 10) (d := some 127) (v := ?_) rfl (by kernel_rfl) (by kernel_rfl) (by kernel_rfl) (fun _ _ _ h => h) rfl (by rfl) ?_ (by assumption) ?_
      rotate_left
      · (intro w hSw; (try dsimp only at hSw); go_simp; (try with_reducible rfl))
      try simp only [Act.put, List.setIfInBounds_toArray, List.set_cons_zero, List.set_cons_succ]
      refine take_w (i := 11) (d := some 128) (v := ?_) rfl (by kernel_rfl) (by kernel_rfl) (by kernel_rfl) (fun _ _ _ h => h) rfl (by rfl) ?_ (by assumption) ?_
      rotate_left
      · (intro w hSw; (try dsimp only at hSw); go_simp; (try with_reducible rfl))
      try simp only [Act.put, List.setIfInBounds_toArray, List.set_cons_zero, List.set_cons_succ]
      refine take_w (i := 12) (d := some 129) (v := ?_) rfl (by kernel_rfl) (by kernel_rfl) (by kernel_rfl) (fun _ _ _ h => h) rfl (by rfl) ?_ (by assumption) ?_
      rotate_left
      · (intro w hSw; (try dsimp only at hSw); go_simp; (try with_reducible rfl))
      try simp only [Act.put, List.setIfInBounds_toArray, List.set_cons_zero, List.set_cons_succ]
      refine take_w (i := 13) (d := some 130) (v := ?_) rfl (by kernel_rfl) (by kernel_rfl) (by kernel_rfl) (fun _ _ _ h => h) rfl (by rfl) ?_ (by assumption) ?_
      rotate_left
      · (intro w hSw; (try dsimp only at hSw); go_simp; (try with_reducible rfl))
      try simp only [Act.put, List.setIfInBounds_toArray, List.set_cons_zero, List.set_cons_succ]
      refine take_w (i := 16) (d := some 133) (v := ?_) rfl (by kernel_rfl) (by kernel_rfl) (by kernel_rfl) (fun _ _ _ h => h) rfl (by rfl) ?_ (by assumption) ?_
      rotate_left
      · (intro w hSw; (try dsimp only at hSw); go_simp; (try with_reducible rfl))
      try simp only [Act.put, List.setIfInBounds_toArray, List.set_cons_zero, List.set_cons_succ]
      refine call_w (i := 14) rfl (by kernel_rfl) (by rfl) (fun K hK => ?_)
      go_simp
      go_at_call 14
      refine (T1.out _ r2).mono ?_
      rintro e v3 ⟨rfl, qt3⟩
      have r3 : Q z2 v3 := (r2).trans qt3
      refine hK.out _ _ ?_ (fun hHeld => ?_)
      · exact HK.out _ r3
      clear hK K
      try simp only [Act.put, List.setIfInBounds_toArray, List.set_cons_zero, List.set_cons_succ]
      refine take_w (i := 15) (d := some 132) (v := ?_) rfl (by kernel_rfl) (by kernel_rfl) (by kernel_rfl) (fun _ _ _ h => h) rfl (by rfl) ?_ (by assumption) ?_
      rotate_left
      · (intro w hSw; (try dsimp only at hSw); go_simp; (try with_reducible rfl))
      try simp only [Act.put, List.setIfInBounds_toArray, List.set_cons_zero, List.set_cons_succ]
      refine take_w (i := 17) (d := some 134) (v := ?_) rfl (by kernel_rfl) (by kernel_rfl) (by kernel_rfl) (fun _ _ _ h => h) rfl (by rfl) ?_ (by assumption) ?_
      rotate_left
      · (intro w hSw; (try dsimp only at hSw); go_simp; (try with_reducible rfl))
      try simp only [Act.put, List.setIfInBounds_toArray, List.set_cons_zero, List.set_cons_succ]
      refine take_w (i := 18) (d := some 135) (v := ?_) rfl (by kernel_rfl) (by kernel_rfl) (by kernel_rfl) (fun _ _ _ h => h) rfl (by rfl) ?_ (by assumption) ?_
      rotate_left
      · (intro w hSw; (try dsimp only at hSw); go_simp; (try with_reducible rfl))
      try simp only [Act.put, List.setIfInBounds_toArray, List.set_cons_zero, List.set_cons_succ]
      refine take_w (i := 19) (d := some 136) (v := ?_) rfl (by kernel_rfl) (by kernel_rfl) (by kernel_rfl) (fun _ _ _ h => h) rfl (by rfl) ?_ (by assumption) ?_
      rotate_left
      · (intro w hSw; (try dsimp only at hSw); go_simp; (try with_reducible rfl))
      try simp only [Act.put, List.setIfInBounds_toArray, List.set_cons_zero, List.set_cons_succ]
      refine take_w (i := 20) (d := some 137) (v := ?_) rfl (by kernel_rfl) (by kernel_rfl) (by kernel_rfl) (fun _ _ _ h => h) rfl (by rfl) ?_ (by assumption) ?_
      rotate_left
      · (intro w hSw; (try dsimp only at hSw); go_simp; (try with_reducible rfl))
      try simp only [Act.put, List.setIfInBounds_toArray, List.set_cons_zero, List.set_cons_succ]
      refine take_w (i := 21) (d := some 138) (v := ?_) rfl (by kernel_rfl) (by kernel_rfl) (by kernel_rfl) (fun _ _ _ h => h) rfl (by rfl) ?_ (by assumption) ?_
      rotate_left
      · (intro w hSw; (try dsimp only at hSw); go_simp; (try with_reducible rfl))
      try simp only [Act.put, List.setIfInBounds_toArray, List.set_cons_zero, List.set_cons_succ]
      refine take_u (i := 22) (d := some 139) rfl (by kernel_rfl) (by kernel_rfl) (by kernel_rfl) (fun _ _ _ h => h) rfl (by rfl) (by assumption) ?_
      try simp only [Act.put, List.setIfInBounds_toArray, List.set_cons_zero, List.set_cons_succ]
      refine take_u (i := 23) (d := some 140) rfl (by kernel_rfl) (by kernel_rfl) (by kernel_rfl) (fun _ _ _ h => h) rfl (by rfl) (by assumption) ?_
      try simp only [Act.put, List.setIfInBounds_toArray, List.set_cons_zero, List.set_cons_succ]
      refine take_u (i := 24) (d := some 141) rfl (by kernel_rfl) (by kernel_rfl) (by kernel_rfl) (fun _ _ _ h => h) rfl (by rfl) (by assumption) ?_
      try simp only [Act.put, List.setIfInBounds_toArray, List.set_cons_zero, List.set_cons_succ]
      refine take_u (i := 25) (d := some 142) rfl (by kernel_rfl) (by kernel_rfl) (by kernel_rfl) (fun _ _ _ h => h) rfl (by rfl) (by assumption) ?_
      try simp only [Act.put, List.setIfInBounds_toArray, List.set_cons_zero, List.set_cons_succ]
      refine take_u (i := 26) (d := some 143) rfl (by kernel_rfl) (by kernel_rfl) (by kernel_rfl) (fun _ _ _ h => h) rfl (by rfl) (by assumption) ?_
      try simp only [Act.put, List.setIfInBounds_toArray, List.set_cons_zero, List.set_cons_succ]
      refine take_w (i := 27) (d := some 144) (v := ?_) rfl (by kernel_rfl) (by kernel_rfl) (by kernel_rfl) (fun _ _ _ h => h) rfl (by rfl) ?_ (by assumption) ?_
      rotate_left
      · (intro w hSw; (try dsimp only at hSw); go_simp; (try with_reducible rfl))
      try simp only [Act.put, List.setIfInBounds_toArray, List.set_cons_zero, List.set_cons_succ]
      refine take_w (i := 28) (d := some 145) (v := ?_) rfl (by kernel_rfl) (by kernel_rfl) (by kernel_rfl) (fun _ _ _ h => h) rfl (by rfl) ?_ (by assumption) ?_
      rotate_left
      · (intro w hSw; (try dsimp only at hSw); go_simp; (try with_reducible rfl))
      try simp only [Act.put, List.setIfInBounds_toArray, List.set_cons_zero, List.set_cons_succ]
      refine take_w (i := 29) (d := some 2) (v := ?_) rfl (by kernel_rfl) (by kernel_rfl) (by kernel_rfl) (fun _ _ _ h => h) rfl (by rfl) ?_ (by assumption) ?_
      rotate_left
      · (intro w hSw; (try dsimp only at hSw); go_simp; (try with_reducible rfl))
      try simp only [Act.put, List.setIfInBounds_toArray, List.set_cons_zero, List.set_cons_succ]
      refine wpAnyH_done (by kernel_rfl) ?_ _
      all_goals
        go_wp2_with fail
        go_ret
        exact ⟨rfl, Hq.out.trans r3⟩
    · have dft : ((f : Int) != (t : Int)) = true := bne_iff_ne.2 (by omega)
      have hls := f3.resolve_left hft
      clear hft f3
      go_wp2_with fail
      refine (CL.out _ HRk.out).mono ?_
      rintro e y10 ⟨rfl, qs⟩
      rw [hls]
      clear b1_0 b1_1 b1_2 b2_0 b2_1 b2_2
      have HB1 := Lib.hid (HB1.out.q qs)
      have HR1 := Lib.hid (HR1.out.q qs)
      have HB2 := Lib.hid (HB2.out.q qs)
      have HR2 := Lib.hid (HR2.out.q qs)
      have HRk := Lib.hid (HRk.out.q qs)
      have Hq := Lib.hid (Hq.out.trans qs)
      clear qs
      have b1_0 := HB1.out.c0
      have b1_1 := HB1.out.c1
      have b1_2 := HB1.out.c2
      have b2_0 := HB2.out.c0
      have b2_1 := HB2.out.c1
      have b2_2 := HB2.out.c2
      go_wp2_with fail
      refine (Ff.out _ HR2.out).mono ?_
      rintro e y11 ⟨rfl, qs⟩
      clear b1_0 b1_1 b1_2 b2_0 b2_1 b2_2
      have HB1 := Lib.hid (HB1.out.q qs)
      have HR1 := Lib.hid (HR1.out.q qs)
      have HB2 := Lib.hid (HB2.out.q qs)
      have HR2 := Lib.hid (HR2.out.q qs)
      have HRk := Lib.hid (HRk.out.q qs)
      have Hq := Lib.hid (Hq.out.trans qs)
      clear qs
      have b1_0 := HB1.out.c0
      have b1_1 := HB1.out.c1
      have b1_2 := HB1.out.c2
      have b2_0 := HB2.out.c0
      have b2_1 := HB2.out.c1
      have b2_2 := HB2.out.c2
      clear CL Ff dft
      have U1 : Hid (∀ W, Q y11 W → Calls Try.prog 14 #[.agg #[.slice A c.V.length k1, .slice D c.N.length k2, .slice E c.M.length k3], .int .i64 (t : Int)] W fun e W' => e = .returned (.int .i64 (rt : Int)) ∧ Q W W') := fun W q => by rw [Hrt.out]; exact find_any R c t A D E _ k1 _ k2 _ k3 W rfl rfl rfl (HR1.out.q q) HC.out htl HfM.out.1
      have U2 : Hid (∀ W, Q y11 W → Calls Try.prog 14 #[.agg #[.slice A c.V.length k1, .slice D c.N.length k2, .slice E c.M.length k3], .int .i64 (a : Int)] W fun e W' => e = .returned (.int .i64 (rt : Int)) ∧ Q W W') := fun W q => by rw [Hra.out]; exact find_any R c a A D E _ k1 _ k2 _ k3 W rfl rfl rfl (HR1.out.q q) HC.out hal HfM.out.1
      have U3 : Hid (∀ W, Q y11 W → Calls Try.prog 14 #[.agg #[.slice A c.V.length k1, .slice D c.N.length k2, .slice E c.M.length k3], .int .i64 (b : Int)] W fun e W' => e = .returned (.int .i64 (rb : Int)) ∧ Q W W') := fun W q => by rw [Hrb.out]; exact find_any R c b A D E _ k1 _ k2 _ k3 W rfl rfl rfl (HR1.out.q q) HC.out hbl HfM.out.1
      go_wp2_with fail
      have HK : Hid (∀ w', Q y11 w' → w'.cell? ⟨w.heap.size + 1, 0, none⟩ = some (.slice A c.V.length k1) ∧ w'.cell? ⟨w.heap.size + 1, 1, none⟩ = some (.slice D c.N.length k2) ∧ w'.cell? ⟨w.heap.size + 1, 2, none⟩ = some (.slice E c.M.length k3)) := fun w' q => ⟨(q.cell (p := ⟨w.heap.size + 1, 0, none⟩) HB1.out.lt).trans b1_0, (q.cell (p := ⟨w.heap.size + 1, 1, none⟩) HB1.out.lt).trans b1_1, (q.cell (p := ⟨w.heap.size + 1, 2, none⟩) HB1.out.lt).trans b1_2⟩
      refine wp_region_held_drew (S := (fun w' => w'.cell? ⟨w.heap.size + 1, 0, none⟩ = some (.slice A c.V.length k1) ∧ w'.cell? ⟨w.heap.size + 1, 1, none⟩ = some (.slice D c.N.length k2) ∧ w'.cell? ⟨w.heap.size + 1, 2, none⟩ = some (.slice E c.M.length k3))) (by kernel_rfl) ?_ (fun hHeld => ?_)
      · exact HK.out _ (Q.refl y11).drew
      refine take_w (i := 0) (d := some 101) (v := ?_) rfl (by kernel_rfl) (by kernel_rfl) (by kernel_rfl) (fun _ _ _ h => h) rfl (by rfl) ?_ (by assumption) ?_
      rotate_left
      · (intro w hSw; (try dsimp only at hSw); go_simp; (try with_reducible rfl))
      try simp only [Act.put, List.setIfInBounds_toArray, List.set_cons_zero, List.set_cons_succ]
      refine take_w (i := 1) (d := some 102) (v := ?_) rfl (by kernel_rfl) (by kernel_rfl) (by kernel_rfl) (fun _ _ _ h => h) rfl (by rfl) ?_ (by assumption) ?_
      rotate_left
      · (intro w hSw; (try dsimp only at hSw); go_simp; (try with_reducible rfl))
      try simp only [Act.put, List.setIfInBounds_toArray, List.set_cons_zero, List.set_cons_succ]
      refine take_w (i := 3) (d := some 104) (v := ?_) rfl (by kernel_rfl) (by kernel_rfl) (by kernel_rfl) (fun _ _ _ h => h) rfl (by rfl) ?_ (by assumption) ?_
      rotate_left
      · (intro w hSw; (try dsimp only at hSw); go_simp; (try with_reducible rfl))
      try simp only [Act.put, List.setIfInBounds_toArray, List.set_cons_zero, List.set_cons_succ]
      refine take_w (i := 4) (d := some 105) (v := ?_) rfl (by kernel_rfl) (by kernel_rfl) (by kernel_rfl) (fun _ _ _ h => h) rfl (by rfl) ?_ (by assumption) ?_
      rotate_left
      · (intro w hSw; (try dsimp only at hSw); go_simp; (try with_reducible rfl))
      try simp only [Act.put, List.setIfInBounds_toArray, List.set_cons_zero, List.set_cons_succ]
      refine call_w (i := 2) rfl (by kernel_rfl) (by rfl) (fun K hK => ?_)
      go_simp
      go_at_call 14
      refine (U1.out _ (Q.refl y11).drew).mono ?_
      rintro e z1 ⟨rfl, qs1⟩
      have p1 : Q y11 z1 := ((Q.refl y11).drew).trans qs1
      refine hK.out _ _ ?_ (fun hHeld => ?_)
      · exact HK.out _ p1
      clear hK K
      try simp only [Act.put, List.setIfInBounds_toArray, List.set_cons_zero, List.set_cons_succ]
      refine call_w (i := 5) rfl (by kernel_rfl) (by rfl) (fun K hK => ?_)
      go_simp
      go_at_call 14
      refine (U2.out _ p1).mono ?_
      rintro e z2 ⟨rfl, qs2⟩
      have p2 : Q y11 z2 := (p1).trans qs2
      refine hK.out _ _ ?_ (fun hHeld => ?_)
      · exact HK.out _ p2
      clear hK K
      try simp only [Act.put, List.setIfInBounds_toArray, List.set_cons_zero, List.set_cons_succ]
      refine take_w (i := 6) (d := some 107) (v := ?_) rfl (by kernel_rfl) (by kernel_rfl) (by kernel_rfl) (fun _ _ _ h => h) rfl (by rfl) ?_ (by assumption) ?_
      rotate_left
      · (intro w hSw; (try dsimp only at hSw); go_simp; (try with_reducible rfl))
      try simp only [Act.put, List.setIfInBounds_toArray, List.set_cons_zero, List.set_cons_succ]
      refine take_w (i := 7) (d := some 108) (v := ?_) rfl (by kernel_rfl) (by kernel_rfl) (by kernel_rfl) (fun _ _ _ h => h) rfl (by rfl) ?_ (by assumption) ?_
      rotate_left
      · (intro w hSw; (try dsimp only at hSw); go_simp; (try with_reducible rfl))
      try simp only [Act.put, List.setIfInBounds_toArray, List.set_cons_zero, List.set_cons_succ]
      refine take_u (i := 8) (d := some 109) rfl (by kernel_rfl) (by kernel_rfl) (by kernel_rfl) (fun _ _ _ h => h) rfl (by rfl) (by assumption) ?_
      try simp only [Act.put, List.setIfInBounds_toArray, List.set_cons_zero, List.set_cons_succ]
      refine take_u (i := 9) (d := some 110) rfl (by kernel_rfl) (by kernel_rfl) (by kernel_rfl) (fun _ _ _ h => h) rfl (by rfl) (by assumption) ?_
      try simp only [Act.put, List.setIfInBounds_toArray, List.set_cons_zero, List.set_cons_succ]
      refine take_u (i := 10) (d := some 111) rfl (by kernel_rfl) (by kernel_rfl) (by kernel_rfl) (fun _ _ _ h => h) rfl (by rfl) (by assumption) ?_
      try simp only [Act.put, List.setIfInBounds_toArray, List.set_cons_zero, List.set_cons_succ]
      refine take_u (i := 11) (d := some 112) rfl (by kernel_rfl) (by kernel_rfl) (by kernel_rfl) (fun _ _ _ h => h) rfl (by rfl) (by assumption) ?_
      try simp only [Act.put, List.setIfInBounds_toArray, List.set_cons_zero, List.set_cons_succ]
      refine take_u (i := 12) (d := some 113) rfl (by kernel_rfl) (by kernel_rfl) (by kernel_rfl) (fun _ _ _ h => h) rfl (by rfl) (by assumption) ?_
      try simp only [Act.put, List.setIfInBounds_toArray, List.set_cons_zero, List.set_cons_succ]
      refine take_u (i := 13) (d := some 114) rfl (by kernel_rfl) (by kernel_rfl) (by kernel_rfl) (fun _ _ _ h => h) rfl (by rfl) (by assumption) ?_
      try simp only [Act.put, List.setIfInBounds_toArray, List.set_cons_zero, List.set_cons_succ]
      refine take_u (i := 14) (d := some 115) rfl (by kernel_rfl) (by kernel_rfl) (by kernel_rfl) (fun _ _ _ h => h) rfl (by rfl) (by assumption) ?_
      try simp only [Act.put, List.setIfInBounds_toArray, List.set_cons_zero, List.set_cons_succ]
      refine take_w (i := 15) (d := some 116) (v := ?_) rfl (by kernel_rfl) (by kernel_rfl) (by kernel_rfl) (fun _ _ _ h => h) rfl (by rfl) ?_ (by assumption) ?_
      rotate_left
      · (intro w hSw; (try dsimp only at hSw); go_simp; (try with_reducible rfl))
      try simp only [Act.put, List.setIfInBounds_toArray, List.set_cons_zero, List.set_cons_succ]
      refine take_w (i := 16) (d := some 12) (v := ?_) rfl (by kernel_rfl) (by kernel_rfl) (by kernel_rfl) (fun _ _ _ h => h) rfl (by rfl) ?_ (by assumption) ?_
      rotate_left
      · (intro w hSw; (try dsimp only at hSw); go_simp; (try with_reducible rfl))
      try simp only [Act.put, List.setIfInBounds_toArray, List.set_cons_zero, List.set_cons_succ]
      refine wpAnyH_done (by kernel_rfl) ?_ _
      have qs := p2
      clear HK U1 U2 U3
      clear b1_0 b1_1 b1_2 b2_0 b2_1 b2_2
      have HB1 := Lib.hid (HB1.out.q qs)
      have HR1 := Lib.hid (HR1.out.q qs)
      have HB2 := Lib.hid (HB2.out.q qs)
      have HR2 := Lib.hid (HR2.out.q qs)
      have HRk := Lib.hid (HRk.out.q qs)
      have Hq := Lib.hid (Hq.out.trans qs)
      clear qs
      have b1_0 := HB1.out.c0
      have b1_1 := HB1.out.c1
      have b1_2 := HB1.out.c2
      have b2_0 := HB2.out.c0
      have b2_1 := HB2.out.c1
      have b2_2 := HB2.out.c2
      have T1 := Lib.hid (fun (W : World) (q : Q z2 W) => Fa.out W (HR2.out.q q))
      have T2 := Lib.hid (fun (W : World) (q : Q z2 W) => Fb.out W (HR2.out.q q))
      have T3 : Hid (∀ W, Q z2 W → Calls Try.prog 14 #[.agg #[.slice A c.V.length k1, .slice D c.N.length k2, .slice E c.M.length k3], .int .i64 (t : Int)] W fun e W' => e = .returned (.int .i64 (rt : Int)) ∧ Q W W') := fun W q => by rw [Hrt.out]; exact find_any R c t A D E _ k1 _ k2 _ k3 W rfl rfl rfl (HR1.out.q q) HC.out htl HfM.out.1
      go_wp2_with fail
      have HK : Hid (∀ w', Q z2 w' → w'.cell? ⟨w.heap.size + 1, 0, none⟩ = some (.slice A c.V.length k1) ∧ w'.cell? ⟨w.heap.size + 1, 1, none⟩ = some (.slice D c.N.length k2) ∧ w'.cell? ⟨w.heap.size + 1, 2, none⟩ = some (.slice E c.M.length k3) ∧ w'.cell? ⟨B4, 0, none⟩ = some (.slice A_4 c.V.length k_4) ∧ w'.cell? ⟨B4, 1, none⟩ = some (.slice D_4 X.N.length l_4) ∧ w'.cell? ⟨B4, 2, none⟩ = some (.slice E_4 X.M.length m_4)) := fun w' q => ⟨(q.cell (p := ⟨w.heap.size + 1, 0, none⟩) HB1.out.lt).trans b1_0, (q.cell (p := ⟨w.heap.size + 1, 1, none⟩) HB1.out.lt).trans b1_1, (q.cell (p := ⟨w.heap.size + 1, 2, none⟩) HB1.out.lt).trans b1_2, (q.cell (p := ⟨B4, 0, none⟩) HB2.out.lt).trans b2_0, (q.cell (p := ⟨B4, 1, none⟩) HB2.out.lt).trans b2_1, (q.cell (p := ⟨B4, 2, none⟩) HB2.out.lt).trans b2_2⟩
      refine wp_region_held_drew (S := (fun w' => w'.cell? ⟨w.heap.size + 1, 0, none⟩ = some (.slice A c.V.length k1) ∧ w'.cell? ⟨w.heap.size + 1, 1, none⟩ = some (.slice D c.N.length k2) ∧ w'.cell? ⟨w.heap.size + 1, 2, none⟩ = some (.slice E c.M.length k3) ∧ w'.cell? ⟨B4, 0, none⟩ = some (.slice A_4 c.V.length k_4) ∧ w'.cell? ⟨B4, 1, none⟩ = some (.slice D_4 X.N.length l_4) ∧ w'.cell? ⟨B4, 2, none⟩ = some (.slice E_4 X.M.length m_4))) (by kernel_rfl) ?_ (fun hHeld => ?_)
      · exact HK.out _ (Q.refl z2).drew
      refine take_w (i := 0) (d := some 117) (v := ?_) rfl (by kernel_rfl) (by kernel_rfl) (by kernel_rfl) (fun _ _ _ h => h) rfl (by rfl) ?_ (by assumption) ?_
      rotate_left
      · (intro w hSw; (try dsimp only at hSw); go_simp; (try with_reducible rfl))
      try simp only [Act.put, List.setIfInBounds_toArray, List.set_cons_zero, List.set_cons_succ]
      refine take_w (i := 1) (d := some 118) (v := ?_) rfl (by kernel_rfl) (by kernel_rfl) (by kernel_rfl) (fun _ _ _ h => h) rfl (by rfl) ?_ (by assumption) ?_
      rotate_left
      · (intro w hSw; (try dsimp only at hSw); go_simp; (try with_reducible rfl))
      try simp only [Act.put, List.setIfInBounds_toArray, List.set_cons_zero, List.set_cons_succ]
      refine take_w (i := 2) (d := some 119) (v := ?_) rfl (by kernel_rfl) (by kernel_rfl) (by kernel_rfl) (fun _ _ _ h => h) rfl (by rfl) ?_ (by assumption) ?_
      rotate_left
      · (intro w hSw; (try dsimp only at hSw); go_simp; (try with_reducible rfl))
      try simp only [Act.put, List.setIfInBounds_toArray, List.set_cons_zero, List.set_cons_succ]
      refine take_w (i := 3) (d := some 120) (v := ?_) rfl (by kernel_rfl) (by kernel_rfl) (by kernel_rfl) (fun _ _ _ h => h) rfl (by rfl) ?_ (by assumption) ?_
      rotate_left
      · (intro w hSw; (try dsimp only at hSw); go_simp; (try with_reducible rfl))
      try simp only [Act.put, List.setIfInBounds_toArray, List.set_cons_zero, List.set_cons_succ]
      refine take_w (i := 5) (d := some 122) (v := ?_) rfl (by kernel_rfl) (by kernel_rfl) (by kernel_rfl) (fun _ _ _ h => h) rfl (by rfl) ?_ (by assumption) ?_
      rotate_left
      · (intro w hSw; (try dsimp only at hSw); go_simp; (try with_reducible rfl))
      try simp only [Act.put, List.setIfInBounds_toArray, List.set_cons_zero, List.set_cons_succ]
      refine take_w (i := 6) (d := some 123) (v := ?_) rfl (by kernel_rfl) (by kernel_rfl) (by kernel_rfl) (fun _ _ _ h => h) rfl (by rfl) ?_ (by assumption) ?_
      rotate_left
      · (intro w hSw; (try dsimp only at hSw); go_simp; (try with_reducible rfl))
      try simp only [Act.put, List.setIfInBounds_toArray, List.set_cons_zero, List.set_cons_succ]
      refine call_w (i := 4) rfl (by kernel_rfl) (by rfl) (fun K hK => ?_)
      go_simp
      go_at_call 14
      refine (T1.out _ (Q.refl z2).drew).mono ?_
      rintro e v1 ⟨rfl, qt1⟩
      have r1 : Q z2 v1 := ((Q.refl z2).drew).trans qt1
      refine hK.out _ _ ?_ (fun hHeld => ?_)
      · exact HK.out _ r1
      clear hK K
      try simp only [Act.put, List.setIfInBounds_toArray, List.set_cons_zero, List.set_cons_succ]
      refine call_w (i := 7) rfl (by kernel_rfl) (by rfl) (fun K hK => ?_)
      go_simp
      go_at_call 14
      refine (T2.out _ r1).mono ?_
      rintro e v2 ⟨rfl, qt2⟩
      have r2 : Q z2 v2 := (r1).trans qt2
      refine hK.out _ _ ?_ (fun hHeld => ?_)
      · exact HK.out _ r2
      clear hK K
      try simp only [Act.put, List.setIfInBounds_toArray, List.set_cons_zero, List.set_cons_succ]
      refine take_w (i := 8) (d := some 125) (v := ?_) rfl (by kernel_rfl) (by kernel_rfl) (by kernel_rfl) (fun _ _ _ h => h) rfl (by rfl) ?_ (by assumption) ?_
      rotate_left
      · (intro w hSw; (try dsimp only at hSw); go_simp; (try with_reducible rfl))
      try simp only [Act.put, List.setIfInBounds_toArray, List.set_cons_zero, List.set_cons_succ]
      refine take_w (i := 9) (d := some 126) (v := ?_) rfl (by kernel_rfl) (by kernel_rfl) (by kernel_rfl) (fun _ _ _ h => h) rfl (by rfl) ?_ (by assumption) ?_
      rotate_left
      · (intro w hSw; (try dsimp only at hSw); go_simp; (try with_reducible rfl))
      try simp only [Act.put, List.setIfInBounds_toArray, List.set_cons_zero, List.set_cons_succ]
      refine take_w (i := 10) (d := some 127) (v := ?_) rfl (by kernel_rfl) (by kernel_rfl) (by kernel_rfl) (fun _ _ _ h => h) rfl (by rfl) ?_ (by assumption) ?_
      rotate_left
      · (intro w hSw; (try dsimp only at hSw); go_simp; (try with_reducible rfl))
      try simp only [Act.put, List.setIfInBounds_toArray, List.set_cons_zero, List.set_cons_succ]
      refine take_w (i := 11) (d := some 128) (v := ?_) rfl (by kernel_rfl) (by kernel_rfl) (by kernel_rfl) (fun _ _ _ h => h) rfl (by rfl) ?_ (by assumption) ?_
      rotate_left
      · (intro w hSw; (try dsimp only at hSw); go_simp; (try with_reducible rfl))
      try simp only [Act.put, List.setIfInBounds_toArray, List.set_cons_zero, List.set_cons_succ]
      refine take_w (i := 12) (d := some 129) (v := ?_) rfl (by kernel_rfl) (by kernel_rfl) (by kernel_rfl) (fun _ _ _ h => h) rfl (by rfl) ?_ (by assumption) ?_
      rotate_left
      · (intro w hSw; (try dsimp only at hSw); go_simp; (try with_reducible rfl))
      try simp only [Act.put, List.setIfInBounds_toArray, List.set_cons_zero, List.set_cons_succ]
      refine take_w (i := 13) (d := some 130) (v := ?_) rfl (by kernel_rfl) (by kernel_rfl) (by kernel_rfl) (fun _ _ _ h => h) rfl (by rfl) ?_ (by assumption) ?_
      rotate_left
      · (intro w hSw; (try dsimp only at hSw); go_simp; (try with_reducible rfl))
      try simp only [Act.put, List.setIfInBounds_toArray, List.set_cons_zero, List.set_cons_succ]
      refine take_w (i := 16) (d := some 133) (v := ?_) rfl (by kernel_rfl) (by kernel_rfl) (by kernel_rfl) (fun _ _ _ h => h) rfl (by rfl) ?_ (by assumption) ?_
      rotate_left
      · (intro w hSw; (try dsimp only at hSw); go_simp; (try with_reducible rfl))
      try simp only [Act.put, List.setIfInBounds_toArray, List.set_cons_zero, List.set_cons_succ]
      refine call_w (i := 14) rfl (by kernel_rfl) (by rfl) (fun K hK => ?_)
      go_simp
      go_at_call 14
      refine (T1.out _ r2).mono ?_
      rintro e v3 ⟨rfl, qt3⟩
      have r3 : Q z2 v3 := (r2).trans qt3
      refine hK.out _ _ ?_ (fun hHeld => ?_)
      · exact HK.out _ r3
      clear hK K
      try simp only [Act.put, List.setIfInBounds_toArray, List.set_cons_zero, List.set_cons_succ]
      refine take_w (i := 15) (d := some 132) (v := ?_) rfl (by kernel_rfl) (by kernel_rfl) (by kernel_rfl) (fun _ _ _ h => h) rfl (by rfl) ?_ (by assumption) ?_
      rotate_left
      · (intro w hSw; (try dsimp only at hSw); go_simp; (try with_reducible rfl))
      try simp only [Act.put, List.setIfInBounds_toArray, List.set_cons_zero, List.set_cons_succ]
      refine take_w (i := 17) (d := some 134) (v := ?_) rfl (by kernel_rfl) (by kernel_rfl) (by kernel_rfl) (fun _ _ _ h => h) rfl (by rfl) ?_ (by assumption) ?_
      rotate_left
      · (intro w hSw; (try dsimp only at hSw); go_simp; (try with_reducible rfl))
      try simp only [Act.put, List.setIfInBounds_toArray, List.set_cons_zero, List.set_cons_succ]
      refine take_w (i := 18) (d := some 135) (v := ?_) rfl (by kernel_rfl) (by kernel_rfl) (by kernel_rfl) (fun _ _ _ h => h) rfl (by rfl) ?_ (by assumption) ?_
      rotate_left
      · (intro w hSw; (try dsimp only at hSw); go_simp; (try with_reducible rfl))
      try simp only [Act.put, List.setIfInBounds_toArray, List.set_cons_zero, List.set_cons_succ]
      refine take_w (i := 19) (d := some 136) (v := ?_) rfl (by kernel_rfl) (by kernel_rfl) (by kernel_rfl) (fun _ _ _ h => h) rfl (by rfl) ?_ (by assumption) ?_
      rotate_left
      · (intro w hSw; (try dsimp only at hSw); go_simp; (try with_reducible rfl))
      try simp only [Act.put, List.setIfInBounds_toArray, List.set_cons_zero, List.set_cons_succ]
      refine take_w (i := 20) (d := some 137) (v := ?_) rfl (by kernel_rfl) (by kernel_rfl) (by kernel_rfl) (fun _ _ _ h => h) rfl (by rfl) ?_ (by assumption) ?_
      rotate_left
      · (intro w hSw; (try dsimp only at hSw); go_simp; (try with_reducible rfl))
      try simp only [Act.put, List.setIfInBounds_toArray, List.set_cons_zero, List.set_cons_succ]
      refine take_w (i := 21) (d := some 138) (v := ?_) rfl (by kernel_rfl) (by kernel_rfl) (by kernel_rfl) (fun _ _ _ h => h) rfl (by rfl) ?_ (by assumption) ?_
      rotate_left
      · (intro w hSw; (try dsimp only at hSw); go_simp; (try with_reducible rfl))
      try simp only [Act.put, List.setIfInBounds_toArray, List.set_cons_zero, List.set_cons_succ]
      refine take_u (i := 22) (d := some 139) rfl (by kernel_rfl) (by kernel_rfl) (by kernel_rfl) (fun _ _ _ h => h) rfl (by rfl) (by assumption) ?_
      try simp only [Act.put, List.setIfInBounds_toArray, List.set_cons_zero, List.set_cons_succ]
      refine take_u (i := 23) (d := some 140) rfl (by kernel_rfl) (by kernel_rfl) (by kernel_rfl) (fun _ _ _ h => h) rfl (by rfl) (by assumption) ?_
      try simp only [Act.put, List.setIfInBounds_toArray, List.set_cons_zero, List.set_cons_succ]
      refine take_u (i := 24) (d := some 141) rfl (by kernel_rfl) (by kernel_rfl) (by kernel_rfl) (fun _ _ _ h => h) rfl (by rfl) (by assumption) ?_
      try simp only [Act.put, List.setIfInBounds_toArray, List.set_cons_zero, List.set_cons_succ]
      refine take_u (i := 25) (d := some 142) rfl (by kernel_rfl) (by kernel_rfl) (by kernel_rfl) (fun _ _ _ h => h) rfl (by rfl) (by assumption) ?_
      try simp only [Act.put, List.setIfInBounds_toArray, List.set_cons_zero, List.set_cons_succ]
      refine take_u (i := 26) (d := some 143) rfl (by kernel_rfl) (by kernel_rfl) (by kernel_rfl) (fun _ _ _ h => h) rfl (by rfl) (by assumption) ?_
      try simp only [Act.put, List.setIfInBounds_toArray, List.set_cons_zero, List.set_cons_succ]
      refine take_w (i := 27) (d := some 144) (v := ?_) rfl (by kernel_rfl) (by kernel_rfl) (by kernel_rfl) (fun _ _ _ h => h) rfl (by rfl) ?_ (by assumption) ?_
      rotate_left
      · (intro w hSw; (try dsimp only at hSw); go_simp; (try with_reducible rfl))
      try simp only [Act.put, List.setIfInBounds_toArray, List.set_cons_zero, List.set_cons_succ]
      refine take_w (i := 28) (d := some 145) (v := ?_) rfl (by kernel_rfl) (by kernel_rfl) (by kernel_rfl) (fun _ _ _ h => h) rfl (by rfl) ?_ (by assumption) ?_
      rotate_left
      · (intro w hSw; (try dsimp only at hSw); go_simp; (try with_reducible rfl))
      try simp only [Act.put, List.setIfInBounds_toArray, List.set_cons_zero, List.set_cons_succ]
      refine take_w (i := 29) (d := some 2) (v := ?_) rfl (by kernel_rfl) (by kernel_rfl) (by kernel_rfl) (fun _ _ _ h => h) rfl (by rfl) ?_ (by assumption) ?_
      rotate_left
      · (intro w hSw; (try dsimp only at hSw); go_simp; (try with_reducible rfl))
      try simp only [Act.put, List.setIfInBounds_toArray, List.set_cons_zero, List.set_cons_succ]
      refine wpAnyH_done (by kernel_rfl) ?_ _
      all_goals
        go_wp2_with fail
        go_ret
        exact ⟨rfl, Hq.out.trans r3⟩
  by_cases m2 : rt = rb
  · obtain rfl := Jm.out (.inr m2)
    subst m2
    have d1 : ((rt : Int) == (ra : Int)) = false := beq_eq_false_iff_ne.2 (by omega)
    have d2 : ((rt : Int) == (rt : Int)) = true := by simp
    have d3 : ((f : Int) == (f : Int)) = true := by simp
    clear Jm Jo m1
    by_cases hft : f = t
    · have dft : ((f : Int) != (t : Int)) = false := by rw [hft]; simp
      clear hft f3
      go_wp2_with fail
      refine (Ff.out _ HR2.out).mono ?_
      rintro e y10 ⟨rfl, qs⟩
      clear b1_0 b1_1 b1_2 b2_0 b2_1 b2_2
      have HB1 := Lib.hid (HB1.out.q qs)
      have HR1 := Lib.hid (HR1.out.q qs)
      have HB2 := Lib.hid (HB2.out.q qs)
      have HR2 := Lib.hid (HR2.out.q qs)
      have HRk := Lib.hid (HRk.out.q qs)
      have Hq := Lib.hid (Hq.out.trans qs)
      clear qs
      have b1_0 := HB1.out.c0
      have b1_1 := HB1.out.c1
      have b1_2 := HB1.out.c2
      have b2_0 := HB2.out.c0
      have b2_1 := HB2.out.c1
      have b2_2 := HB2.out.c2
      clear CL Ff dft
      have U1 : Hid (∀ W, Q y10 W → Calls Try.prog 14 #[.agg #[.slice A c.V.length k1, .slice D c.N.length k2, .slice E c.M.length k3], .int .i64 (t : Int)] W fun e W' => e = .returned (.int .i64 (rt : Int)) ∧ Q W W') := fun W q => by rw [Hrt.out]; exact find_any R c t A D E _ k1 _ k2 _ k3 W rfl rfl rfl (HR1.out.q q) HC.out htl HfM.out.1
      have U2 : Hid (∀ W, Q y10 W → Calls Try.prog 14 #[.agg #[.slice A c.V.length k1, .slice D c.N.length k2, .slice E c.M.length k3], .int .i64 (a : Int)] W fun e W' => e = .returned (.int .i64 (ra : Int)) ∧ Q W W') := fun W q => by rw [Hra.out]; exact find_any R c a A D E _ k1 _ k2 _ k3 W rfl rfl rfl (HR1.out.q q) HC.out hal HfM.out.1
      have U3 : Hid (∀ W, Q y10 W → Calls Try.prog 14 #[.agg #[.slice A c.V.length k1, .slice D c.N.length k2, .slice E c.M.length k3], .int .i64 (b : Int)] W fun e W' => e = .returned (.int .i64 (rt : Int)) ∧ Q W W') := fun W q => by rw [Hrb.out]; exact find_any R c b A D E _ k1 _ k2 _ k3 W rfl rfl rfl (HR1.out.q q) HC.out hbl HfM.out.1
      go_wp2_with fail
      have HK : Hid (∀ w', Q y10 w' → w'.cell? ⟨w.heap.size + 1, 0, none⟩ = some (.slice A c.V.length k1) ∧ w'.cell? ⟨w.heap.size + 1, 1, none⟩ = some (.slice D c.N.length k2) ∧ w'.cell? ⟨w.heap.size + 1, 2, none⟩ = some (.slice E c.M.length k3)) := fun w' q => ⟨(q.cell (p := ⟨w.heap.size + 1, 0, none⟩) HB1.out.lt).trans b1_0, (q.cell (p := ⟨w.heap.size + 1, 1, none⟩) HB1.out.lt).trans b1_1, (q.cell (p := ⟨w.heap.size + 1, 2, none⟩) HB1.out.lt).trans b1_2⟩
      go_region_held3 (fun w' => w'.cell? ⟨w.heap.size + 1, 0, none⟩ = some (.slice A c.V.length k1) ∧ w'.cell? ⟨w.heap.size + 1, 1, none⟩ = some (.slice D c.N.length k2) ∧ w'.cell? ⟨w.heap.size + 1, 2, none⟩ = some (.slice E c.M.length k3))
        (first
          | go_keep
          | exact HK.out _ p4
          | exact HK.out _ p3
          | exact HK.out _ p2
          | exact HK.out _ p1
          | exact HK.out _ (Q.refl y10)
          | exact HK.out _ (Q.refl y10).drew)
        (first
          | (go_at_call 14; (with_reducible refine (U1.out _ (Q.refl y10).drew).mono ?_); rintro e z1 ⟨rfl, qs1⟩; have p1 : Q y10 z1 := ((Q.refl y10).drew).trans qs1)
          | (go_at_call 14; (with_reducible refine (U2.out _ p1).mono ?_); rintro e z2 ⟨rfl, qs2⟩; have p2 : Q y10 z2 := (p1).trans qs2)
          | (go_at_call 14; (with_reducible refine (U1.out _ p2).mono ?_); rintro e z3 ⟨rfl, qs3⟩; have p3 : Q y10 z3 := (p2).trans qs3)
          | (go_at_call 14; (with_reducible refine (U3.out _ p3).mono ?_); rintro e z4 ⟨rfl, qs4⟩; have p4 : Q y10 z4 := (p3).trans qs4))
      have qs := p4
      clear HK U1 U2 U3
      clear b1_0 b1_1 b1_2 b2_0 b2_1 b2_2
      have HB1 := Lib.hid (HB1.out.q qs)
      have HR1 := Lib.hid (HR1.out.q qs)
      have HB2 := Lib.hid (HB2.out.q qs)
      have HR2 := Lib.hid (HR2.out.q qs)
      have HRk := Lib.hid (HRk.out.q qs)
      have Hq := Lib.hid (Hq.out.trans qs)
      clear qs
      have b1_0 := HB1.out.c0
      have b1_1 := HB1.out.c1
      have b1_2 := HB1.out.c2
      have b2_0 := HB2.out.c0
      have b2_1 := HB2.out.c1
      have b2_2 := HB2.out.c2
      have T1 := Lib.hid (fun (W : World) (q : Q z4 W) => Fa.out W (HR2.out.q q))
      have T2 := Lib.hid (fun (W : World) (q : Q z4 W) => Fb.out W (HR2.out.q q))
      have T3 : Hid (∀ W, Q z4 W → Calls Try.prog 14 #[.agg #[.slice A c.V.length k1, .slice D c.N.length k2, .slice E c.M.length k3], .int .i64 (t : Int)] W fun e W' => e = .returned (.int .i64 (rt : Int)) ∧ Q W W') := fun W q => by rw [Hrt.out]; exact find_any R c t A D E _ k1 _ k2 _ k3 W rfl rfl rfl (HR1.out.q q) HC.out htl HfM.out.1
      go_wp2_with fail
      have HK : Hid (∀ w', Q z4 w' → w'.cell? ⟨w.heap.size + 1, 0, none⟩ = some (.slice A c.V.length k1) ∧ w'.cell? ⟨w.heap.size + 1, 1, none⟩ = some (.slice D c.N.length k2) ∧ w'.cell? ⟨w.heap.size + 1, 2, none⟩ = some (.slice E c.M.length k3) ∧ w'.cell? ⟨B4, 0, none⟩ = some (.slice A_4 c.V.length k_4) ∧ w'.cell? ⟨B4, 1, none⟩ = some (.slice D_4 X.N.length l_4) ∧ w'.cell? ⟨B4, 2, none⟩ = some (.slice E_4 X.M.length m_4)) := fun w' q => ⟨(q.cell (p := ⟨w.heap.size + 1, 0, none⟩) HB1.out.lt).trans b1_0, (q.cell (p := ⟨w.heap.size + 1, 1, none⟩) HB1.out.lt).trans b1_1, (q.cell (p := ⟨w.heap.size + 1, 2, none⟩) HB1.out.lt).trans b1_2, (q.cell (p := ⟨B4, 0, none⟩) HB2.out.lt).trans b2_0, (q.cell (p := ⟨B4, 1, none⟩) HB2.out.lt).trans b2_1, (q.cell (p := ⟨B4, 2, none⟩) HB2.out.lt).trans b2_2⟩
      refine wp_region_held_drew (S := (fun w' => w'.cell? ⟨w.heap.size + 1, 0, none⟩ = some (.slice A c.V.length k1) ∧ w'.cell? ⟨w.heap.size + 1, 1, none⟩ = some (.slice D c.N.length k2) ∧ w'.cell? ⟨w.heap.size + 1, 2, none⟩ = some (.slice E c.M.length k3) ∧ w'.cell? ⟨B4, 0, none⟩ = some (.slice A_4 c.V.length k_4) ∧ w'.cell? ⟨B4, 1, none⟩ = some (.slice D_4 X.N.length l_4) ∧ w'.cell? ⟨B4, 2, none⟩ = some (.slice E_4 X.M.length m_4))) (by kernel_rfl) ?_ (fun hHeld => ?_)
      · exact HK.out _ (Q.refl z4).drew
      refine take_w (i := 0) (d := some 117) (v := ?_) rfl (by kernel_rfl) (by kernel_rfl) (by kernel_rfl) (fun _ _ _ h => h) rfl (by rfl) ?_ (by assumption) ?_
      rotate_left
      · (intro w hSw; (try dsimp only at hSw); go_simp; (try with_reducible rfl))
      try simp only [Act.put, List.setIfInBounds_toArray, List.set_cons_zero, List.set_cons_succ]
      refine take_w (i := 1) (d := some 118) (v := ?_) rfl (by kernel_rfl) (by kernel_rfl) (by kernel_rfl) (fun _ _ _ h => h) rfl (by rfl) ?_ (by assumption) ?_
      rotate_left
      · (intro w hSw; (try dsimp only at hSw); go_simp; (try with_reducible rfl))
      try simp only [Act.put, List.setIfInBounds_toArray, List.set_cons_zero, List.set_cons_succ]
      refine take_w (i := 2) (d := some 119) (v := ?_) rfl (by kernel_rfl) (by kernel_rfl) (by kernel_rfl) (fun _ _ _ h => h) rfl (by rfl) ?_ (by assumption) ?_
      rotate_left
      · (intro w hSw; (try dsimp only at hSw); go_simp; (try with_reducible rfl))
      try simp only [Act.put, List.setIfInBounds_toArray, List.set_cons_zero, List.set_cons_succ]
      refine take_w (i := 3) (d := some 120) (v := ?_) rfl (by kernel_rfl) (by kernel_rfl) (by kernel_rfl) (fun _ _ _ h => h) rfl (by rfl) ?_ (by assumption) ?_
      rotate_left
      · (intro w hSw; (try dsimp only at hSw); go_simp; (try with_reducible rfl))
      try simp only [Act.put, List.setIfInBounds_toArray, List.set_cons_zero, List.set_cons_succ]
      refine take_w (i := 5) (d := some 122) (v := ?_) rfl (by kernel_rfl) (by kernel_rfl) (by kernel_rfl) (fun _ _ _ h => h) rfl (by rfl) ?_ (by assumption) ?_
      rotate_left
      · (intro w hSw; (try dsimp only at hSw); go_simp; (try with_reducible rfl))
      try simp only [Act.put, List.setIfInBounds_toArray, List.set_cons_zero, List.set_cons_succ]
      refine take_w (i := 6) (d := some 123) (v := ?_) rfl (by kernel_rfl) (by kernel_rfl) (by kernel_rfl) (fun _ _ _ h => h) rfl (by rfl) ?_ (by assumption) ?_
      rotate_left
      · (intro w hSw; (try dsimp only at hSw); go_simp; (try with_reducible rfl))
      try simp only [Act.put, List.setIfInBounds_toArray, List.set_cons_zero, List.set_cons_succ]
      refine call_w (i := 4) rfl (by kernel_rfl) (by rfl) (fun K hK => ?_)
      go_simp
      go_at_call 14
      refine (T1.out _ (Q.refl z4).drew).mono ?_
      rintro e v1 ⟨rfl, qt1⟩
      have r1 : Q z4 v1 := ((Q.refl z4).drew).trans qt1
      refine hK.out _ _ ?_ (fun hHeld => ?_)
      · exact HK.out _ r1
      clear hK K
      try simp only [Act.put, List.setIfInBounds_toArray, List.set_cons_zero, List.set_cons_succ]
      refine call_w (i := 7) rfl (by kernel_rfl) (by rfl) (fun K hK => ?_)
      go_simp
      go_at_call 14
      refine (T2.out _ r1).mono ?_
      rintro e v2 ⟨rfl, qt2⟩
      have r2 : Q z4 v2 := (r1).trans qt2
      refine hK.out _ _ ?_ (fun hHeld => ?_)
      · exact HK.out _ r2
      clear hK K
      try simp only [Act.put, List.setIfInBounds_toArray, List.set_cons_zero, List.set_cons_succ]
      refine take_w (i := 8) (d := some 125) (v := ?_) rfl (by kernel_rfl) (by kernel_rfl) (by kernel_rfl) (fun _ _ _ h => h) rfl (by rfl) ?_ (by assumption) ?_
      rotate_left
      · (intro w hSw; (try dsimp only at hSw); go_simp; (try with_reducible rfl))
      try simp only [Act.put, List.setIfInBounds_toArray, List.set_cons_zero, List.set_cons_succ]
      refine take_w (i := 9) (d := some 126) (v := ?_) rfl (by kernel_rfl) (by kernel_rfl) (by kernel_rfl) (fun _ _ _ h => h) rfl (by rfl) ?_ (by assumption) ?_
      rotate_left
      · (intro w hSw; (try dsimp only at hSw); go_simp; (try with_reducible rfl))
      try simp only [Act.put, List.setIfInBounds_toArray, List.set_cons_zero, List.set_cons_succ]
      refine take_w (i := 10) (d := some 127) (v := ?_) rfl (by kernel_rfl) (by kernel_rfl) (by kernel_rfl) (fun _ _ _ h => h) rfl (by rfl) ?_ (by assumption) ?_
      rotate_left
      · (intro w hSw; (try dsimp only at hSw); go_simp; (try with_reducible rfl))
      try simp only [Act.put, List.setIfInBounds_toArray, List.set_cons_zero, List.set_cons_succ]
      refine take_w (i := 11) (d := some 128) (v := ?_) rfl (by kernel_rfl) (by kernel_rfl) (by kernel_rfl) (fun _ _ _ h => h) rfl (by rfl) ?_ (by assumption) ?_
      rotate_left
      · (intro w hSw; (try dsimp only at hSw); go_simp; (try with_reducible rfl))
      try simp only [Act.put, List.setIfInBounds_toArray, List.set_cons_zero, List.set_cons_succ]
      refine take_w (i := 12) (d := some 129) (v := ?_) rfl (by kernel_rfl) (by kernel_rfl) (by kernel_rfl) (fun _ _ _ h => h) rfl (by rfl) ?_ (by assumption) ?_
      rotate_left
      · (intro w hSw; (try dsimp only at hSw); go_simp; (try with_reducible rfl))
      try simp only [Act.put, List.setIfInBounds_toArray, List.set_cons_zero, List.set_cons_succ]
      refine take_w (i := 13) (d := some 130) (v := ?_) rfl (by kernel_rfl) (by kernel_rfl) (by kernel_rfl) (fun _ _ _ h => h) rfl (by rfl) ?_ (by assumption) ?_
      rotate_left
      · (intro w hSw; (try dsimp only at hSw); go_simp; (try with_reducible rfl))
      try simp only [Act.put, List.setIfInBounds_toArray, List.set_cons_zero, List.set_cons_succ]
      refine take_w (i := 16) (d := some 133) (v := ?_) rfl (by kernel_rfl) (by kernel_rfl) (by kernel_rfl) (fun _ _ _ h => h) rfl (by rfl) ?_ (by assumption) ?_
      rotate_left
      · (intro w hSw; (try dsimp only at hSw); go_simp; (try with_reducible rfl))
      try simp only [Act.put, List.setIfInBounds_toArray, List.set_cons_zero, List.set_cons_succ]
      refine call_w (i := 14) rfl (by kernel_rfl) (by rfl) (fun K hK => ?_)
      go_simp
      go_at_call 14
      refine (T1.out _ r2).mono ?_
      rintro e v3 ⟨rfl, qt3⟩
      have r3 : Q z4 v3 := (r2).trans qt3
      refine hK.out _ _ ?_ (fun hHeld => ?_)
      · exact HK.out _ r3
      clear hK K
      try simp only [Act.put, List.setIfInBounds_toArray, List.set_cons_zero, List.set_cons_succ]
      refine take_w (i := 15) (d := some 132) (v := ?_) rfl (by kernel_rfl) (by kernel_rfl) (by kernel_rfl) (fun _ _ _ h => h) rfl (by rfl) ?_ (by assumption) ?_
      rotate_left
      · (intro w hSw; (try dsimp only at hSw); go_simp; (try with_reducible rfl))
      try simp only [Act.put, List.setIfInBounds_toArray, List.set_cons_zero, List.set_cons_succ]
      refine take_w (i := 17) (d := some 134) (v := ?_) rfl (by kernel_rfl) (by kernel_rfl) (by kernel_rfl) (fun _ _ _ h => h) rfl (by rfl) ?_ (by assumption) ?_
      rotate_left
      · (intro w hSw; (try dsimp only at hSw); go_simp; (try with_reducible rfl))
      try simp only [Act.put, List.setIfInBounds_toArray, List.set_cons_zero, List.set_cons_succ]
      refine take_w (i := 18) (d := some 135) (v := ?_) rfl (by kernel_rfl) (by kernel_rfl) (by kernel_rfl) (fun _ _ _ h => h) rfl (by rfl) ?_ (by assumption) ?_
      rotate_left
      · (intro w hSw; (try dsimp only at hSw); go_simp; (try with_reducible rfl))
      try simp only [Act.put, List.setIfInBounds_toArray, List.set_cons_zero, List.set_cons_succ]
      refine take_w (i := 19) (d := some 136) (v := ?_) rfl (by kernel_rfl) (by kernel_rfl) (by kernel_rfl) (fun _ _ _ h => h) rfl (by rfl) ?_ (by assumption) ?_
      rotate_left
      · (intro w hSw; (try dsimp only at hSw); go_simp; (try with_reducible rfl))
      try simp only [Act.put, List.setIfInBounds_toArray, List.set_cons_zero, List.set_cons_succ]
      refine take_w (i := 20) (d := some 137) (v := ?_) rfl (by kernel_rfl) (by kernel_rfl) (by kernel_rfl) (fun _ _ _ h => h) rfl (by rfl) ?_ (by assumption) ?_
      rotate_left
      · (intro w hSw; (try dsimp only at hSw); go_simp; (try with_reducible rfl))
      try simp only [Act.put, List.setIfInBounds_toArray, List.set_cons_zero, List.set_cons_succ]
      refine take_w (i := 21) (d := some 138) (v := ?_) rfl (by kernel_rfl) (by kernel_rfl) (by kernel_rfl) (fun _ _ _ h => h) rfl (by rfl) ?_ (by assumption) ?_
      rotate_left
      · (intro w hSw; (try dsimp only at hSw); go_simp; (try with_reducible rfl))
      try simp only [Act.put, List.setIfInBounds_toArray, List.set_cons_zero, List.set_cons_succ]
      refine take_u (i := 22) (d := some 139) rfl (by kernel_rfl) (by kernel_rfl) (by kernel_rfl) (fun _ _ _ h => h) rfl (by rfl) (by assumption) ?_
      try simp only [Act.put, List.setIfInBounds_toArray, List.set_cons_zero, List.set_cons_succ]
      refine take_u (i := 23) (d := some 140) rfl (by kernel_rfl) (by kernel_rfl) (by kernel_rfl) (fun _ _ _ h => h) rfl (by rfl) (by assumption) ?_
      try simp only [Act.put, List.setIfInBounds_toArray, List.set_cons_zero, List.set_cons_succ]
      refine take_u (i := 24) (d := some 141) rfl (by kernel_rfl) (by kernel_rfl) (by kernel_rfl) (fun _ _ _ h => h) rfl (by rfl) (by assumption) ?_
      try simp only [Act.put, List.setIfInBounds_toArray, List.set_cons_zero, List.set_cons_succ]
      refine take_u (i := 25) (d := some 142) rfl (by kernel_rfl) (by kernel_rfl) (by kernel_rfl) (fun _ _ _ h => h) rfl (by rfl) (by assumption) ?_
      try simp only [Act.put, List.setIfInBounds_toArray, List.set_cons_zero, List.set_cons_succ]
      refine take_u (i := 26) (d := some 143) rfl (by kernel_rfl) (by kernel_rfl) (by kernel_rfl) (fun _ _ _ h => h) rfl (by rfl) (by assumption) ?_
      try simp only [Act.put, List.setIfInBounds_toArray, List.set_cons_zero, List.set_cons_succ]
      refine take_w (i := 27) (d := some 144) (v := ?_) rfl (by kernel_rfl) (by kernel_rfl) (by kernel_rfl) (fun _ _ _ h => h) rfl (by rfl) ?_ (by assumption) ?_
      rotate_left
      · (intro w hSw; (try dsimp only at hSw); go_simp; (try with_reducible rfl))
      try simp only [Act.put, List.setIfInBounds_toArray, List.set_cons_zero, List.set_cons_succ]
      refine take_w (i := 28) (d := some 145) (v := ?_) rfl (by kernel_rfl) (by kernel_rfl) (by kernel_rfl) (fun _ _ _ h => h) rfl (by rfl) ?_ (by assumption) ?_
      rotate_left
      · (intro w hSw; (try dsimp only at hSw); go_simp; (try with_reducible rfl))
      try simp only [Act.put, List.setIfInBounds_toArray, List.set_cons_zero, List.set_cons_succ]
      refine take_w (i := 29) (d := some 2) (v := ?_) rfl (by kernel_rfl) (by kernel_rfl) (by kernel_rfl) (fun _ _ _ h => h) rfl (by rfl) ?_ (by assumption) ?_
      rotate_left
      · (intro w hSw; (try dsimp only at hSw); go_simp; (try with_reducible rfl))
      try simp only [Act.put, List.setIfInBounds_toArray, List.set_cons_zero, List.set_cons_succ]
      refine wpAnyH_done (by kernel_rfl) ?_ _
      all_goals
        go_wp2_with fail
        go_ret
        exact ⟨rfl, Hq.out.trans r3⟩
    · have dft : ((f : Int) != (t : Int)) = true := bne_iff_ne.2 (by omega)
      have hls := f3.resolve_left hft
      clear hft f3
      go_wp2_with fail
      refine (CL.out _ HRk.out).mono ?_
      rintro e y10 ⟨rfl, qs⟩
      rw [hls]
      clear b1_0 b1_1 b1_2 b2_0 b2_1 b2_2
      have HB1 := Lib.hid (HB1.out.q qs)
      have HR1 := Lib.hid (HR1.out.q qs)
      have HB2 := Lib.hid (HB2.out.q qs)
      have HR2 := Lib.hid (HR2.out.q qs)
      have HRk := Lib.hid (HRk.out.q qs)
      have Hq := Lib.hid (Hq.out.trans qs)
      clear qs
      have b1_0 := HB1.out.c0
      have b1_1 := HB1.out.c1
      have b1_2 := HB1.out.c2
      have b2_0 := HB2.out.c0
      have b2_1 := HB2.out.c1
      have b2_2 := HB2.out.c2
      go_wp2_with fail
      refine (Ff.out _ HR2.out).mono ?_
      rintro e y11 ⟨rfl, qs⟩
      clear b1_0 b1_1 b1_2 b2_0 b2_1 b2_2
      have HB1 := Lib.hid (HB1.out.q qs)
      have HR1 := Lib.hid (HR1.out.q qs)
      have HB2 := Lib.hid (HB2.out.q qs)
      have HR2 := Lib.hid (HR2.out.q qs)
      have HRk := Lib.hid (HRk.out.q qs)
      have Hq := Lib.hid (Hq.out.trans qs)
      clear qs
      have b1_0 := HB1.out.c0
      have b1_1 := HB1.out.c1
      have b1_2 := HB1.out.c2
      have b2_0 := HB2.out.c0
      have b2_1 := HB2.out.c1
      have b2_2 := HB2.out.c2
      clear CL Ff dft
      have U1 : Hid (∀ W, Q y11 W → Calls Try.prog 14 #[.agg #[.slice A c.V.length k1, .slice D c.N.length k2, .slice E c.M.length k3], .int .i64 (t : Int)] W fun e W' => e = .returned (.int .i64 (rt : Int)) ∧ Q W W') := fun W q => by rw [Hrt.out]; exact find_any R c t A D E _ k1 _ k2 _ k3 W rfl rfl rfl (HR1.out.q q) HC.out htl HfM.out.1
      have U2 : Hid (∀ W, Q y11 W → Calls Try.prog 14 #[.agg #[.slice A c.V.length k1, .slice D c.N.length k2, .slice E c.M.length k3], .int .i64 (a : Int)] W fun e W' => e = .returned (.int .i64 (ra : Int)) ∧ Q W W') := fun W q => by rw [Hra.out]; exact find_any R c a A D E _ k1 _ k2 _ k3 W rfl rfl rfl (HR1.out.q q) HC.out hal HfM.out.1
      have U3 : Hid (∀ W, Q y11 W → Calls Try.prog 14 #[.agg #[.slice A c.V.length k1, .slice D c.N.length k2, .slice E c.M.length k3], .int .i64 (b : Int)] W fun e W' => e = .returned (.int .i64 (rt : Int)) ∧ Q W W') := fun W q => by rw [Hrb.out]; exact find_any R c b A D E _ k1 _ k2 _ k3 W rfl rfl rfl (HR1.out.q q) HC.out hbl HfM.out.1
      go_wp2_with fail
      have HK : Hid (∀ w', Q y11 w' → w'.cell? ⟨w.heap.size + 1, 0, none⟩ = some (.slice A c.V.length k1) ∧ w'.cell? ⟨w.heap.size + 1, 1, none⟩ = some (.slice D c.N.length k2) ∧ w'.cell? ⟨w.heap.size + 1, 2, none⟩ = some (.slice E c.M.length k3)) := fun w' q => ⟨(q.cell (p := ⟨w.heap.size + 1, 0, none⟩) HB1.out.lt).trans b1_0, (q.cell (p := ⟨w.heap.size + 1, 1, none⟩) HB1.out.lt).trans b1_1, (q.cell (p := ⟨w.heap.size + 1, 2, none⟩) HB1.out.lt).trans b1_2⟩
      go_region_held3 (fun w' => w'.cell? ⟨w.heap.size + 1, 0, none⟩ = some (.slice A c.V.length k1) ∧ w'.cell? ⟨w.heap.size + 1, 1, none⟩ = some (.slice D c.N.length k2) ∧ w'.cell? ⟨w.heap.size + 1, 2, none⟩ = some (.slice E c.M.length k3))
        (first
          | go_keep
          | exact HK.out _ p4
          | exact HK.out _ p3
          | exact HK.out _ p2
          | exact HK.out _ p1
          | exact HK.out _ (Q.refl y11)
          | exact HK.out _ (Q.refl y11).drew)
        (first
          | (go_at_call 14; (with_reducible refine (U1.out _ (Q.refl y11).drew).mono ?_); rintro e z1 ⟨rfl, qs1⟩; have p1 : Q y11 z1 := ((Q.refl y11).drew).trans qs1)
          | (go_at_call 14; (with_reducible refine (U2.out _ p1).mono ?_); rintro e z2 ⟨rfl, qs2⟩; have p2 : Q y11 z2 := (p1).trans qs2)
          | (go_at_call 14; (with_reducible refine (U1.out _ p2).mono ?_); rintro e z3 ⟨rfl, qs3⟩; have p3 : Q y11 z3 := (p2).trans qs3)
          | (go_at_call 14; (with_reducible refine (U3.out _ p3).mono ?_); rintro e z4 ⟨rfl, qs4⟩; have p4 : Q y11 z4 := (p3).trans qs4))
      have qs := p4
      clear HK U1 U2 U3
      clear b1_0 b1_1 b1_2 b2_0 b2_1 b2_2
      have HB1 := Lib.hid (HB1.out.q qs)
      have HR1 := Lib.hid (HR1.out.q qs)
      have HB2 := Lib.hid (HB2.out.q qs)
      have HR2 := Lib.hid (HR2.out.q qs)
      have HRk := Lib.hid (HRk.out.q qs)
      have Hq := Lib.hid (Hq.out.trans qs)
      clear qs
      have b1_0 := HB1.out.c0
      have b1_1 := HB1.out.c1
      have b1_2 := HB1.out.c2
      have b2_0 := HB2.out.c0
      have b2_1 := HB2.out.c1
      have b2_2 := HB2.out.c2
      have T1 := Lib.hid (fun (W : World) (q : Q z4 W) => Fa.out W (HR2.out.q q))
      have T2 := Lib.hid (fun (W : World) (q : Q z4 W) => Fb.out W (HR2.out.q q))
      have T3 : Hid (∀ W, Q z4 W → Calls Try.prog 14 #[.agg #[.slice A c.V.length k1, .slice D c.N.length k2, .slice E c.M.length k3], .int .i64 (t : Int)] W fun e W' => e = .returned (.int .i64 (rt : Int)) ∧ Q W W') := fun W q => by rw [Hrt.out]; exact find_any R c t A D E _ k1 _ k2 _ k3 W rfl rfl rfl (HR1.out.q q) HC.out htl HfM.out.1
      go_wp2_with fail
      have HK : Hid (∀ w', Q z4 w' → w'.cell? ⟨w.heap.size + 1, 0, none⟩ = some (.slice A c.V.length k1) ∧ w'.cell? ⟨w.heap.size + 1, 1, none⟩ = some (.slice D c.N.length k2) ∧ w'.cell? ⟨w.heap.size + 1, 2, none⟩ = some (.slice E c.M.length k3) ∧ w'.cell? ⟨B4, 0, none⟩ = some (.slice A_4 c.V.length k_4) ∧ w'.cell? ⟨B4, 1, none⟩ = some (.slice D_4 X.N.length l_4) ∧ w'.cell? ⟨B4, 2, none⟩ = some (.slice E_4 X.M.length m_4)) := fun w' q => ⟨(q.cell (p := ⟨w.heap.size + 1, 0, none⟩) HB1.out.lt).trans b1_0, (q.cell (p := ⟨w.heap.size + 1, 1, none⟩) HB1.out.lt).trans b1_1, (q.cell (p := ⟨w.heap.size + 1, 2, none⟩) HB1.out.lt).trans b1_2, (q.cell (p := ⟨B4, 0, none⟩) HB2.out.lt).trans b2_0, (q.cell (p := ⟨B4, 1, none⟩) HB2.out.lt).trans b2_1, (q.cell (p := ⟨B4, 2, none⟩) HB2.out.lt).trans b2_2⟩
      refine wp_region_held_drew (S := (fun w' => w'.cell? ⟨w.heap.size + 1, 0, none⟩ = some (.slice A c.V.length k1) ∧ w'.cell? ⟨w.heap.size + 1, 1, none⟩ = some (.slice D c.N.length k2) ∧ w'.cell? ⟨w.heap.size + 1, 2, none⟩ = some (.slice E c.M.length k3) ∧ w'.cell? ⟨B4, 0, none⟩ = some (.slice A_4 c.V.length k_4) ∧ w'.cell? ⟨B4, 1, none⟩ = some (.slice D_4 X.N.length l_4) ∧ w'.cell? ⟨B4, 2, none⟩ = some (.slice E_4 X.M.length m_4))) (by kernel_rfl) ?_ (fun hHeld => ?_)
      · exact HK.out _ (Q.refl z4).drew
      refine take_w (i := 0) (d := some 117) (v := ?_) rfl (by kernel_rfl) (by kernel_rfl) (by kernel_rfl) (fun _ _ _ h => h) rfl (by rfl) ?_ (by assumption) ?_
      rotate_left
      · (intro w hSw; (try dsimp only at hSw); go_simp; (try with_reducible rfl))
      try simp only [Act.put, List.setIfInBounds_toArray, List.set_cons_zero, List.set_cons_succ]
      refine take_w (i := 1) (d := some 118) (v := ?_) rfl (by kernel_rfl) (by kernel_rfl) (by kernel_rfl) (fun _ _ _ h => h) rfl (by rfl) ?_ (by assumption) ?_
      rotate_left
      · (intro w hSw; (try dsimp only at hSw); go_simp; (try with_reducible rfl))
      try simp only [Act.put, List.setIfInBounds_toArray, List.set_cons_zero, List.set_cons_succ]
      refine take_w (i := 2) (d := some 119) (v := ?_) rfl (by kernel_rfl) (by kernel_rfl) (by kernel_rfl) (fun _ _ _ h => h) rfl (by rfl) ?_ (by assumption) ?_
      rotate_left
      · (intro w hSw; (try dsimp only at hSw); go_simp; (try with_reducible rfl))
      try simp only [Act.put, List.setIfInBounds_toArray, List.set_cons_zero, List.set_cons_succ]
      refine take_w (i := 3) (d := some 120) (v := ?_) rfl (by kernel_rfl) (by kernel_rfl) (by kernel_rfl) (fun _ _ _ h => h) rfl (by rfl) ?_ (by assumption) ?_
      rotate_left
      · (intro w hSw; (try dsimp only at hSw); go_simp; (try with_reducible rfl))
      try simp only [Act.put, List.setIfInBounds_toArray, List.set_cons_zero, List.set_cons_succ]
      refine take_w (i := 5) (d := some 122) (v := ?_) rfl (by kernel_rfl) (by kernel_rfl) (by kernel_rfl) (fun _ _ _ h => h) rfl (by rfl) ?_ (by assumption) ?_
      rotate_left
      · (intro w hSw; (try dsimp only at hSw); go_simp; (try with_reducible rfl))
      try simp only [Act.put, List.setIfInBounds_toArray, List.set_cons_zero, List.set_cons_succ]
      refine take_w (i := 6) (d := some 123) (v := ?_) rfl (by kernel_rfl) (by kernel_rfl) (by kernel_rfl) (fun _ _ _ h => h) rfl (by rfl) ?_ (by assumption) ?_
      rotate_left
      · (intro w hSw; (try dsimp only at hSw); go_simp; (try with_reducible rfl))
      try simp only [Act.put, List.setIfInBounds_toArray, List.set_cons_zero, List.set_cons_succ]
      refine call_w (i := 4) rfl (by kernel_rfl) (by rfl) (fun K hK => ?_)
      go_simp
      go_at_call 14
      refine (T1.out _ (Q.refl z4).drew).mono ?_
      rintro e v1 ⟨rfl, qt1⟩
      have r1 : Q z4 v1 := ((Q.refl z4).drew).trans qt1
      refine hK.out _ _ ?_ (fun hHeld => ?_)
      · exact HK.out _ r1
      clear hK K
      try simp only [Act.put, List.setIfInBounds_toArray, List.set_cons_zero, List.set_cons_succ]
      refine call_w (i := 7) rfl (by kernel_rfl) (by rfl) (fun K hK => ?_)
      go_simp
      go_at_call 14
      refine (T2.out _ r1).mono ?_
      rintro e v2 ⟨rfl, qt2⟩
      have r2 : Q z4 v2 := (r1).trans qt2
      refine hK.out _ _ ?_ (fun hHeld => ?_)
      · exact HK.out _ r2
      clear hK K
      try simp only [Act.put, List.setIfInBounds_toArray, List.set_cons_zero, List.set_cons_succ]
      refine take_w (i := 8) (d := some 125) (v := ?_) rfl (by kernel_rfl) (by kernel_rfl) (by kernel_rfl) (fun _ _ _ h => h) rfl (by rfl) ?_ (by assumption) ?_
      rotate_left
      · (intro w hSw; (try dsimp only at hSw); go_simp; (try with_reducible rfl))
      try simp only [Act.put, List.setIfInBounds_toArray, List.set_cons_zero, List.set_cons_succ]
      refine take_w (i := 9) (d := some 126) (v := ?_) rfl (by kernel_rfl) (by kernel_rfl) (by kernel_rfl) (fun _ _ _ h => h) rfl (by rfl) ?_ (by assumption) ?_
      rotate_left
      · (intro w hSw; (try dsimp only at hSw); go_simp; (try with_reducible rfl))
      try simp only [Act.put, List.setIfInBounds_toArray, List.set_cons_zero, List.set_cons_succ]
      refine take_w (i := 10) (d := some 127) (v := ?_) rfl (by kernel_rfl) (by kernel_rfl) (by kernel_rfl) (fun _ _ _ h => h) rfl (by rfl) ?_ (by assumption) ?_
      rotate_left
      · (intro w hSw; (try dsimp only at hSw); go_simp; (try with_reducible rfl))
      try simp only [Act.put, List.setIfInBounds_toArray, List.set_cons_zero, List.set_cons_succ]
      refine take_w (i := 11) (d := some 128) (v := ?_) rfl (by kernel_rfl) (by kernel_rfl) (by kernel_rfl) (fun _ _ _ h => h) rfl (by rfl) ?_ (by assumption) ?_
      rotate_left
      · (intro w hSw; (try dsimp only at hSw); go_simp; (try with_reducible rfl))
      try simp only [Act.put, List.setIfInBounds_toArray, List.set_cons_zero, List.set_cons_succ]
      refine take_w (i := 12) (d := some 129) (v := ?_) rfl (by kernel_rfl) (by kernel_rfl) (by kernel_rfl) (fun _ _ _ h => h) rfl (by rfl) ?_ (by assumption) ?_
      rotate_left
      · (intro w hSw; (try dsimp only at hSw); go_simp; (try with_reducible rfl))
      try simp only [Act.put, List.setIfInBounds_toArray, List.set_cons_zero, List.set_cons_succ]
      refine take_w (i := 13) (d := some 130) (v := ?_) rfl (by kernel_rfl) (by kernel_rfl) (by kernel_rfl) (fun _ _ _ h => h) rfl (by rfl) ?_ (by assumption) ?_
      rotate_left
      · (intro w hSw; (try dsimp only at hSw); go_simp; (try with_reducible rfl))
      try simp only [Act.put, List.setIfInBounds_toArray, List.set_cons_zero, List.set_cons_succ]
      refine take_w (i := 16) (d := some 133) (v := ?_) rfl (by kernel_rfl) (by kernel_rfl) (by kernel_rfl) (fun _ _ _ h => h) rfl (by rfl) ?_ (by assumption) ?_
      rotate_left
      · (intro w hSw; (try dsimp only at hSw); go_simp; (try with_reducible rfl))
      try simp only [Act.put, List.setIfInBounds_toArray, List.set_cons_zero, List.set_cons_succ]
      refine call_w (i := 14) rfl (by kernel_rfl) (by rfl) (fun K hK => ?_)
      go_simp
      go_at_call 14
      refine (T1.out _ r2).mono ?_
      rintro e v3 ⟨rfl, qt3⟩
      have r3 : Q z4 v3 := (r2).trans qt3
      refine hK.out _ _ ?_ (fun hHeld => ?_)
      · exact HK.out _ r3
      clear hK K
      try simp only [Act.put, List.setIfInBounds_toArray, List.set_cons_zero, List.set_cons_succ]
      refine take_w (i := 15) (d := some 132) (v := ?_) rfl (by kernel_rfl) (by kernel_rfl) (by kernel_rfl) (fun _ _ _ h => h) rfl (by rfl) ?_ (by assumption) ?_
      rotate_left
      · (intro w hSw; (try dsimp only at hSw); go_simp; (try with_reducible rfl))
      try simp only [Act.put, List.setIfInBounds_toArray, List.set_cons_zero, List.set_cons_succ]
      refine take_w (i := 17) (d := some 134) (v := ?_) rfl (by kernel_rfl) (by kernel_rfl) (by kernel_rfl) (fun _ _ _ h => h) rfl (by rfl) ?_ (by assumption) ?_
      rotate_left
      · (intro w hSw; (try dsimp only at hSw); go_simp; (try with_reducible rfl))
      try simp only [Act.put, List.setIfInBounds_toArray, List.set_cons_zero, List.set_cons_succ]
      refine take_w (i := 18) (d := some 135) (v := ?_) rfl (by kernel_rfl) (by kernel_rfl) (by kernel_rfl) (fun _ _ _ h => h) rfl (by rfl) ?_ (by assumption) ?_
      rotate_left
      · (intro w hSw; (try dsimp only at hSw); go_simp; (try with_reducible rfl))
      try simp only [Act.put, List.setIfInBounds_toArray, List.set_cons_zero, List.set_cons_succ]
      refine take_w (i := 19) (d := some 136) (v := ?_) rfl (by kernel_rfl) (by kernel_rfl) (by kernel_rfl) (fun _ _ _ h => h) rfl (by rfl) ?_ (by assumption) ?_
      rotate_left
      · (intro w hSw; (try dsimp only at hSw); go_simp; (try with_reducible rfl))
      try simp only [Act.put, List.setIfInBounds_toArray, List.set_cons_zero, List.set_cons_succ]
      refine take_w (i := 20) (d := some 137) (v := ?_) rfl (by kernel_rfl) (by kernel_rfl) (by kernel_rfl) (fun _ _ _ h => h) rfl (by rfl) ?_ (by assumption) ?_
      rotate_left
      · (intro w hSw; (try dsimp only at hSw); go_simp; (try with_reducible rfl))
      try simp only [Act.put, List.setIfInBounds_toArray, List.set_cons_zero, List.set_cons_succ]
      refine take_w (i := 21) (d := some 138) (v := ?_) rfl (by kernel_rfl) (by kernel_rfl) (by kernel_rfl) (fun _ _ _ h => h) rfl (by rfl) ?_ (by assumption) ?_
      rotate_left
      · (intro w hSw; (try dsimp only at hSw); go_simp; (try with_reducible rfl))
      try simp only [Act.put, List.setIfInBounds_toArray, List.set_cons_zero, List.set_cons_succ]
      refine take_u (i := 22) (d := some 139) rfl (by kernel_rfl) (by kernel_rfl) (by kernel_rfl) (fun _ _ _ h => h) rfl (by rfl) (by assumption) ?_
      try simp only [Act.put, List.setIfInBounds_toArray, List.set_cons_zero, List.set_cons_succ]
      refine take_u (i := 23) (d := some 140) rfl (by kernel_rfl) (by kernel_rfl) (by kernel_rfl) (fun _ _ _ h => h) rfl (by rfl) (by assumption) ?_
      try simp only [Act.put, List.setIfInBounds_toArray, List.set_cons_zero, List.set_cons_succ]
      refine take_u (i := 24) (d := some 141) rfl (by kernel_rfl) (by kernel_rfl) (by kernel_rfl) (fun _ _ _ h => h) rfl (by rfl) (by assumption) ?_
      try simp only [Act.put, List.setIfInBounds_toArray, List.set_cons_zero, List.set_cons_succ]
      refine take_u (i := 25) (d := some 142) rfl (by kernel_rfl) (by kernel_rfl) (by kernel_rfl) (fun _ _ _ h => h) rfl (by rfl) (by assumption) ?_
      try simp only [Act.put, List.setIfInBounds_toArray, List.set_cons_zero, List.set_cons_succ]
      refine take_u (i := 26) (d := some 143) rfl (by kernel_rfl) (by kernel_rfl) (by kernel_rfl) (fun _ _ _ h => h) rfl (by rfl) (by assumption) ?_
      try simp only [Act.put, List.setIfInBounds_toArray, List.set_cons_zero, List.set_cons_succ]
      refine take_w (i := 27) (d := some 144) (v := ?_) rfl (by kernel_rfl) (by kernel_rfl) (by kernel_rfl) (fun _ _ _ h => h) rfl (by rfl) ?_ (by assumption) ?_
      rotate_left
      · (intro w hSw; (try dsimp only at hSw); go_simp; (try with_reducible rfl))
      try simp only [Act.put, List.setIfInBounds_toArray, List.set_cons_zero, List.set_cons_succ]
      refine take_w (i := 28) (d := some 145) (v := ?_) rfl (by kernel_rfl) (by kernel_rfl) (by kernel_rfl) (fun _ _ _ h => h) rfl (by rfl) ?_ (by assumption) ?_
      rotate_left
      · (intro w hSw; (try dsimp only at hSw); go_simp; (try with_reducible rfl))
      try simp only [Act.put, List.setIfInBounds_toArray, List.set_cons_zero, List.set_cons_succ]
      refine take_w (i := 29) (d := some 2) (v := ?_) rfl (by kernel_rfl) (by kernel_rfl) (by kernel_rfl) (fun _ _ _ h => h) rfl (by rfl) ?_ (by assumption) ?_
      rotate_left
      · (intro w hSw; (try dsimp only at hSw); go_simp; (try with_reducible rfl))
      try simp only [Act.put, List.setIfInBounds_toArray, List.set_cons_zero, List.set_cons_succ]
      refine wpAnyH_done (by kernel_rfl) ?_ _
      all_goals
        go_wp2_with fail
        go_ret
        exact ⟨rfl, Hq.out.trans r3⟩
  obtain ⟨m3, m4⟩ := Jo.out (fun h => h.elim m1 m2)
  have d1 : ((rt : Int) == (ra : Int)) = false := beq_eq_false_iff_ne.2 (by omega)
  have d2 : ((rt : Int) == (rb : Int)) = false := beq_eq_false_iff_ne.2 (by omega)
  have d3 : ((g : Int) == (g : Int)) = true := by simp
  have d4 : ((f : Int) == (g : Int)) = false := beq_eq_false_iff_ne.2 (by omega)
  have d5 : ((f : Int) == (rt : Int)) = true := by rw [m3]; simp
  clear Jm Jo m1 m2 m3 m4
  by_cases hft : f = t
  · have dft : ((f : Int) != (t : Int)) = false := by rw [hft]; simp
    clear hft f3
    go_wp2_with fail
    refine (Ff.out _ HR2.out).mono ?_
    rintro e y10 ⟨rfl, qs⟩
    clear b1_0 b1_1 b1_2 b2_0 b2_1 b2_2
    have HB1 := Lib.hid (HB1.out.q qs)
    have HR1 := Lib.hid (HR1.out.q qs)
    have HB2 := Lib.hid (HB2.out.q qs)
    have HR2 := Lib.hid (HR2.out.q qs)
    have HRk := Lib.hid (HRk.out.q qs)
    have Hq := Lib.hid (Hq.out.trans qs)
    clear qs
    have b1_0 := HB1.out.c0
    have b1_1 := HB1.out.c1
    have b1_2 := HB1.out.c2
    have b2_0 := HB2.out.c0
    have b2_1 := HB2.out.c1
    have b2_2 := HB2.out.c2
    clear CL Ff dft
    have U1 : Hid (∀ W, Q y10 W → Calls Try.prog 14 #[.agg #[.slice A c.V.length k1, .slice D c.N.length k2, .slice E c.M.length k3], .int .i64 (t : Int)] W fun e W' => e = .returned (.int .i64 (rt : Int)) ∧ Q W W') := fun W q => by rw [Hrt.out]; exact find_any R c t A D E _ k1 _ k2 _ k3 W rfl rfl rfl (HR1.out.q q) HC.out htl HfM.out.1
    have U2 : Hid (∀ W, Q y10 W → Calls Try.prog 14 #[.agg #[.slice A c.V.length k1, .slice D c.N.length k2, .slice E c.M.length k3], .int .i64 (a : Int)] W fun e W' => e = .returned (.int .i64 (ra : Int)) ∧ Q W W') := fun W q => by rw [Hra.out]; exact find_any R c a A D E _ k1 _ k2 _ k3 W rfl rfl rfl (HR1.out.q q) HC.out hal HfM.out.1
    have U3 : Hid (∀ W, Q y10 W → Calls Try.prog 14 #[.agg #[.slice A c.V.length k1, .slice D c.N.length k2, .slice E c.M.length k3], .int .i64 (b : Int)] W fun e W' => e = .returned (.int .i64 (rb : Int)) ∧ Q W W') := fun W q => by rw [Hrb.out]; exact find_any R c b A D E _ k1 _ k2 _ k3 W rfl rfl rfl (HR1.out.q q) HC.out hbl HfM.out.1
    go_wp2_with fail
    have HK : Hid (∀ w', Q y10 w' → w'.cell? ⟨w.heap.size + 1, 0, none⟩ = some (.slice A c.V.length k1) ∧ w'.cell? ⟨w.heap.size + 1, 1, none⟩ = some (.slice D c.N.length k2) ∧ w'.cell? ⟨w.heap.size + 1, 2, none⟩ = some (.slice E c.M.length k3)) := fun w' q => ⟨(q.cell (p := ⟨w.heap.size + 1, 0, none⟩) HB1.out.lt).trans b1_0, (q.cell (p := ⟨w.heap.size + 1, 1, none⟩) HB1.out.lt).trans b1_1, (q.cell (p := ⟨w.heap.size + 1, 2, none⟩) HB1.out.lt).trans b1_2⟩
    go_region_held3 (fun w' => w'.cell? ⟨w.heap.size + 1, 0, none⟩ = some (.slice A c.V.length k1) ∧ w'.cell? ⟨w.heap.size + 1, 1, none⟩ = some (.slice D c.N.length k2) ∧ w'.cell? ⟨w.heap.size + 1, 2, none⟩ = some (.slice E c.M.length k3))
      (first
        | go_keep
        | exact HK.out _ p4
        | exact HK.out _ p3
        | exact HK.out _ p2
        | exact HK.out _ p1
        | exact HK.out _ (Q.refl y10)
        | exact HK.out _ (Q.refl y10).drew)
      (first
        | (go_at_call 14; (with_reducible refine (U1.out _ (Q.refl y10).drew).mono ?_); rintro e z1 ⟨rfl, qs1⟩; have p1 : Q y10 z1 := ((Q.refl y10).drew).trans qs1)
        | (go_at_call 14; (with_reducible refine (U2.out _ p1).mono ?_); rintro e z2 ⟨rfl, qs2⟩; have p2 : Q y10 z2 := (p1).trans qs2)
        | (go_at_call 14; (with_reducible refine (U1.out _ p2).mono ?_); rintro e z3 ⟨rfl, qs3⟩; have p3 : Q y10 z3 := (p2).trans qs3)
        | (go_at_call 14; (with_reducible refine (U3.out _ p3).mono ?_); rintro e z4 ⟨rfl, qs4⟩; have p4 : Q y10 z4 := (p3).trans qs4))
    have qs := p4
    clear HK U1 U2 U3
    clear b1_0 b1_1 b1_2 b2_0 b2_1 b2_2
    have HB1 := Lib.hid (HB1.out.q qs)
    have HR1 := Lib.hid (HR1.out.q qs)
    have HB2 := Lib.hid (HB2.out.q qs)
    have HR2 := Lib.hid (HR2.out.q qs)
    have HRk := Lib.hid (HRk.out.q qs)
    have Hq := Lib.hid (Hq.out.trans qs)
    clear qs
    have b1_0 := HB1.out.c0
    have b1_1 := HB1.out.c1
    have b1_2 := HB1.out.c2
    have b2_0 := HB2.out.c0
    have b2_1 := HB2.out.c1
    have b2_2 := HB2.out.c2
    have T1 := Lib.hid (fun (W : World) (q : Q z4 W) => Fa.out W (HR2.out.q q))
    have T2 := Lib.hid (fun (W : World) (q : Q z4 W) => Fb.out W (HR2.out.q q))
    have T3 : Hid (∀ W, Q z4 W → Calls Try.prog 14 #[.agg #[.slice A c.V.length k1, .slice D c.N.length k2, .slice E c.M.length k3], .int .i64 (t : Int)] W fun e W' => e = .returned (.int .i64 (rt : Int)) ∧ Q W W') := fun W q => by rw [Hrt.out]; exact find_any R c t A D E _ k1 _ k2 _ k3 W rfl rfl rfl (HR1.out.q q) HC.out htl HfM.out.1
    go_wp2_with fail
    have HK : Hid (∀ w', Q z4 w' → w'.cell? ⟨w.heap.size + 1, 0, none⟩ = some (.slice A c.V.length k1) ∧ w'.cell? ⟨w.heap.size + 1, 1, none⟩ = some (.slice D c.N.length k2) ∧ w'.cell? ⟨w.heap.size + 1, 2, none⟩ = some (.slice E c.M.length k3) ∧ w'.cell? ⟨B4, 0, none⟩ = some (.slice A_4 c.V.length k_4) ∧ w'.cell? ⟨B4, 1, none⟩ = some (.slice D_4 X.N.length l_4) ∧ w'.cell? ⟨B4, 2, none⟩ = some (.slice E_4 X.M.length m_4)) := fun w' q => ⟨(q.cell (p := ⟨w.heap.size + 1, 0, none⟩) HB1.out.lt).trans b1_0, (q.cell (p := ⟨w.heap.size + 1, 1, none⟩) HB1.out.lt).trans b1_1, (q.cell (p := ⟨w.heap.size + 1, 2, none⟩) HB1.out.lt).trans b1_2, (q.cell (p := ⟨B4, 0, none⟩) HB2.out.lt).trans b2_0, (q.cell (p := ⟨B4, 1, none⟩) HB2.out.lt).trans b2_1, (q.cell (p := ⟨B4, 2, none⟩) HB2.out.lt).trans b2_2⟩
    go_region_held3 (fun w' => w'.cell? ⟨w.heap.size + 1, 0, none⟩ = some (.slice A c.V.length k1) ∧ w'.cell? ⟨w.heap.size + 1, 1, none⟩ = some (.slice D c.N.length k2) ∧ w'.cell? ⟨w.heap.size + 1, 2, none⟩ = some (.slice E c.M.length k3) ∧ w'.cell? ⟨B4, 0, none⟩ = some (.slice A_4 c.V.length k_4) ∧ w'.cell? ⟨B4, 1, none⟩ = some (.slice D_4 X.N.length l_4) ∧ w'.cell? ⟨B4, 2, none⟩ = some (.slice E_4 X.M.length m_4))
      (first
        | go_keep
        | exact HK.out _ r4
        | exact HK.out _ r3
        | exact HK.out _ r2
        | exact HK.out _ r1
        | exact HK.out _ (Q.refl z4)
        | exact HK.out _ (Q.refl z4).drew)
      (first
        | (go_at_call 14; (with_reducible refine (T1.out _ (Q.refl z4).drew).mono ?_); rintro e v1 ⟨rfl, qt1⟩; have r1 : Q z4 v1 := ((Q.refl z4).drew).trans qt1)
        | (go_at_call 14; (with_reducible refine (T2.out _ r1).mono ?_); rintro e v2 ⟨rfl, qt2⟩; have r2 : Q z4 v2 := (r1).trans qt2)
        | (go_at_call 14; (with_reducible refine (T1.out _ r2).mono ?_); rintro e v3 ⟨rfl, qt3⟩; have r3 : Q z4 v3 := (r2).trans qt3)
        | (go_at_call 14; (with_reducible refine (T3.out _ r3).mono ?_); rintro e v4 ⟨rfl, qt4⟩; have r4 : Q z4 v4 := (r3).trans qt4))
    all_goals
      go_wp2_with fail
      go_ret
      exact ⟨rfl, Hq.out.trans r4⟩
  · have dft : ((f : Int) != (t : Int)) = true := bne_iff_ne.2 (by omega)
    have hls := f3.resolve_left hft
    clear hft f3
    go_wp2_with fail
    refine (CL.out _ HRk.out).mono ?_
    rintro e y10 ⟨rfl, qs⟩
    rw [hls]
    clear b1_0 b1_1 b1_2 b2_0 b2_1 b2_2
    have HB1 := Lib.hid (HB1.out.q qs)
    have HR1 := Lib.hid (HR1.out.q qs)
    have HB2 := Lib.hid (HB2.out.q qs)
    have HR2 := Lib.hid (HR2.out.q qs)
    have HRk := Lib.hid (HRk.out.q qs)
    have Hq := Lib.hid (Hq.out.trans qs)
    clear qs
    have b1_0 := HB1.out.c0
    have b1_1 := HB1.out.c1
    have b1_2 := HB1.out.c2
    have b2_0 := HB2.out.c0
    have b2_1 := HB2.out.c1
    have b2_2 := HB2.out.c2
    go_wp2_with fail
    refine (Ff.out _ HR2.out).mono ?_
    rintro e y11 ⟨rfl, qs⟩
    clear b1_0 b1_1 b1_2 b2_0 b2_1 b2_2
    have HB1 := Lib.hid (HB1.out.q qs)
    have HR1 := Lib.hid (HR1.out.q qs)
    have HB2 := Lib.hid (HB2.out.q qs)
    have HR2 := Lib.hid (HR2.out.q qs)
    have HRk := Lib.hid (HRk.out.q qs)
    have Hq := Lib.hid (Hq.out.trans qs)
    clear qs
    have b1_0 := HB1.out.c0
    have b1_1 := HB1.out.c1
    have b1_2 := HB1.out.c2
    have b2_0 := HB2.out.c0
    have b2_1 := HB2.out.c1
    have b2_2 := HB2.out.c2
    clear CL Ff dft
    have U1 : Hid (∀ W, Q y11 W → Calls Try.prog 14 #[.agg #[.slice A c.V.length k1, .slice D c.N.length k2, .slice E c.M.length k3], .int .i64 (t : Int)] W fun e W' => e = .returned (.int .i64 (rt : Int)) ∧ Q W W') := fun W q => by rw [Hrt.out]; exact find_any R c t A D E _ k1 _ k2 _ k3 W rfl rfl rfl (HR1.out.q q) HC.out htl HfM.out.1
    have U2 : Hid (∀ W, Q y11 W → Calls Try.prog 14 #[.agg #[.slice A c.V.length k1, .slice D c.N.length k2, .slice E c.M.length k3], .int .i64 (a : Int)] W fun e W' => e = .returned (.int .i64 (ra : Int)) ∧ Q W W') := fun W q => by rw [Hra.out]; exact find_any R c a A D E _ k1 _ k2 _ k3 W rfl rfl rfl (HR1.out.q q) HC.out hal HfM.out.1
    have U3 : Hid (∀ W, Q y11 W → Calls Try.prog 14 #[.agg #[.slice A c.V.length k1, .slice D c.N.length k2, .slice E c.M.length k3], .int .i64 (b : Int)] W fun e W' => e = .returned (.int .i64 (rb : Int)) ∧ Q W W') := fun W q => by rw [Hrb.out]; exact find_any R c b A D E _ k1 _ k2 _ k3 W rfl rfl rfl (HR1.out.q q) HC.out hbl HfM.out.1
    go_wp2_with fail
    have HK : Hid (∀ w', Q y11 w' → w'.cell? ⟨w.heap.size + 1, 0, none⟩ = some (.slice A c.V.length k1) ∧ w'.cell? ⟨w.heap.size + 1, 1, none⟩ = some (.slice D c.N.length k2) ∧ w'.cell? ⟨w.heap.size + 1, 2, none⟩ = some (.slice E c.M.length k3)) := fun w' q => ⟨(q.cell (p := ⟨w.heap.size + 1, 0, none⟩) HB1.out.lt).trans b1_0, (q.cell (p := ⟨w.heap.size + 1, 1, none⟩) HB1.out.lt).trans b1_1, (q.cell (p := ⟨w.heap.size + 1, 2, none⟩) HB1.out.lt).trans b1_2⟩
    go_region_held3 (fun w' => w'.cell? ⟨w.heap.size + 1, 0, none⟩ = some (.slice A c.V.length k1) ∧ w'.cell? ⟨w.heap.size + 1, 1, none⟩ = some (.slice D c.N.length k2) ∧ w'.cell? ⟨w.heap.size + 1, 2, none⟩ = some (.slice E c.M.length k3))
      (first
        | go_keep
        | exact HK.out _ p4
        | exact HK.out _ p3
        | exact HK.out _ p2
        | exact HK.out _ p1
        | exact HK.out _ (Q.refl y11)
        | exact HK.out _ (Q.refl y11).drew)
      (first
        | (go_at_call 14; (with_reducible refine (U1.out _ (Q.refl y11).drew).mono ?_); rintro e z1 ⟨rfl, qs1⟩; have p1 : Q y11 z1 := ((Q.refl y11).drew).trans qs1)
        | (go_at_call 14; (with_reducible refine (U2.out _ p1).mono ?_); rintro e z2 ⟨rfl, qs2⟩; have p2 : Q y11 z2 := (p1).trans qs2)
        | (go_at_call 14; (with_reducible refine (U1.out _ p2).mono ?_); rintro e z3 ⟨rfl, qs3⟩; have p3 : Q y11 z3 := (p2).trans qs3)
        | (go_at_call 14; (with_reducible refine (U3.out _ p3).mono ?_); rintro e z4 ⟨rfl, qs4⟩; have p4 : Q y11 z4 := (p3).trans qs4))
    have qs := p4
    clear HK U1 U2 U3
    clear b1_0 b1_1 b1_2 b2_0 b2_1 b2_2
    have HB1 := Lib.hid (HB1.out.q qs)
    have HR1 := Lib.hid (HR1.out.q qs)
    have HB2 := Lib.hid (HB2.out.q qs)
    have HR2 := Lib.hid (HR2.out.q qs)
    have HRk := Lib.hid (HRk.out.q qs)
    have Hq := Lib.hid (Hq.out.trans qs)
    clear qs
    have b1_0 := HB1.out.c0
    have b1_1 := HB1.out.c1
    have b1_2 := HB1.out.c2
    have b2_0 := HB2.out.c0
    have b2_1 := HB2.out.c1
    have b2_2 := HB2.out.c2
    have T1 := Lib.hid (fun (W : World) (q : Q z4 W) => Fa.out W (HR2.out.q q))
    have T2 := Lib.hid (fun (W : World) (q : Q z4 W) => Fb.out W (HR2.out.q q))
    have T3 : Hid (∀ W, Q z4 W → Calls Try.prog 14 #[.agg #[.slice A c.V.length k1, .slice D c.N.length k2, .slice E c.M.length k3], .int .i64 (t : Int)] W fun e W' => e = .returned (.int .i64 (rt : Int)) ∧ Q W W') := fun W q => by rw [Hrt.out]; exact find_any R c t A D E _ k1 _ k2 _ k3 W rfl rfl rfl (HR1.out.q q) HC.out htl HfM.out.1
    go_wp2_with fail
    have HK : Hid (∀ w', Q z4 w' → w'.cell? ⟨w.heap.size + 1, 0, none⟩ = some (.slice A c.V.length k1) ∧ w'.cell? ⟨w.heap.size + 1, 1, none⟩ = some (.slice D c.N.length k2) ∧ w'.cell? ⟨w.heap.size + 1, 2, none⟩ = some (.slice E c.M.length k3) ∧ w'.cell? ⟨B4, 0, none⟩ = some (.slice A_4 c.V.length k_4) ∧ w'.cell? ⟨B4, 1, none⟩ = some (.slice D_4 X.N.length l_4) ∧ w'.cell? ⟨B4, 2, none⟩ = some (.slice E_4 X.M.length m_4)) := fun w' q => ⟨(q.cell (p := ⟨w.heap.size + 1, 0, none⟩) HB1.out.lt).trans b1_0, (q.cell (p := ⟨w.heap.size + 1, 1, none⟩) HB1.out.lt).trans b1_1, (q.cell (p := ⟨w.heap.size + 1, 2, none⟩) HB1.out.lt).trans b1_2, (q.cell (p := ⟨B4, 0, none⟩) HB2.out.lt).trans b2_0, (q.cell (p := ⟨B4, 1, none⟩) HB2.out.lt).trans b2_1, (q.cell (p := ⟨B4, 2, none⟩) HB2.out.lt).trans b2_2⟩
    go_region_held3 (fun w' => w'.cell? ⟨w.heap.size + 1, 0, none⟩ = some (.slice A c.V.length k1) ∧ w'.cell? ⟨w.heap.size + 1, 1, none⟩ = some (.slice D c.N.length k2) ∧ w'.cell? ⟨w.heap.size + 1, 2, none⟩ = some (.slice E c.M.length k3) ∧ w'.cell? ⟨B4, 0, none⟩ = some (.slice A_4 c.V.length k_4) ∧ w'.cell? ⟨B4, 1, none⟩ = some (.slice D_4 X.N.length l_4) ∧ w'.cell? ⟨B4, 2, none⟩ = some (.slice E_4 X.M.length m_4))
      (first
        | go_keep
        | exact HK.out _ r4
        | exact HK.out _ r3
        | exact HK.out _ r2
        | exact HK.out _ r1
        | exact HK.out _ (Q.refl z4)
        | exact HK.out _ (Q.refl z4).drew)
      (first
        | (go_at_call 14; (with_reducible refine (T1.out _ (Q.refl z4).drew).mono ?_); rintro e v1 ⟨rfl, qt1⟩; have r1 : Q z4 v1 := ((Q.refl z4).drew).trans qt1)
        | (go_at_call 14; (with_reducible refine (T2.out _ r1).mono ?_); rintro e v2 ⟨rfl, qt2⟩; have r2 : Q z4 v2 := (r1).trans qt2)
        | (go_at_call 14; (with_reducible refine (T1.out _ r2).mono ?_); rintro e v3 ⟨rfl, qt3⟩; have r3 : Q z4 v3 := (r2).trans qt3)
        | (go_at_call 14; (with_reducible refine (T3.out _ r3).mono ?_); rintro e v4 ⟨rfl, qt4⟩; have r4 : Q z4 v4 := (r3).trans qt4))
    all_goals
      go_wp2_with fail
      go_ret
      exact ⟨rfl, Hq.out.trans r4⟩


set_option maxRecDepth 100000 in
theorem lifted (os : Os) (started : os.Started) (H : Type) (enc : TypeId × Value → H) :
    ReturnsInHanded {} Try.checked os 3 .any (Rows.ufJoinsSpec.pre6 enc Try.prog Try.f3 Rows.ufJoinsRow.domain false) (Rows.ufJoinsSpec.post enc Try.prog Try.f3 false true false false) := by
  refine returnsInHanded_of_change_sized (C := Try.checked) own started (by kernel_rfl) Try.func3
    (ChangeSpec.witness6 (enc := enc) (C := Try.checked) false ⟨#[], #[.agg #[.slice none 0 0, .slice none 0 0, .slice none 0 0, .slice none 0 0, .int .i64 0, .int .i64 0, .int .i64 0]], []⟩ 8 (by kernel_rfl) (by kernel_rfl) (by kernel_rfl) (by kernel_rfl)) ?_
  intro W base args ds gs before hval0 hW hcnd hsz0 _
  have hval : ∀ (j : Nat) t v, Try.f3.params[j]? = some t → args[j]? = some v → Value.okWide Try.prog W .any base t v := hval0
  have hW' := hW
  obtain ⟨p, q, hA0, hV, rfl, hfz, hnd⟩ := hW
  have hA : DataW.TrodAll enc Try.prog W 0 (fun _ => true) true Try.f3.params.toList args.toList ds p := hA0
  rw [Try.params3] at hA hval
  obtain ⟨v0, vs0, d0, ds0, p0, q0, hargs, rfl, rfl, h0, r0⟩ := trodAll_cons hA
  obtain ⟨rfl, rfl, rfl⟩ := trodAll_nil r0
  obtain rfl : args = #[v0] := by cases args; simp_all
  obtain ⟨rfl, rfl⟩ := trodVars_none hV
  have z0 : ∀ n ∈ d0.weights Try.prog 27, n ≤ reachBytes := fun n hn => by
    have := List.all_eq_true.1 hsz0 n (DataW.weights_mem_each (j := 0) (t := 27) (d := d0) (by rw [Try.params3]; rfl) rfl n hn)
    simpa using this
  obtain ⟨c, A, n1, k1, D, n2, k2, E, n3, k3, F, n4, k4, R, a, b, t, rfl, e1, e2, e3, e4, h, hR, hw⟩ := open_joins (hval 0 27 v0 rfl rfl) h0 z0
  clear hA0 hval0
  refine (walk c R A D E F n1 k1 n2 k2 n3 k3 n4 k4 a b t W e1 e2 e3 e4 h hR hw).mono fun e W' ⟨he, hg⟩ => ?_
  subst he
  exact ⟨_, rfl, post_law laid (by rw [Try.params3]; decide +kernel) rfl rfl (by kernel_rfl) Try.underlying4 hW' hg⟩

/-- THE STATEMENT -/
theorem proved : Rows.UfJoinsSaid :=
  OpenClaim.holds_of_wide 3 Try.f3 rfl rfl rfl rfl rfl rfl rfl ⟨rfl, rfl, rfl, rfl, rfl⟩ rfl rfl rfl rfl rfl (by kernel_rfl) Try.func3 (by kernel_rfl)
    (of_decide_eq_true (by kernel_rfl)) (by unfold Func.isWrapper; first | (rw [if_pos (by decide +kernel)]; kernel_rfl) | (rw [if_neg (by decide +kernel)]; exact ⟨rfl, rfl⟩))
    (fun os started H enc _ => lifted os started H enc)
end Go.Proofs.Ytodmompfnlcjpaa.ufJoins
