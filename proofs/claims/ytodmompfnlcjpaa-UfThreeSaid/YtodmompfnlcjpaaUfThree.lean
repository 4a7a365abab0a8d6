/-
  UfThree: of three that are joined all are one, in whichever order. Proved for all cells, ranks and numbers: no condition.
-/
import Derived.Test.YtodmompfnlcjpaaUfI
import Derived.Test.YtodmompfnlcjpaaTrailO
import Derived.Test.YtodmompfnlcjpaaRows
import Derived.Test.YtodmompfnlcjpaaUfK
import Derived.Test.YtodmompfnlcjpaaUfL
namespace Go.Proofs.Ytodmompfnlcjpaa.ufThree
open Go.ChangeShapes Go.WideShapes Go.RowKit Kit Go.Deep Go.Joins Tr Uf

set_option maxRecDepth 100000 in
set_option maxHeartbeats 8000000 in
theorem walk (c : Cells) (R : List Int) (A D E F : Option Addr) (n1 k1 n2 k2 n3 k3 n4 k4 : Nat) (a b t : Int) (w : World) (h1 : n1 = c.V.length) (h2 : n2 = c.N.length) (h3 : n3 = c.M.length) (h4 : n4 = R.length) (h : Rd w c A k1 D k2 E k3) (hR : Rds w w.heap.size F (cellsI R)) (hw : Few c 1152921504606846976) :
    Calls Try.prog 6 #[.agg #[.slice A n1 k1, .slice D n2 k2, .slice E n3 k3, .slice F n4 k4, .int .i64 a, .int .i64 b, .int .i64 t]] w fun e w' => e = .returned (.bool true) ∧ Q w w' := by
  subst h1 h2 h3 h4
  have q0 := ((Q.refl w).alloc (Obj.cells #[Value.slice A c.V.length k1, Value.slice D c.N.length k2, Value.slice E c.M.length k3, Value.slice F R.length k4, Value.int .i64 a, Value.int .i64 b, Value.int .i64 t] 46)).alloc (Obj.cells #[Value.slice A c.V.length k1, Value.slice D c.N.length k2, Value.slice E c.M.length k3] 25)
  have X := Box3.new (w.alloc (Obj.cells #[Value.slice A c.V.length k1, Value.slice D c.N.length k2, Value.slice E c.M.length k3, Value.slice F R.length k4, Value.int .i64 a, Value.int .i64 b, Value.int .i64 t] 46)) (Value.slice A c.V.length k1) (Value.slice D c.N.length k2) (Value.slice E c.M.length k3) 25
  rw [World.size_alloc] at X
  have HB1 := Lib.hid X
  clear X
  have HR1 := Lib.hid (h.q q0)
  have HRk := Lib.hid (hR.q q0)
  have Hl := Lib.hid hw
  clear h hR hw
  go_enter Try.func6, Try.ntmps6
  go_upto_region 6 with fail
  generalize (w.alloc (Obj.cells #[Value.slice A c.V.length k1, Value.slice D c.N.length k2, Value.slice E c.M.length k3, Value.slice F R.length k4, Value.int .i64 a, Value.int .i64 b, Value.int .i64 t] 46)).alloc (Obj.cells #[Value.slice A c.V.length k1, Value.slice D c.N.length k2, Value.slice E c.M.length k3] 25) = W0 at *
  have Hq := Lib.hid q0
  clear q0
  go_upto_region 7 with (go_at_call 8; refine (shown_any _).mono ?_; rintro e y0 ⟨rfl, qs⟩)
  have HB1 := Lib.hid (HB1.out.q qs)
  have HR1 := Lib.hid (HR1.out.q qs)
  have HRk := Lib.hid (HRk.out.q qs)
  have Hq := Lib.hid (Hq.out.trans qs)
  clear qs
  have b1_0 := HB1.out.c0
  have b1_1 := HB1.out.c1
  have b1_2 := HB1.out.c2
  have few5 := fun (W : World) => few5_any c R A D E F c.V.length k1 c.N.length k2 c.M.length k3 R.length k4 W rfl rfl rfl rfl (by have := Hl.out.1; omega) (by have := Hl.out.2.1; omega) (by have := Hl.out.2.2; omega)
  have Few5 := Lib.hid few5
  clear few5
  cases hfw : (fewB c && decide (R.length ≤ 200))
  · rw [hfw] at Few5
    go_wp2_with (go_at_call 9; refine (Few5.out _).mono ?_; rintro e y ⟨rfl, qs⟩)
    go_ret
    exact ⟨rfl, Hq.out.trans qs⟩
  rw [hfw] at Few5
  obtain ⟨hf1, hf2⟩ := (Bool.and_eq_true _ _).mp hfw
  have Hf := Lib.hid (few_500 hf1)
  have HfM : Hid (Few c 1000000) := few_more Hf.out (by omega)
  have hRl : R.length ≤ 200 := of_decide_eq_true hf2
  have fv : c.V.length ≤ 500 := Hf.out.1
  clear hfw hf1 hf2
  go_wp2_with fail
  refine (Few5.out _).mono ?_
  rintro e y1 ⟨rfl, qs⟩
  clear b1_0 b1_1 b1_2
  have HB1 := Lib.hid (HB1.out.q qs)
  have HR1 := Lib.hid (HR1.out.q qs)
  have HRk := Lib.hid (HRk.out.q qs)
  have Hq := Lib.hid (Hq.out.trans qs)
  clear qs
  have b1_0 := HB1.out.c0
  have b1_1 := HB1.out.c1
  have b1_2 := HB1.out.c2
  have Rt5 := Lib.hid (right5_any R c A D E F _ k1 _ k2 _ k3 _ k4 y1 rfl rfl rfl rfl HR1.out HRk.out HfM.out)
  clear Few5
  cases hrt : (clB R c.V && rightB c)
  · rw [hrt] at Rt5
    go_wp2_with (go_at_call 10; refine Rt5.out.mono ?_; rintro e y ⟨rfl, qs⟩)
    go_ret
    exact ⟨rfl, Hq.out.trans qs⟩
  rw [hrt] at Rt5
  obtain ⟨hr1, hr2⟩ := (Bool.and_eq_true _ _).mp hrt
  have HC := Lib.hid (cl_of hr1)
  have HRt := Lib.hid hr2
  clear hrt hr1 hr2
  go_wp2_with fail
  refine (Rt5.out).mono ?_
  rintro e y2 ⟨rfl, qs⟩
  clear b1_0 b1_1 b1_2
  have HB1 := Lib.hid (HB1.out.q qs)
  have HR1 := Lib.hid (HR1.out.q qs)
  have HRk := Lib.hid (HRk.out.q qs)
  have Hq := Lib.hid (Hq.out.trans qs)
  clear qs
  have b1_0 := HB1.out.c0
  have b1_1 := HB1.out.c1
  have b1_2 := HB1.out.c2
  clear Rt5
  by_cases ha : 0 ≤ a ∧ a < c.V.length
  case neg =>
    have hd : (decide (0 ≤ a) && decide (a < (c.V.length : Int))) = false := by
      by_cases e : 0 ≤ a
      · rw [decide_eq_false (fun k => ha ⟨e, k⟩), Bool.and_false]
      · rw [decide_eq_false e]; rfl
    clear ha
    go_wp2_with fail
    refine (there_any _ _ _ _ _ _ _).mono ?_
    rintro e y ⟨rfl, qs⟩
    rw [hd]
    go_wp2_with fail
    go_ret
    exact ⟨rfl, Hq.out.trans qs⟩
  obtain ⟨a, rfl⟩ := Int.eq_ofNat_of_zero_le ha.1
  have hal : a < c.V.length := by omega
  have hda : (decide (0 ≤ (a : Int)) && decide ((a : Int) < (c.V.length : Int))) = true := by rw [decide_eq_true ha.1, decide_eq_true ha.2]; rfl
  clear ha
  go_wp2_with fail
  refine (there_any _ _ _ _ _ _ _).mono ?_
  rintro e y3 ⟨rfl, qs⟩
  rw [hda]
  clear b1_0 b1_1 b1_2
  have HB1 := Lib.hid (HB1.out.q qs)
  have HR1 := Lib.hid (HR1.out.q qs)
  have HRk := Lib.hid (HRk.out.q qs)
  have Hq := Lib.hid (Hq.out.trans qs)
  clear qs
  have b1_0 := HB1.out.c0
  have b1_1 := HB1.out.c1
  have b1_2 := HB1.out.c2
  clear hda
  by_cases hb : 0 ≤ b ∧ b < c.V.length
  case neg =>
    have hd : (decide (0 ≤ b) && decide (b < (c.V.length : Int))) = false := by
      by_cases e : 0 ≤ b
      · rw [decide_eq_false (fun k => hb ⟨e, k⟩), Bool.and_false]
      · rw [decide_eq_false e]; rfl
    clear hb
    go_wp2_with fail
    refine (there_any _ _ _ _ _ _ _).mono ?_
    rintro e y ⟨rfl, qs⟩
    rw [hd]
    go_wp2_with fail
    go_ret
    exact ⟨rfl, Hq.out.trans qs⟩
  obtain ⟨b, rfl⟩ := Int.eq_ofNat_of_zero_le hb.1
  have hbl : b < c.V.length := by omega
  have hdb : (decide (0 ≤ (b : Int)) && decide ((b : Int) < (c.V.length : Int))) = true := by rw [decide_eq_true hb.1, decide_eq_true hb.2]; rfl
  clear hb
  go_wp2_with fail
  refine (there_any _ _ _ _ _ _ _).mono ?_
  rintro e y4 ⟨rfl, qs⟩
  rw [hdb]
  clear b1_0 b1_1 b1_2
  have HB1 := Lib.hid (HB1.out.q qs)
  have HR1 := Lib.hid (HR1.out.q qs)
  have HRk := Lib.hid (HRk.out.q qs)
  have Hq := Lib.hid (Hq.out.trans qs)
  clear qs
  have b1_0 := HB1.out.c0
  have b1_1 := HB1.out.c1
  have b1_2 := HB1.out.c2
  clear hdb
  by_cases ht : 0 ≤ t ∧ t < c.V.length
  case neg =>
    have hd : (decide (0 ≤ t) && decide (t < (c.V.length : Int))) = false := by
      by_cases e : 0 ≤ t
      · rw [decide_eq_false (fun k => ht ⟨e, k⟩), Bool.and_false]
      · rw [decide_eq_false e]; rfl
    clear ht
    go_wp2_with fail
    refine (there_any _ _ _ _ _ _ _).mono ?_
    rintro e y ⟨rfl, qs⟩
    rw [hd]
    go_wp2_with fail
    go_ret
    exact ⟨rfl, Hq.out.trans qs⟩
  obtain ⟨t, rfl⟩ := Int.eq_ofNat_of_zero_le ht.1
  have htl : t < c.V.length := by omega
  have hdt : (decide (0 ≤ (t : Int)) && decide ((t : Int) < (c.V.length : Int))) = true := by rw [decide_eq_true ht.1, decide_eq_true ht.2]; rfl
  clear ht
  go_wp2_with fail
  refine (there_any _ _ _ _ _ _ _).mono ?_
  rintro e y5 ⟨rfl, qs⟩
  rw [hdt]
  clear b1_0 b1_1 b1_2
  have HB1 := Lib.hid (HB1.out.q qs)
  have HR1 := Lib.hid (HR1.out.q qs)
  have HRk := Lib.hid (HRk.out.q qs)
  have Hq := Lib.hid (Hq.out.trans qs)
  clear qs
  have b1_0 := HB1.out.c0
  have b1_1 := HB1.out.c1
  have b1_2 := HB1.out.c2
  clear hdt
  obtain ⟨xc, yc, xl, yl, ex1, ex2, ex3⟩ := three_ways (R := R) HC.out hal hbl htl
  have XC := Lib.hid xc
  have YC := Lib.hid yc
  have XL := Lib.hid xl
  have YL := Lib.hid yl
  have Ex1 := Lib.hid ex1
  have Ex2 := Lib.hid ex2
  have Ex3 := Lib.hid ex3
  clear xc yc xl yl ex1 ex2 ex3
  have K1 := joined (R := R) HC.out hal hbl
  have K2 := joined (R := R) HC.out htl hal
  have HK1 := Lib.hid K1.cl
  have HK2 := Lib.hid K2.cl
  have Hb1 : Hid (b < (joinC R c a b).V.length) := by unfold Hid; rw [K1.len]; exact hbl
  have Ht1 : Hid (t < (joinC R c a b).V.length) := by unfold Hid; rw [K1.len]; exact htl
  have Hb2 : Hid (b < (joinC R c t a).V.length) := by unfold Hid; rw [K2.len]; exact hbl
  have Ht2 : Hid (t < (joinC R c t a).V.length) := by unfold Hid; rw [K2.len]; exact htl
  have Hf1 : Hid (Few (joinC R c a b) 1000000) := few_join a b Hf.out (by omega)
  have Hf2 : Hid (Few (joinC R c t a) 1000000) := few_join t a Hf.out (by omega)
  clear K1 K2
  go_upto_region 10 with (first | (go_at_call 12; refine (join_any R (joinC R c a b) b t _ _ _ _ _ _ _ _ _ _ _ _ _ rfl rfl rfl rfl HO4.out.rd (HRk.out.q HO4.out.q) Hf1.out HK1.out Hb1.out Ht1.out).mono ?_; rintro e w5 ⟨A_5, k_5, D_5, l_5, E_5, m_5, rfl, hO5⟩; have HO5 := Lib.hid hO5; clear hO5) | (go_at_call 12; refine (join_any R c a b _ _ _ _ _ _ _ _ _ _ _ _ _ rfl rfl rfl rfl HR1.out HRk.out HfM.out HC.out hal hbl).mono ?_; rintro e w4 ⟨A_4, k_4, D_4, l_4, E_4, m_4, rfl, hO4⟩; have HO4 := Lib.hid hO4; clear hO4))
  obtain ⟨X, hX⟩ : ∃ X, X = joinC R (joinC R c a b) b t := ⟨_, rfl⟩
  rw [← hX] at HO5 XC XL Ex1 Ex2 Ex3 ⊢
  clear b1_0 b1_1 b1_2
  have qb := (HO4.out.q.trans HO5.out.q).trans ((Q.refl w5).alloc (.cells #[.slice A_5 (X).V.length k_5, .slice D_5 (X).N.length l_5, .slice E_5 (X).M.length m_5] 25))
  have HB1 := Lib.hid (HB1.out.q qb)
  have HR1 := Lib.hid (HR1.out.q qb)
  have HRk := Lib.hid (HRk.out.q qb)
  have Hq := Lib.hid (Hq.out.trans qb)
  have HB2 := Lib.hid (Box3.new w5 (.slice A_5 (X).V.length k_5) (.slice D_5 (X).N.length l_5) (.slice E_5 (X).M.length m_5) 25)
  have HR2 := Lib.hid (HO5.out.rd.q ((Q.refl w5).alloc (.cells #[.slice A_5 (X).V.length k_5, .slice D_5 (X).N.length l_5, .slice E_5 (X).M.length m_5] 25)))
  clear qb
  generalize w5.alloc (.cells #[.slice A_5 (X).V.length k_5, .slice D_5 (X).N.length l_5, .slice E_5 (X).M.length m_5] 25) = W5 at *
  generalize w5.heap.size = B5 at *
  clear HO4 HO5 hX
  have b1_0 := HB1.out.c0
  have b1_1 := HB1.out.c1
  have b1_2 := HB1.out.c2
  have b2_0 := HB2.out.c0
  have b2_1 := HB2.out.c1
  have b2_2 := HB2.out.c2
  go_upto_region 11 with (first | (go_at_call 12; refine (join_any R (joinC R c t a) b t _ _ _ _ _ _ _ _ _ _ _ _ _ rfl rfl rfl rfl HO6.out.rd (HRk.out.q HO6.out.q) Hf2.out HK2.out Hb2.out Ht2.out).mono ?_; rintro e w7 ⟨A_7, k_7, D_7, l_7, E_7, m_7, rfl, hO7⟩; have HO7 := Lib.hid hO7; clear hO7) | (go_at_call 12; refine (join_any R c t a _ _ _ _ _ _ _ _ _ _ _ _ _ rfl rfl rfl rfl HR1.out HRk.out HfM.out HC.out htl hal).mono ?_; rintro e w6 ⟨A_6, k_6, D_6, l_6, E_6, m_6, rfl, hO6⟩; have HO6 := Lib.hid hO6; clear hO6))
  obtain ⟨Y, hY⟩ : ∃ X, X = joinC R (joinC R c t a) b t := ⟨_, rfl⟩
  rw [← hY] at HO7 YC YL Ex2 Ex3 ⊢
  clear b1_0 b1_1 b1_2 b2_0 b2_1 b2_2
  have qb := (HO6.out.q.trans HO7.out.q).trans ((Q.refl w7).alloc (.cells #[.slice A_7 (Y).V.length k_7, .slice D_7 (Y).N.length l_7, .slice E_7 (Y).M.length m_7] 25))
  have HB1 := Lib.hid (HB1.out.q qb)
  have HR1 := Lib.hid (HR1.out.q qb)
  have HB2 := Lib.hid (HB2.out.q qb)
  have HR2 := Lib.hid (HR2.out.q qb)
  have HRk := Lib.hid (HRk.out.q qb)
  have Hq := Lib.hid (Hq.out.trans qb)
  have HB3 := Lib.hid (Box3.new w7 (.slice A_7 (Y).V.length k_7) (.slice D_7 (Y).N.length l_7) (.slice E_7 (Y).M.length m_7) 25)
  have HR3 := Lib.hid (HO7.out.rd.q ((Q.refl w7).alloc (.cells #[.slice A_7 (Y).V.length k_7, .slice D_7 (Y).N.length l_7, .slice E_7 (Y).M.length m_7] 25)))
  clear qb
  generalize w7.alloc (.cells #[.slice A_7 (Y).V.length k_7, .slice D_7 (Y).N.length l_7, .slice E_7 (Y).M.length m_7] 25) = W7 at *
  generalize w7.heap.size = B7 at *
  clear HO6 HO7 hY
  rw [XL.out] at HB2
  rw [YL.out] at HB3
  clear HK1 HK2 Hb1 Ht1 Hb2 Ht2 Hf1 Hf2
  have b1_0 := HB1.out.c0
  have b1_1 := HB1.out.c1
  have b1_2 := HB1.out.c2
  have b2_0 := HB2.out.c0
  have b2_1 := HB2.out.c1
  have b2_2 := HB2.out.c2
  have b3_0 := HB3.out.c0
  have b3_1 := HB3.out.c1
  have b3_2 := HB3.out.c2
  have C1 : Hid (∀ W, Q W7 W → Calls Try.prog 14 #[.agg #[.slice A_5 c.V.length k_5, .slice D_5 X.N.length l_5, .slice E_5 X.M.length m_5], .int .i64 (a : Int)] W fun e W' => e = .returned (.int .i64 (fst X.V a : Int)) ∧ Q W W') := fun W q => by have := find_any R X a A_5 D_5 E_5 c.V.length k_5 _ l_5 _ m_5 W XL.out.symm rfl rfl (HR2.out.q q) XC.out (by rw [XL.out]; exact hal) (by rw [XL.out]; exact HfM.out.1); exact this
  have C2 : Hid (∀ W, Q W7 W → Calls Try.prog 14 #[.agg #[.slice A_5 c.V.length k_5, .slice D_5 X.N.length l_5, .slice E_5 X.M.length m_5], .int .i64 (t : Int)] W fun e W' => e = .returned (.int .i64 (fst X.V a : Int)) ∧ Q W W') := fun W q => by have := find_any R X t A_5 D_5 E_5 c.V.length k_5 _ l_5 _ m_5 W XL.out.symm rfl rfl (HR2.out.q q) XC.out (by rw [XL.out]; exact htl) (by rw [XL.out]; exact HfM.out.1); rw [← Ex1.out] at this; exact this
  have C4 : Hid (∀ W, Q W7 W → Calls Try.prog 14 #[.agg #[.slice A_7 c.V.length k_7, .slice D_7 Y.N.length l_7, .slice E_7 Y.M.length m_7], .int .i64 (a : Int)] W fun e W' => e = .returned (.int .i64 (fst X.V a : Int)) ∧ Q W W') := fun W q => by have := find_any R Y a A_7 D_7 E_7 c.V.length k_7 _ l_7 _ m_7 W YL.out.symm rfl rfl (HR3.out.q q) YC.out (by rw [YL.out]; exact hal) (by rw [YL.out]; exact HfM.out.1); rw [← Ex2.out] at this; exact this
  have C5 : Hid (∀ W, Q W7 W → Calls Try.prog 17 #[.agg #[.slice A_5 c.V.length k_5, .slice D_5 X.N.length l_5, .slice E_5 X.M.length m_5], .int .i64 (b : Int)] W (RowPost (classL X.V b) W)) := fun W q => class_any R X b A_5 D_5 E_5 c.V.length k_5 _ l_5 _ m_5 W XL.out.symm rfl rfl (HR2.out.q q) XC.out (by rw [XL.out]; exact hbl) (by rw [XL.out]; exact HfM.out.1)
  have C6 : Hid (∀ W, Q W7 W → Calls Try.prog 17 #[.agg #[.slice A_7 c.V.length k_7, .slice D_7 Y.N.length l_7, .slice E_7 Y.M.length m_7], .int .i64 (b : Int)] W (RowPost (classL X.V b) W)) := fun W q => by have := class_any R Y b A_7 D_7 E_7 c.V.length k_7 _ l_7 _ m_7 W YL.out.symm rfl rfl (HR3.out.q q) YC.out (by rw [YL.out]; exact hbl) (by rw [YL.out]; exact HfM.out.1); rw [← Ex3.out] at this; exact this
  have hcl : (classL X.V b).length ≤ 1000000 := Nat.le_trans (those_len _ _) (by rw [XL.out]; omega)
  have hee : ((fst X.V a : Int) == (fst X.V a : Int)) = true := by simp
  go_wp2_with fail
  have HK : Hid (∀ w', Q W7 w' → w'.cell? ⟨B5, 0, none⟩ = some (.slice A_5 c.V.length k_5) ∧ w'.cell? ⟨B5, 1, none⟩ = some (.slice D_5 X.N.length l_5) ∧ w'.cell? ⟨B5, 2, none⟩ = some (.slice E_5 X.M.length m_5) ∧ w'.cell? ⟨B7, 0, none⟩ = some (.slice A_7 c.V.length k_7) ∧ w'.cell? ⟨B7, 1, none⟩ = some (.slice D_7 Y.N.length l_7) ∧ w'.cell? ⟨B7, 2, none⟩ = some (.slice E_7 Y.M.length m_7)) := fun w' q => ⟨(q.cell (p := ⟨B5, 0, none⟩) HB2.out.lt).trans b2_0, (q.cell (p := ⟨B5, 1, none⟩) HB2.out.lt).trans b2_1, (q.cell (p := ⟨B5, 2, none⟩) HB2.out.lt).trans b2_2, (q.cell (p := ⟨B7, 0, none⟩) HB3.out.lt).trans b3_0, (q.cell (p := ⟨B7, 1, none⟩) HB3.out.lt).trans b3_1, (q.cell (p := ⟨B7, 2, none⟩) HB3.out.lt).trans b3_2⟩
  go_region_held3 (fun w' => w'.cell? ⟨B5, 0, none⟩ = some (.slice A_5 c.V.length k_5) ∧ w'.cell? ⟨B5, 1, none⟩ = some (.slice D_5 X.N.length l_5) ∧ w'.cell? ⟨B5, 2, none⟩ = some (.slice E_5 X.M.length m_5) ∧ w'.cell? ⟨B7, 0, none⟩ = some (.slice A_7 c.V.length k_7) ∧ w'.cell? ⟨B7, 1, none⟩ = some (.slice D_7 Y.N.length l_7) ∧ w'.cell? ⟨B7, 2, none⟩ = some (.slice E_7 Y.M.length m_7))
    (first
      | go_keep
      | exact HK.out _ p7
      | exact HK.out _ p6
      | exact HK.out _ p5
      | exact HK.out _ p4
      | exact HK.out _ p3
      | exact HK.out _ p2
      | exact HK.out _ p1
      | exact HK.out _ (Q.refl W7)
      | exact HK.out _ (Q.refl W7).drew)
    (first
      | (go_at_call 14; (with_reducible refine (C1.out _ (Q.refl W7).drew).mono ?_); rintro e z1 ⟨rfl, qs1⟩; have p1 : Q W7 z1 := ((Q.refl W7).drew).trans qs1)
      | (go_at_call 14; (with_reducible refine (C2.out _ p1).mono ?_); rintro e z2 ⟨rfl, qs2⟩; have p2 : Q W7 z2 := (p1).trans qs2)
      | (go_at_call 14; (with_reducible refine (C1.out _ p2).mono ?_); rintro e z3 ⟨rfl, qs3⟩; have p3 : Q W7 z3 := (p2).trans qs3)
      | (go_at_call 14; (with_reducible refine (C4.out _ p3).mono ?_); rintro e z4 ⟨rfl, qs4⟩; have p4 : Q W7 z4 := (p3).trans qs4)
      | (go_at_call 17; (with_reducible refine (C5.out _ p4).mono ?_); rintro e z5 ⟨A15, k15, rfl, hk15, hr15, qs5⟩; have p5 : Q W7 z5 := (p4).trans qs5)
      | (go_at_call 17; (with_reducible refine (C6.out _ p5).mono ?_); rintro e z6 ⟨A16, k16, rfl, hk16, hr16, qs6⟩; have p6 : Q W7 z6 := (p5).trans qs6; have r15 := hr15.q qs6)
      | (go_at_call 13; (with_reducible refine (ints_same A15 A16 _ k15 _ k16 _ _ rfl rfl r15 hr16 hcl).mono ?_); rintro e z7 ⟨rfl, hd7⟩; have qs7 := q_drewN _ hd7; have p7 : Q W7 z7 := (p6).trans qs7))
  all_goals
    go_wp2_with fail
    go_ret
    exact ⟨rfl, Hq.out.trans p7⟩

set_option maxRecDepth 100000 in
theorem lifted (os : Os) (started : os.Started) (H : Type) (enc : TypeId × Value → H) :
    ReturnsInHanded {} Try.checked os 6 .any (Rows.ufThreeSpec.pre6 enc Try.prog Try.f6 Rows.ufThreeRow.domain false) (Rows.ufThreeSpec.post enc Try.prog Try.f6 false true false false) := by
  refine returnsInHanded_of_change_sized (C := Try.checked) own started (by kernel_rfl) Try.func6
    (ChangeSpec.witness6 (enc := enc) (C := Try.checked) false ⟨#[], #[.agg #[.slice none 0 0, .slice none 0 0, .slice none 0 0, .slice none 0 0, .int .i64 0, .int .i64 0, .int .i64 0]], []⟩ 8 (by kernel_rfl) (by kernel_rfl) (by kernel_rfl) (by kernel_rfl)) ?_
  intro W base args ds gs before hval0 hW hcnd hsz0 _
  have hval : ∀ (j : Nat) t v, Try.f6.params[j]? = some t → args[j]? = some v → Value.okWide Try.prog W .any base t v := hval0
  have hW' := hW
  obtain ⟨p, q, hA0, hV, rfl, hfz, hnd⟩ := hW
  have hA : DataW.TrodAll enc Try.prog W 0 (fun _ => true) true Try.f6.params.toList args.toList ds p := hA0
  rw [Try.params6] at hA hval
  obtain ⟨v0, vs0, d0, ds0, p0, q0, hargs, rfl, rfl, h0, r0⟩ := trodAll_cons hA
  obtain ⟨rfl, rfl, rfl⟩ := trodAll_nil r0
  obtain rfl : args = #[v0] := by cases args; simp_all
  obtain ⟨rfl, rfl⟩ := trodVars_none hV
  have z0 : ∀ n ∈ d0.weights Try.prog 46, n ≤ reachBytes := fun n hn => by
    have := List.all_eq_true.1 hsz0 n (DataW.weights_mem_each (j := 0) (t := 46) (d := d0) (by rw [Try.params6]; rfl) rfl n hn)
    simpa using this
  obtain ⟨c, A, n1, k1, D, n2, k2, E, n3, k3, F, n4, k4, R, a, b, t, rfl, e1, e2, e3, e4, h, hR, hw⟩ := open_threeIn (hval 0 46 v0 rfl rfl) h0 z0
  clear hA0 hval0
  refine (walk c R A D E F n1 k1 n2 k2 n3 k3 n4 k4 a b t W e1 e2 e3 e4 h hR hw).mono fun e W' ⟨he, hg⟩ => ?_
  subst he
  exact ⟨_, rfl, post_law laid (by rw [Try.params6]; decide +kernel) rfl rfl (by kernel_rfl) Try.underlying4 hW' hg⟩

/-- THE STATEMENT -/
theorem proved : Rows.UfThreeSaid :=
  OpenClaim.holds_of_wide 6 Try.f6 rfl rfl rfl rfl rfl rfl rfl ⟨rfl, rfl, rfl, rfl, rfl⟩ rfl rfl rfl rfl rfl (by kernel_rfl) Try.func6 (by kernel_rfl)
    (of_decide_eq_true (by kernel_rfl)) (by unfold Func.isWrapper; first | (rw [if_pos (by decide +kernel)]; kernel_rfl) | (rw [if_neg (by decide +kernel)]; exact ⟨rfl, rfl⟩))
    (fun os started H enc _ => lifted os started H enc)
end Go.Proofs.Ytodmompfnlcjpaa.ufThree
