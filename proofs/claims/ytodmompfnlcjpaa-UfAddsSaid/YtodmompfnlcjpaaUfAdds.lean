/-
  UfAdds: what is added is alone; the others stay as they were. Proved for all cells, ranks and numbers: no condition.
-/
import Derived.Test.YtodmompfnlcjpaaUfI
import Derived.Test.YtodmompfnlcjpaaTrailO
import Derived.Test.YtodmompfnlcjpaaRows
import Derived.Test.YtodmompfnlcjpaaUfK
namespace Go.Proofs.Ytodmompfnlcjpaa.ufAdds
open Go.ChangeShapes Go.WideShapes Go.RowKit Kit Go.Deep Go.Joins Tr Uf

set_option maxRecDepth 100000 in
set_option maxHeartbeats 8000000 in
theorem walk (c : Cells) (R : List Int) (A D E F : Option Addr) (n1 k1 n2 k2 n3 k3 n4 k4 : Nat) (a : Int) (w : World) (h1 : n1 = c.V.length) (h2 : n2 = c.N.length) (h3 : n3 = c.M.length) (h4 : n4 = R.length) (h : Rd w c A k1 D k2 E k3) (hR : Rds w w.heap.size F (cellsI R)) (hw : Few c 1152921504606846976) :
    Calls Try.prog 7 #[.agg #[.slice A n1 k1, .slice D n2 k2, .slice E n3 k3], .slice F n4 k4, .int .i64 a] w fun e w' => e = .returned (.bool true) ∧ Q w w' := by
  subst h1 h2 h3 h4
  have q0 := (Q.refl w).alloc (Obj.cells #[Value.slice A c.V.length k1, Value.slice D c.N.length k2, Value.slice E c.M.length k3] 25)
  have HB1 := Lib.hid (Box3.new w (Value.slice A c.V.length k1) (Value.slice D c.N.length k2) (Value.slice E c.M.length k3) 25)
  have HR1 := Lib.hid (h.q q0)
  have HRk := Lib.hid (hR.q q0)
  have Hl := Lib.hid hw
  clear h hR hw
  go_enter Try.func7, Try.ntmps7
  go_upto_region 1 with fail
  generalize w.alloc (Obj.cells #[Value.slice A c.V.length k1, Value.slice D c.N.length k2, Value.slice E c.M.length k3] 25) = W0 at *
  have Hq := Lib.hid q0
  clear q0
  go_upto_region 2 with (go_at_call 8; refine (shown_any _).mono ?_; rintro e y0 ⟨rfl, qs⟩)
  have HB1 := Lib.hid (HB1.out.q qs)
  have HR1 := Lib.hid (HR1.out.q qs)
  have HRk := Lib.hid (HRk.out.q qs)
  have Hq := Lib.hid (Hq.out.trans qs)
  clear qs
  have b1_0 := HB1.out.c0
  have b1_1 := HB1.out.c1
  have b1_2 := HB1.out.c2
  have few5 := fun (W : World) => few5_any c R A D E F c.V.length k1 c.N.length k2 c.M.length k3 R.length k4 W rfl rfl rfl rfl (by have := Hl.out.1; omega) (by have := Hl.out.2.1; omega) (by have := Hl.out.2.2; omega)
  have Few5 := Lib.hid few5
  clear few5
  cases hfw : (fewB c && decide (R.length ≤ 200))
  · rw [hfw] at Few5
    go_wp2_with (go_at_call 9; refine (Few5.out _).mono ?_; rintro e y ⟨rfl, qs⟩)
    go_ret
    exact ⟨rfl, Hq.out.trans qs⟩
  rw [hfw] at Few5
  obtain ⟨hf1, hf2⟩ := (Bool.and_eq_true _ _).mp hfw
  have Hf := Lib.hid (few_500 hf1)
  have HfM : Hid (Few c 1000000) := few_more Hf.out (by omega)
  have hRl : R.length ≤ 200 := of_decide_eq_true hf2
  have fv : c.V.length ≤ 500 := Hf.out.1
  clear hfw hf1 hf2
  go_wp2_with fail
  refine (Few5.out _).mono ?_
  rintro e y1 ⟨rfl, qs⟩
  clear b1_0 b1_1 b1_2
  have HB1 := Lib.hid (HB1.out.q qs)
  have HR1 := Lib.hid (HR1.out.q qs)
  have HRk := Lib.hid (HRk.out.q qs)
  have Hq := Lib.hid (Hq.out.trans qs)
  clear qs
  have b1_0 := HB1.out.c0
  have b1_1 := HB1.out.c1
  have b1_2 := HB1.out.c2
  have Rt5 := Lib.hid (right5_any R c A D E F _ k1 _ k2 _ k3 _ k4 y1 rfl rfl rfl rfl HR1.out HRk.out HfM.out)
  clear Few5
  cases hrt : (clB R c.V && rightB c)
  · rw [hrt] at Rt5
    go_wp2_with (go_at_call 10; refine Rt5.out.mono ?_; rintro e y ⟨rfl, qs⟩)
    go_ret
    exact ⟨rfl, Hq.out.trans qs⟩
  rw [hrt] at Rt5
  obtain ⟨hr1, hr2⟩ := (Bool.and_eq_true _ _).mp hrt
  have HC := Lib.hid (cl_of hr1)
  have HRt := Lib.hid hr2
  clear hrt hr1 hr2
  go_wp2_with fail
  refine (Rt5.out).mono ?_
  rintro e y2 ⟨rfl, qs⟩
  clear b1_0 b1_1 b1_2
  have HB1 := Lib.hid (HB1.out.q qs)
  have HR1 := Lib.hid (HR1.out.q qs)
  have HRk := Lib.hid (HRk.out.q qs)
  have Hq := Lib.hid (Hq.out.trans qs)
  clear qs
  have b1_0 := HB1.out.c0
  have b1_1 := HB1.out.c1
  have b1_2 := HB1.out.c2
  clear Rt5
  by_cases ha : 0 ≤ a ∧ a < c.V.length
  case neg =>
    have hd : (decide (0 ≤ a) && decide (a < (c.V.length : Int))) = false := by
      by_cases e : 0 ≤ a
      · rw [decide_eq_false (fun k => ha ⟨e, k⟩), Bool.and_false]
      · rw [decide_eq_false e]; rfl
    clear ha
    go_wp2_with fail
    refine (there_any _ _ _ _ _ _ _).mono ?_
    rintro e y ⟨rfl, qs⟩
    rw [hd]
    go_wp2_with fail
    go_ret
    exact ⟨rfl, Hq.out.trans qs⟩
  obtain ⟨a, rfl⟩ := Int.eq_ofNat_of_zero_le ha.1
  have hal : a < c.V.length := by omega
  have hda : (decide (0 ≤ (a : Int)) && decide ((a : Int) < (c.V.length : Int))) = true := by rw [decide_eq_true ha.1, decide_eq_true ha.2]; rfl
  clear ha
  go_wp2_with fail
  refine (there_any _ _ _ _ _ _ _).mono ?_
  rintro e y3 ⟨rfl, qs⟩
  rw [hda]
  clear b1_0 b1_1 b1_2
  have HB1 := Lib.hid (HB1.out.q qs)
  have HR1 := Lib.hid (HR1.out.q qs)
  have HRk := Lib.hid (HRk.out.q qs)
  have Hq := Lib.hid (Hq.out.trans qs)
  clear qs
  have b1_0 := HB1.out.c0
  have b1_1 := HB1.out.c1
  have b1_2 := HB1.out.c2
  clear hda
  go_upto_region 5 with (go_at_call 18; refine (add_any c _ _ _ _ _ _ _ _ _ _ rfl rfl rfl HR1.out HfM.out).mono ?_; rintro e w5 ⟨A_5, k_5, D_5, l_5, E_5, m_5, rfl, hO5⟩; have HO5 := Lib.hid hO5; clear hO5)
  have HX : Hid (Cl R (growC c (c.V.length : Int)).V) := HC.out.add
  have HfX : Hid ((growC c (c.V.length : Int)).V.length ≤ 1000000) := by simp [growC, Hid]; omega
  have hXl : (growC c (c.V.length : Int)).V.length = c.V.length + 1 := by simp [growC]
  have HXn : Hid (fst (growC c (c.V.length : Int)).V c.V.length = c.V.length) := HC.out.fst_new
  have HXa : Hid (fst (growC c (c.V.length : Int)).V a = fst c.V a) := HC.out.fst_add a hal
  have HXc : Hid (classL (growC c (c.V.length : Int)).V c.V.length = [(c.V.length : Int)]) := class_new HC.out
  have HXd : Hid (classL (growC c (c.V.length : Int)).V a = classL c.V a) := class_add HC.out hal
  have HXf : Hid ((firstsL (growC c (c.V.length : Int)).V).length = (firstsL c.V).length + 1) := firsts_add HC.out
  clear b1_0 b1_1 b1_2
  have qb := (HO5.out.q).trans ((Q.refl w5).alloc (.cells #[.slice A_5 (growC c (c.V.length : Int)).V.length k_5, .slice D_5 (growC c (c.V.length : Int)).N.length l_5, .slice E_5 (growC c (c.V.length : Int)).M.length m_5] 25))
  have HB1 := Lib.hid (HB1.out.q qb)
  have HR1 := Lib.hid (HR1.out.q qb)
  have HRk := Lib.hid (HRk.out.q qb)
  have Hq := Lib.hid (Hq.out.trans qb)
  have HB2 := Lib.hid (Box3.new w5 (.slice A_5 (growC c (c.V.length : Int)).V.length k_5) (.slice D_5 (growC c (c.V.length : Int)).N.length l_5) (.slice E_5 (growC c (c.V.length : Int)).M.length m_5) 25)
  have HR2 := Lib.hid (HO5.out.rd.q ((Q.refl w5).alloc (.cells #[.slice A_5 (growC c (c.V.length : Int)).V.length k_5, .slice D_5 (growC c (c.V.length : Int)).N.length l_5, .slice E_5 (growC c (c.V.length : Int)).M.length m_5] 25)))
  clear qb
  generalize w5.alloc (.cells #[.slice A_5 (growC c (c.V.length : Int)).V.length k_5, .slice D_5 (growC c (c.V.length : Int)).N.length l_5, .slice E_5 (growC c (c.V.length : Int)).M.length m_5] 25) = W5 at *
  generalize w5.heap.size = B5 at *
  have HXl := Lib.hid hXl
  rw [hXl] at HB2
  clear hXl HO5
  have b1_0 := HB1.out.c0
  have b1_1 := HB1.out.c1
  have b1_2 := HB1.out.c2
  have b2_0 := HB2.out.c0
  have b2_1 := HB2.out.c1
  have b2_2 := HB2.out.c2
  have hne : (((c.V.length + 1 : Nat) : Int) != (c.V.length : Int) + 1) = false := by simp
  have CC := Lib.hid (class_any R (growC c (c.V.length : Int)) c.V.length A_5 D_5 E_5 (c.V.length + 1) k_5 _ l_5 _ m_5 W5 HXl.out.symm rfl rfl HR2.out HX.out (by rw [HXl.out]; omega) HfX.out)
  rw [HXc.out] at CC
  go_wp2_with fail
  refine CC.out.mono ?_
  rintro e y9 ⟨A9, k9, rfl, hk9, hr9, qs⟩
  have Hr9 := Lib.hid hr9
  clear hr9
  clear b1_0 b1_1 b1_2 b2_0 b2_1 b2_2
  have HB1 := Lib.hid (HB1.out.q qs)
  have HR1 := Lib.hid (HR1.out.q qs)
  have HB2 := Lib.hid (HB2.out.q qs)
  have HR2 := Lib.hid (HR2.out.q qs)
  have HRk := Lib.hid (HRk.out.q qs)
  have Hq := Lib.hid (Hq.out.trans qs)
  clear qs
  have b1_0 := HB1.out.c0
  have b1_1 := HB1.out.c1
  have b1_2 := HB1.out.c2
  have b2_0 := HB2.out.c0
  have b2_1 := HB2.out.c1
  have b2_2 := HB2.out.c2
  obtain ⟨ad9, e9, hb9, c9⟩ := Hr9.out.int_at (k := 0) (by simp)
  have c9' : y9.cell? ad9 = some (.int .i64 (c.V.length : Int)) := by have := c9; simpa [Addr.add] using this
  have E9 := Lib.hid e9
  clear e9
  rw [E9.out]
  have C1 : Hid (∀ W, Q y9 W → Calls Try.prog 14 #[.agg #[.slice A_5 (c.V.length + 1) k_5, .slice D_5 (growC c (c.V.length : Int)).N.length l_5, .slice E_5 (growC c (c.V.length : Int)).M.length m_5], .int .i64 (c.V.length : Int)] W fun e W' => e = .returned (.int .i64 (c.V.length : Int)) ∧ Q W W') := fun W q => by have := find_any R _ c.V.length A_5 D_5 E_5 (c.V.length + 1) k_5 _ l_5 _ m_5 W HXl.out.symm rfl rfl (HR2.out.q q) HX.out (by rw [HXl.out]; omega) HfX.out; rwa [HXn.out] at this
  have C2 : Hid (∀ W, Q y9 W → Calls Try.prog 14 #[.agg #[.slice A_5 (c.V.length + 1) k_5, .slice D_5 (growC c (c.V.length : Int)).N.length l_5, .slice E_5 (growC c (c.V.length : Int)).M.length m_5], .int .i64 (a : Int)] W fun e W' => e = .returned (.int .i64 (fst c.V a : Int)) ∧ Q W W') := fun W q => by have := find_any R _ a A_5 D_5 E_5 (c.V.length + 1) k_5 _ l_5 _ m_5 W HXl.out.symm rfl rfl (HR2.out.q q) HX.out (by rw [HXl.out]; omega) HfX.out; rwa [HXa.out] at this
  have C3 : Hid (∀ W, Q y9 W → Calls Try.prog 14 #[.agg #[.slice A c.V.length k1, .slice D c.N.length k2, .slice E c.M.length k3], .int .i64 (a : Int)] W fun e W' => e = .returned (.int .i64 (fst c.V a : Int)) ∧ Q W W') := fun W q => find_any R c a A D E _ k1 _ k2 _ k3 W rfl rfl rfl (HR1.out.q q) HC.out hal HfM.out.1
  have C4 : Hid (∀ W, Q y9 W → Calls Try.prog 17 #[.agg #[.slice A_5 (c.V.length + 1) k_5, .slice D_5 (growC c (c.V.length : Int)).N.length l_5, .slice E_5 (growC c (c.V.length : Int)).M.length m_5], .int .i64 (a : Int)] W (RowPost (classL c.V a) W)) := fun W q => by have := class_any R _ a A_5 D_5 E_5 (c.V.length + 1) k_5 _ l_5 _ m_5 W HXl.out.symm rfl rfl (HR2.out.q q) HX.out (by rw [HXl.out]; omega) HfX.out; rwa [HXd.out] at this
  have C5 : Hid (∀ W, Q y9 W → Calls Try.prog 17 #[.agg #[.slice A c.V.length k1, .slice D c.N.length k2, .slice E c.M.length k3], .int .i64 (a : Int)] W (RowPost (classL c.V a) W)) := fun W q => class_any R c a A D E _ k1 _ k2 _ k3 W rfl rfl rfl (HR1.out.q q) HC.out hal HfM.out.1
  have C7 : Hid (∀ W, Q y9 W → Calls Try.prog 16 #[.agg #[.slice A_5 (c.V.length + 1) k_5, .slice D_5 (growC c (c.V.length : Int)).N.length l_5, .slice E_5 (growC c (c.V.length : Int)).M.length m_5]] W fun e w' => ∃ A k, e = .returned (.slice A ((firstsL c.V).length + 1) k) ∧ Q W w') := fun W q => (firsts_any R _ A_5 D_5 E_5 (c.V.length + 1) k_5 _ l_5 _ m_5 W HXl.out.symm rfl rfl (HR2.out.q q) HX.out HfX.out).mono (by rintro e w' ⟨A, k, rfl, _, _, q⟩; exact ⟨A, k, by rw [HXf.out], q⟩)
  have C8 : Hid (∀ W, Q y9 W → Calls Try.prog 16 #[.agg #[.slice A c.V.length k1, .slice D c.N.length k2, .slice E c.M.length k3]] W fun e w' => ∃ A k, e = .returned (.slice A (firstsL c.V).length k) ∧ Q W w') := fun W q => (firsts_any R c A D E _ k1 _ k2 _ k3 W rfl rfl rfl (HR1.out.q q) HC.out HfM.out.1).mono (by rintro e w' ⟨A, k, rfl, _, _, q⟩; exact ⟨A, k, rfl, q⟩)
  have hfl : (firstsL c.V).length ≤ 500 := Nat.le_trans (those_len _ _) fv
  have hcl : (classL c.V a).length ≤ 1000000 := Nat.le_trans (those_len _ _) (by omega)
  have hfe : ((((firstsL c.V).length + 1 : Nat) : Int) == ((firstsL c.V).length : Int) + 1) = true := by simp
  have hwr : IntKind.i64.wrap (((firstsL c.V).length : Int) + 1) = ((firstsL c.V).length : Int) + 1 := IntWalk.i64_in _ (by omega)
  have hfe2 : (((firstsL c.V).length : Int) + 1 == ((firstsL c.V).length : Int) + 1) = true := by simp
  go_wp2_with fail
  have HK : Hid (∀ w', Q y9 w' → w'.cell? ⟨B5, 0, none⟩ = some (.slice A_5 (c.V.length + 1) k_5) ∧ w'.cell? ⟨B5, 1, none⟩ = some (.slice D_5 (growC c (c.V.length : Int)).N.length l_5) ∧ w'.cell? ⟨B5, 2, none⟩ = some (.slice E_5 (growC c (c.V.length : Int)).M.length m_5) ∧ w'.cell? ⟨w.heap.size, 0, none⟩ = some (.slice A c.V.length k1) ∧ w'.cell? ⟨w.heap.size, 1, none⟩ = some (.slice D c.N.length k2) ∧ w'.cell? ⟨w.heap.size, 2, none⟩ = some (.slice E c.M.length k3) ∧ w'.cell? ad9 = some (.int .i64 (c.V.length : Int)) ∧ w'.cell? (ad9.add 0) = some (.int .i64 (c.V.length : Int))) := fun w' q => ⟨(q.cell (p := ⟨B5, 0, none⟩) HB2.out.lt).trans b2_0, (q.cell (p := ⟨B5, 1, none⟩) HB2.out.lt).trans b2_1, (q.cell (p := ⟨B5, 2, none⟩) HB2.out.lt).trans b2_2, (q.cell (p := ⟨w.heap.size, 0, none⟩) HB1.out.lt).trans b1_0, (q.cell (p := ⟨w.heap.size, 1, none⟩) HB1.out.lt).trans b1_1, (q.cell (p := ⟨w.heap.size, 2, none⟩) HB1.out.lt).trans b1_2, (q.cell (p := ad9) hb9).trans c9', (q.cell (p := ad9.add 0) (by rw [add_block]; exact hb9)).trans c9⟩
  go_region_held3 (fun w' => w'.cell? ⟨B5, 0, none⟩ = some (.slice A_5 (c.V.length + 1) k_5) ∧ w'.cell? ⟨B5, 1, none⟩ = some (.slice D_5 (growC c (c.V.length : Int)).N.length l_5) ∧ w'.cell? ⟨B5, 2, none⟩ = some (.slice E_5 (growC c (c.V.length : Int)).M.length m_5) ∧ w'.cell? ⟨w.heap.size, 0, none⟩ = some (.slice A c.V.length k1) ∧ w'.cell? ⟨w.heap.size, 1, none⟩ = some (.slice D c.N.length k2) ∧ w'.cell? ⟨w.heap.size, 2, none⟩ = some (.slice E c.M.length k3) ∧ w'.cell? ad9 = some (.int .i64 (c.V.length : Int)) ∧ w'.cell? (ad9.add 0) = some (.int .i64 (c.V.length : Int)))
    (first
      | go_keep
      | exact HK.out _ p8
      | exact HK.out _ p7
      | exact HK.out _ p6
      | exact HK.out _ p5
      | exact HK.out _ p4
      | exact HK.out _ p3
      | exact HK.out _ p2
      | exact HK.out _ p1
      | exact HK.out _ (Q.refl y9)
      | exact HK.out _ (Q.refl y9).drew)
    (first
      | (go_at_call 14; (with_reducible refine (C1.out _ (Q.refl y9).drew).mono ?_); rintro e z1 ⟨rfl, qs1⟩; have p1 : Q y9 z1 := ((Q.refl y9).drew).trans qs1)
      | (go_at_call 14; (with_reducible refine (C2.out _ p1).mono ?_); rintro e z2 ⟨rfl, qs2⟩; have p2 : Q y9 z2 := (p1).trans qs2)
      | (go_at_call 14; (with_reducible refine (C3.out _ p2).mono ?_); rintro e z3 ⟨rfl, qs3⟩; have p3 : Q y9 z3 := (p2).trans qs3)
      | (go_at_call 17; (with_reducible refine (C4.out _ p3).mono ?_); rintro e z4 ⟨A14, k14, rfl, hk14, hr14, qs4⟩; have p4 : Q y9 z4 := (p3).trans qs4)
      | (go_at_call 17; (with_reducible refine (C5.out _ p4).mono ?_); rintro e z5 ⟨A15, k15, rfl, hk15, hr15, qs5⟩; have p5 : Q y9 z5 := (p4).trans qs5; have r14 := hr14.q qs5)
      | (go_at_call 13; (with_reducible refine (ints_same A14 A15 _ k14 _ k15 _ z5 rfl rfl r14 hr15 hcl).mono ?_); rintro e z6 ⟨rfl, hd6⟩; have qs6 := q_drewN _ hd6; have p6 : Q y9 z6 := (p5).trans qs6)
      | (go_at_call 16; (with_reducible refine (C7.out _ p6).mono ?_); rintro e z7 ⟨A17, k17, rfl, qs7⟩; have p7 : Q y9 z7 := (p6).trans qs7)
      | (go_at_call 16; (with_reducible refine (C8.out _ p7).mono ?_); rintro e z8 ⟨A18, k18, rfl, qs8⟩; have p8 : Q y9 z8 := (p7).trans qs8))
  all_goals
    go_wp2_with fail
    go_ret
    exact ⟨rfl, Hq.out.trans p8⟩

set_option maxRecDepth 100000 in
theorem lifted (os : Os) (started : os.Started) (H : Type) (enc : TypeId × Value → H) :
    ReturnsInHanded {} Try.checked os 7 .any (Rows.ufAddsSpec.pre6 enc Try.prog Try.f7 Rows.ufAddsRow.domain false) (Rows.ufAddsSpec.post enc Try.prog Try.f7 false true false false) := by
  refine returnsInHanded_of_change_sized (C := Try.checked) own started (by kernel_rfl) Try.func7
    (ChangeSpec.witness6 (enc := enc) (C := Try.checked) false ⟨#[], #[.agg #[.slice none 0 0, .slice none 0 0, .slice none 0 0], .slice none 0 0, .int .i64 0], []⟩ 8 (by kernel_rfl) (by kernel_rfl) (by kernel_rfl) (by kernel_rfl)) ?_
  intro W base args ds gs before hval0 hW hcnd hsz0 _
  have hval : ∀ (j : Nat) t v, Try.f7.params[j]? = some t → args[j]? = some v → Value.okWide Try.prog W .any base t v := hval0
  have hW' := hW
  obtain ⟨p, q, hA0, hV, rfl, hfz, hnd⟩ := hW
  have hA : DataW.TrodAll enc Try.prog W 0 (fun _ => true) true Try.f7.params.toList args.toList ds p := hA0
  rw [Try.params7] at hA hval
  obtain ⟨v0, vs0, d0, ds0, p0, q0, hargs, rfl, rfl, h0, r0⟩ := trodAll_cons hA
  obtain ⟨v1, vs1, d1, ds1, p1, q1, rfl, rfl, rfl, h1, r1⟩ := trodAll_cons r0
  obtain ⟨v2, vs2, d2, ds2, p2, q2, rfl, rfl, rfl, h2, r2⟩ := trodAll_cons r1
  obtain ⟨rfl, rfl, rfl⟩ := trodAll_nil r2
  obtain rfl : args = #[v0, v1, v2] := by cases args; simp_all
  obtain ⟨rfl, rfl⟩ := trodVars_none hV
  have z0 : ∀ n ∈ d0.weights Try.prog 25, n ≤ reachBytes := fun n hn => by
    have := List.all_eq_true.1 hsz0 n (DataW.weights_mem_each (j := 0) (t := 25) (d := d0) (by rw [Try.params7]; rfl) rfl n hn)
    simpa using this
  have z1 : ∀ n ∈ d1.weights Try.prog 22, n ≤ reachBytes := fun n hn => by
    have := List.all_eq_true.1 hsz0 n (DataW.weights_mem_each (j := 1) (t := 22) (d := d1) (by rw [Try.params7]; rfl) rfl n hn)
    simpa using this
  have _z2 : ∀ n ∈ d2.weights Try.prog 3, n ≤ reachBytes := fun n hn => by
    have := List.all_eq_true.1 hsz0 n (DataW.weights_mem_each (j := 2) (t := 3) (d := d2) (by rw [Try.params7]; rfl) rfl n hn)
    simpa using this
  obtain ⟨c, A, n1, k1, D, n2, k2, E, n3, k3, rfl, e1, e2, e3, h, hw⟩ := open_cells (hval 0 25 v0 rfl rfl) h0 z0
  obtain ⟨F, n4, k4, R, rfl, e4, hR⟩ := open_ranks (hval 1 22 v1 rfl rfl) h1 z1
  obtain ⟨a, rfl, _⟩ := open_int Try.underlying3 (hval 2 3 v2 rfl rfl) h2
  clear hA0 hval0
  refine (walk c R A D E F n1 k1 n2 k2 n3 k3 n4 k4 a W e1 e2 e3 e4 h hR hw).mono fun e W' ⟨he, hg⟩ => ?_
  subst he
  exact ⟨_, rfl, post_law laid (by rw [Try.params7]; decide +kernel) rfl rfl (by kernel_rfl) Try.underlying4 hW' hg⟩

/-- THE STATEMENT -/
theorem proved : Rows.UfAddsSaid :=
  OpenClaim.holds_of_wide 7 Try.f7 rfl rfl rfl rfl rfl rfl rfl ⟨rfl, rfl, rfl, rfl, rfl⟩ rfl rfl rfl rfl rfl (by kernel_rfl) Try.func7 (by kernel_rfl)
    (of_decide_eq_true (by kernel_rfl)) (by unfold Func.isWrapper; first | (rw [if_pos (by decide +kernel)]; kernel_rfl) | (rw [if_neg (by decide +kernel)]; exact ⟨rfl, rfl⟩))
    (fun os started H enc _ => lifted os started H enc)
end Go.Proofs.Ytodmompfnlcjpaa.ufAdds
