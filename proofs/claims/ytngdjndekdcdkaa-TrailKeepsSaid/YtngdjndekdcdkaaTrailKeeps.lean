/-
  TrailKeeps: a mark that is kept lets all stay, and what was ahead can be taken back with it. Proved for all cells and numbers: no condition.
-/
import Derived.Test.YtngdjndekdcdkaaTrailO
import Derived.Test.YtngdjndekdcdkaaRows
namespace Go.Proofs.Ytngdjndekdcdkaa.trailKeeps
open Go.ChangeShapes Go.WideShapes Go.RowKit Kit Go.Deep Go.Joins Tr

set_option maxRecDepth 100000 in
set_option maxHeartbeats 4000000 in
theorem walk (c : Cells) (A D E : Option Addr) (n1 k1 n2 k2 n3 k3 : Nat) (v : Int) (w : World) (h1 : n1 = c.V.length) (h2 : n2 = c.N.length) (h3 : n3 = c.M.length) (h : Rd w c A k1 D k2 E k3) (hw : Few c 1152921504606846976) :
    Calls Try.prog 7 #[.agg #[.slice A n1 k1, .slice D n2 k2, .slice E n3 k3], .int .i64 v] w fun e w' => e = .returned (.bool true) ∧ Q w w' := by
  subst h1 h2 h3
  have q0 := (Q.refl w).alloc (Obj.cells #[Value.slice A c.V.length k1, Value.slice D c.N.length k2, Value.slice E c.M.length k3] 44)
  have HB1 := Lib.hid (Box3.new w (Value.slice A c.V.length k1) (Value.slice D c.N.length k2) (Value.slice E c.M.length k3) 44)
  have HR1 := Lib.hid (h.q q0)
  obtain ⟨l1, l2, l3⟩ := hw
  have Hl := Lib.hid (⟨l1, l2, l3⟩ : c.V.length ≤ 1152921504606846976 ∧ c.N.length ≤ 1152921504606846976 ∧ c.M.length ≤ 1152921504606846976)
  clear h l1 l2 l3
  go_enter Try.func7, Try.ntmps7
  go_upto_region 1 with fail
  generalize w.alloc (Obj.cells #[Value.slice A c.V.length k1, Value.slice D c.N.length k2, Value.slice E c.M.length k3] 44) = W0 at *
  go_upto_region 2 with (go_at_call 17; refine (shown_any _).mono ?_; rintro e w1 ⟨rfl, q1⟩)
  have Hq := Lib.hid (q0.trans q1)
  have HB1 := Lib.hid (HB1.out.q q1)
  have HR1 := Lib.hid (HR1.out.q q1)
  have b1_0 := HB1.out.c0
  have b1_1 := HB1.out.c1
  have b1_2 := HB1.out.c2
  clear q0 q1
  cases hfw : fewB c
  · go_wp2_with (go_at_call 18; refine (few_any c _ _ _ _ _ _ _ _ _ _ rfl rfl rfl (by have := Hl.out; omega) (by have := Hl.out; omega) (by have := Hl.out; omega)).mono ?_; rintro e w2 ⟨rfl, q2⟩; rw [hfw])
    go_ret
    exact ⟨rfl, Hq.out.trans q2⟩
  have Hf := Lib.hid (few_500 hfw)
  have hfM : Few c 1000000 := few_more Hf.out (by omega)
  obtain ⟨fv, fn, fm⟩ := Hf.out
  have HfM := Lib.hid hfM
  clear hfM
  go_wp2_with fail
  refine (few_any c _ _ _ _ _ _ _ _ _ _ rfl rfl rfl (by omega) (by omega) (by omega)).mono ?_
  rintro e w2 ⟨rfl, q2⟩
  rw [hfw]
  clear b1_0 b1_1 b1_2 hfw
  have HB1 := Lib.hid (HB1.out.q q2)
  have HR1 := Lib.hid (HR1.out.q q2)
  have Hq := Lib.hid (Hq.out.trans q2)
  have b1_0 := HB1.out.c0
  have b1_1 := HB1.out.c1
  have b1_2 := HB1.out.c2
  clear q2
  go_wp2_with fail
  refine (refRight_any c _ _ _ _ _ _ _ _ _ _ rfl rfl rfl HR1.out HfM.out).mono ?_
  rintro e w3 ⟨rfl, q3⟩
  cases hrt : rightB c
  · go_wp2_with fail
    go_ret
    exact ⟨rfl, Hq.out.trans q3⟩
  have HRt := Lib.hid hrt
  clear b1_0 b1_1 b1_2 hrt
  have HB1 := Lib.hid (HB1.out.q q3)
  have HR1 := Lib.hid (HR1.out.q q3)
  have Hq := Lib.hid (Hq.out.trans q3)
  clear q3
  have b1_0 := HB1.out.c0
  have b1_1 := HB1.out.c1
  have b1_2 := HB1.out.c2
  have HfK : Hid (Few (markC c) 1000000) := few_mark Hf.out (by omega)
  have HfG : Hid (Few (growC (markC c) v) 1000000) := few_grow v (few_mark Hf.out (Nat.le_refl _)) (by omega)
  have HfH : Hid (Few (markC (growC (markC c) v)) 1000000) := few_mark (few_grow v (few_mark Hf.out (Nat.le_refl _)) (Nat.le_refl _)) (by omega)
  go_upto_region 5 with (first | (go_at_call 22; refine (grow_any (markC (growC (markC c) v)) _ _ _ _ _ _ _ _ _ _ _ rfl rfl rfl HO6.out.rd HfH.out).mono ?_; rintro e w7 ⟨g1_7, k1_7, g2_7, k2_7, g3_7, k3_7, rfl, hO7⟩; have HO7 := Lib.hid hO7; clear hO7) | (go_at_call 20; refine (mark_any (growC (markC c) v) _ _ _ _ _ _ _ _ _ _ rfl rfl rfl HO5.out.rd HfG.out).mono ?_; rintro e w6 ⟨g1_6, k1_6, g2_6, k2_6, g3_6, k3_6, rfl, hO6⟩; have HO6 := Lib.hid hO6; clear hO6) | (go_at_call 22; refine (grow_any (markC c) v _ _ _ _ _ _ _ _ _ _ rfl rfl rfl HO4.out.rd HfK.out).mono ?_; rintro e w5 ⟨g1_5, k1_5, g2_5, k2_5, g3_5, k3_5, rfl, hO5⟩; have HO5 := Lib.hid hO5; clear hO5) | (go_at_call 20; refine (mark_any c _ _ _ _ _ _ _ _ _ _ rfl rfl rfl HR1.out HfM.out).mono ?_; rintro e w4 ⟨g1_4, k1_4, g2_4, k2_4, g3_4, k3_4, rfl, hO4⟩; have HO4 := Lib.hid hO4; clear hO4))
  obtain ⟨X, hX⟩ : ∃ X, X = growC (markC (growC (markC c) v)) (wrap64 (v + 1)) := ⟨_, rfl⟩
  rw [← hX] at HO7 ⊢
  have HX := Lib.hid hX
  clear hX
  clear b1_0 b1_1 b1_2
  have qb := ((((HO4.out.q).trans HO5.out.q).trans HO6.out.q).trans HO7.out.q).trans ((Q.refl w7).alloc (.cells #[.slice (some ⟨g1_7, 0, none⟩) (X).V.length k1_7, .slice (some ⟨g2_7, 0, none⟩) (X).N.length k2_7, .slice (some ⟨g3_7, 0, none⟩) (X).M.length k3_7] 44))
  have HB1 := Lib.hid (HB1.out.q qb)
  have HR1 := Lib.hid (HR1.out.q qb)
  have Hq := Lib.hid (Hq.out.trans qb)
  have HB6 := Lib.hid (Box3.new w7 (.slice (some ⟨g1_7, 0, none⟩) (X).V.length k1_7) (.slice (some ⟨g2_7, 0, none⟩) (X).N.length k2_7) (.slice (some ⟨g3_7, 0, none⟩) (X).M.length k3_7) 44)
  have HR6 := Lib.hid (HO7.out.rd.q ((Q.refl w7).alloc (.cells #[.slice (some ⟨g1_7, 0, none⟩) (X).V.length k1_7, .slice (some ⟨g2_7, 0, none⟩) (X).N.length k2_7, .slice (some ⟨g3_7, 0, none⟩) (X).M.length k3_7] 44)))
  clear qb HO4 HO5 HO6 HO7
  generalize w7.alloc (.cells #[.slice (some ⟨g1_7, 0, none⟩) (X).V.length k1_7, .slice (some ⟨g2_7, 0, none⟩) (X).N.length k2_7, .slice (some ⟨g3_7, 0, none⟩) (X).M.length k3_7] 44) = W7 at *
  generalize w7.heap.size = B7 at *
  have b6_0 := HB6.out.c0
  have b6_1 := HB6.out.c1
  have b6_2 := HB6.out.c2
  have HfX : Hid (Few X 1000000) := by rw [HX.out]; exact few_grow _ (few_mark (few_grow v (few_mark Hf.out (Nat.le_refl _)) (Nat.le_refl _)) (Nat.le_refl _)) (by omega)
  have hXM : 0 < X.M.length := by rw [HX.out]; simp [growC, markC]
  have HfY : Hid (Few (keepC X) 1000000) := ⟨HfX.out.1, HfX.out.2.1, by have := HfX.out.2.2; show (X.M.take _).length ≤ _; rw [List.length_take]; omega⟩
  go_upto_region 6 with (go_at_call 24; refine (keep_some X _ _ _ _ _ _ _ _ _ _ rfl rfl rfl HR6.out HfX.out hXM).mono ?_; rintro e w8 ⟨g1_8, k1_8, g2_8, k2_8, g3_8, k3_8, rfl, hO8⟩; have HO8 := Lib.hid hO8; clear hO8)
  clear b6_0 b6_1 b6_2
  have qb := (HO8.out.q).trans ((Q.refl w8).alloc (.cells #[.slice (some ⟨g1_8, 0, none⟩) (keepC X).V.length k1_8, .slice (some ⟨g2_8, 0, none⟩) (keepC X).N.length k2_8, .slice (some ⟨g3_8, 0, none⟩) (keepC X).M.length k3_8] 44))
  have HB1 := Lib.hid (HB1.out.q qb)
  have HR1 := Lib.hid (HR1.out.q qb)
  have HB6 := Lib.hid (HB6.out.q qb)
  have HR6 := Lib.hid (HR6.out.q qb)
  have Hq := Lib.hid (Hq.out.trans qb)
  have HB7 := Lib.hid (Box3.new w8 (.slice (some ⟨g1_8, 0, none⟩) (keepC X).V.length k1_8) (.slice (some ⟨g2_8, 0, none⟩) (keepC X).N.length k2_8) (.slice (some ⟨g3_8, 0, none⟩) (keepC X).M.length k3_8) 44)
  have HR7 := Lib.hid (HO8.out.rd.q ((Q.refl w8).alloc (.cells #[.slice (some ⟨g1_8, 0, none⟩) (keepC X).V.length k1_8, .slice (some ⟨g2_8, 0, none⟩) (keepC X).N.length k2_8, .slice (some ⟨g3_8, 0, none⟩) (keepC X).M.length k3_8] 44)))
  clear qb HO8
  generalize w8.alloc (.cells #[.slice (some ⟨g1_8, 0, none⟩) (keepC X).V.length k1_8, .slice (some ⟨g2_8, 0, none⟩) (keepC X).N.length k2_8, .slice (some ⟨g3_8, 0, none⟩) (keepC X).M.length k3_8] 44) = W8 at *
  generalize w8.heap.size = B8 at *
  have b7_0 := HB7.out.c0
  have b7_1 := HB7.out.c1
  have b7_2 := HB7.out.c2
  have hMl : (keepC X).M[(keepC X).M.length - 1]? = some ((c.N.length : Nat) : Int) := by rw [HX.out]; simp [keepC, growC, markC, List.take_append]
  have hNl : c.N.length ≤ (keepC X).N.length := by rw [HX.out]; simp [keepC, growC, markC]; try omega
  have hVl : backR ((keepC X).N.drop c.N.length).reverse (keepC X).V = some c.V := by rw [HX.out]; simp [keepC, growC, markC, backR, back1, List.take_take]
  have HC : Hid (backC (keepC X) c.N.length c.V = c) := by unfold Hid; rw [HX.out]; simp [backC, keepC, growC, markC, List.take_append]; rw [List.take_of_length_le (Nat.le_succ _)]
  have Hbk := Lib.hid (fun (A D E : Option Addr) (k1 k2 k3 : Nat) (w : World) (h : Rd w (keepC X) A k1 D k2 E k3) => back_some (keepC X) c.N.length c.V A D E _ k1 _ k2 _ k3 w rfl rfl rfl h HfY.out hMl hNl hVl)
  rw [HC.out] at Hbk
  clear hMl hNl hVl
  go_upto_region 7 with (go_at_call 23; refine (Hbk.out _ _ _ _ _ _ _ HR7.out).mono ?_; rintro e w9 ⟨g1_9, k1_9, g2_9, k2_9, g3_9, k3_9, rfl, hO9⟩; have HO9 := Lib.hid hO9; clear hO9)
  clear b7_0 b7_1 b7_2
  have qb := (HO9.out.q).trans ((Q.refl w9).alloc (.cells #[.slice (some ⟨g1_9, 0, none⟩) (c).V.length k1_9, .slice (some ⟨g2_9, 0, none⟩) (c).N.length k2_9, .slice (some ⟨g3_9, 0, none⟩) (c).M.length k3_9] 44))
  have HB1 := Lib.hid (HB1.out.q qb)
  have HR1 := Lib.hid (HR1.out.q qb)
  have HB6 := Lib.hid (HB6.out.q qb)
  have HR6 := Lib.hid (HR6.out.q qb)
  have HB7 := Lib.hid (HB7.out.q qb)
  have HR7 := Lib.hid (HR7.out.q qb)
  have Hq := Lib.hid (Hq.out.trans qb)
  have HB9 := Lib.hid (Box3.new w9 (.slice (some ⟨g1_9, 0, none⟩) (c).V.length k1_9) (.slice (some ⟨g2_9, 0, none⟩) (c).N.length k2_9) (.slice (some ⟨g3_9, 0, none⟩) (c).M.length k3_9) 44)
  have HR9 := Lib.hid (HO9.out.rd.q ((Q.refl w9).alloc (.cells #[.slice (some ⟨g1_9, 0, none⟩) (c).V.length k1_9, .slice (some ⟨g2_9, 0, none⟩) (c).N.length k2_9, .slice (some ⟨g3_9, 0, none⟩) (c).M.length k3_9] 44)))
  clear qb HO9
  generalize w9.alloc (.cells #[.slice (some ⟨g1_9, 0, none⟩) (c).V.length k1_9, .slice (some ⟨g2_9, 0, none⟩) (c).N.length k2_9, .slice (some ⟨g3_9, 0, none⟩) (c).M.length k3_9] 44) = W9 at *
  generalize w9.heap.size = B9 at *
  have b1_0 := HB1.out.c0
  have b1_1 := HB1.out.c1
  have b1_2 := HB1.out.c2
  have b6_0 := HB6.out.c0
  have b6_1 := HB6.out.c1
  have b6_2 := HB6.out.c2
  have b7_0 := HB7.out.c0
  have b7_1 := HB7.out.c1
  have b7_2 := HB7.out.c2
  have b9_0 := HB9.out.c0
  have b9_1 := HB9.out.c1
  have b9_2 := HB9.out.c2
  have t1 : (((keepC X).V.length : Int) == (X.V.length : Int)) = true := beq_self_eq_true _
  have t1n : ((keepC X).V.length == X.V.length) = true := beq_self_eq_true _
  have t2 : (((keepC X).N.length : Int) == (X.N.length : Int)) = true := beq_self_eq_true _
  have t2n : ((keepC X).N.length == X.N.length) = true := beq_self_eq_true _
  have hkl : (keepC X).M.length = X.M.length - 1 := by show (X.M.take _).length = _; rw [List.length_take]; omega
  have t3 : (((keepC X).M.length : Int) == (X.M.length : Int) - 1) = true := by rw [hkl]; simp; omega
  have hxm : X.M.length ≤ 1000000 := HfX.out.2.2
  clear hkl
  go_wp2_with fail
  refine (same_any c _ _ _ _ _ _ _ _ _ _ _ _ _ _ _ _ _ _ _ rfl rfl rfl rfl rfl rfl HR9.out HR1.out HfM.out).mono ?_
  rintro e y1 ⟨rfl, qs⟩
  clear b1_0 b1_1 b1_2 b6_0 b6_1 b6_2 b7_0 b7_1 b7_2 b9_0 b9_1 b9_2
  have HB1 := Lib.hid (HB1.out.q qs)
  have HR1 := Lib.hid (HR1.out.q qs)
  have HB6 := Lib.hid (HB6.out.q qs)
  have HR6 := Lib.hid (HR6.out.q qs)
  have HB7 := Lib.hid (HB7.out.q qs)
  have HR7 := Lib.hid (HR7.out.q qs)
  have HB9 := Lib.hid (HB9.out.q qs)
  have HR9 := Lib.hid (HR9.out.q qs)
  have Hq := Lib.hid (Hq.out.trans qs)
  clear qs
  go_wp2_with fail
  go_ret
  exact ⟨rfl, Hq.out⟩

set_option maxRecDepth 100000 in
theorem lifted (os : Os) (started : os.Started) (H : Type) (enc : TypeId × Value → H) :
    ReturnsInHanded {} Try.checked os 7 .any (Rows.trailKeepsSpec.pre6 enc Try.prog Try.f7 Rows.trailKeepsRow.domain false) (Rows.trailKeepsSpec.post enc Try.prog Try.f7 false true false false) := by
  refine returnsInHanded_of_change_sized (C := Try.checked) own started (by kernel_rfl) Try.func7
    (ChangeSpec.witness6 (enc := enc) (C := Try.checked) false ⟨#[], #[.agg #[.slice none 0 0, .slice none 0 0, .slice none 0 0], .int .i64 0], []⟩ 8 (by kernel_rfl) (by kernel_rfl) (by kernel_rfl) (by kernel_rfl)) ?_
  intro W base args ds gs before hval0 hW hcnd hsz0 _
  have hval : ∀ (j : Nat) t v, Try.f7.params[j]? = some t → args[j]? = some v → Value.okWide Try.prog W .any base t v := hval0
  have hW' := hW
  obtain ⟨p, q, hA0, hV, rfl, hfz, hnd⟩ := hW
  have hA : DataW.TrodAll enc Try.prog W 0 (fun _ => true) true Try.f7.params.toList args.toList ds p := hA0
  rw [Try.params7] at hA hval
  obtain ⟨v0, vs0, d0, ds0, p0, q0, hargs, rfl, rfl, h0, r0⟩ := trodAll_cons hA
  obtain ⟨v1, vs1, d1, ds1, p1, q1, rfl, rfl, rfl, h1, r1⟩ := trodAll_cons r0
  obtain ⟨rfl, rfl, rfl⟩ := trodAll_nil r1
  obtain rfl : args = #[v0, v1] := by cases args; simp_all
  obtain ⟨rfl, rfl⟩ := trodVars_none hV
  have z0 : ∀ n ∈ d0.weights Try.prog 44, n ≤ reachBytes := fun n hn => by
    have := List.all_eq_true.1 hsz0 n (DataW.weights_mem_each (j := 0) (t := 44) (d := d0) (by rw [Try.params7]; rfl) rfl n hn)
    simpa using this
  have _z1 : ∀ n ∈ d1.weights Try.prog 3, n ≤ reachBytes := fun n hn => by
    have := List.all_eq_true.1 hsz0 n (DataW.weights_mem_each (j := 1) (t := 3) (d := d1) (by rw [Try.params7]; rfl) rfl n hn)
    simpa using this
  obtain ⟨c, A, n1, k1, D, n2, k2, E, n3, k3, rfl, e1, e2, e3, h, hw⟩ := open_cells (hval 0 44 v0 rfl rfl) h0 z0
  obtain ⟨v, rfl, _⟩ := open_int Try.underlying3 (hval 1 3 v1 rfl rfl) h1
  clear hA0 hval0
  refine (walk c A D E n1 k1 n2 k2 n3 k3 v W e1 e2 e3 h hw).mono fun e W' ⟨he, hg⟩ => ?_
  subst he
  exact ⟨_, rfl, post_law laid (by rw [Try.params7]; decide +kernel) rfl rfl (by kernel_rfl) Try.underlying4 hW' hg⟩

/-- THE STATEMENT -/
theorem proved : Rows.TrailKeepsSaid :=
  OpenClaim.holds_of_wide 7 Try.f7 rfl rfl rfl rfl rfl rfl rfl ⟨rfl, rfl, rfl, rfl, rfl⟩ rfl rfl rfl rfl rfl (by kernel_rfl) Try.func7 (by kernel_rfl)
    (of_decide_eq_true (by kernel_rfl)) (by unfold Func.isWrapper; first | (rw [if_pos (by decide +kernel)]; kernel_rfl) | (rw [if_neg (by decide +kernel)]; exact ⟨rfl, rfl⟩))
    (fun os started H enc _ => lifted os started H enc)
end Go.Proofs.Ytngdjndekdcdkaa.trailKeeps
