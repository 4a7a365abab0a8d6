/-
  UfParts: classes are parts: each number is in the class of its first one, which is one of the first ones; there are as many classes as these. Proved for all cells and ranks: no condition.
-/
import Derived.Test.YtodmompfnlcjpaaUfI
import Derived.Test.YtodmompfnlcjpaaTrailO
import Derived.Test.YtodmompfnlcjpaaRows
import Derived.Test.YtodmompfnlcjpaaUfK
import Derived.Test.YtodmompfnlcjpaaUfM
import Derived.Test.YtodmompfnlcjpaaKitStep
namespace Go.Proofs.Ytodmompfnlcjpaa.ufParts
open Go.ChangeShapes Go.WideShapes Go.RowKit Kit Go.Deep Go.Joins Tr Uf

set_option maxRecDepth 100000 in
set_option maxHeartbeats 8000000 in
theorem walk (c : Cells) (R : List Int) (A D E F : Option Addr) (n1 k1 n2 k2 n3 k3 n4 k4 : Nat) (w : World) (h1 : n1 = c.V.length) (h2 : n2 = c.N.length) (h3 : n3 = c.M.length) (h4 : n4 = R.length) (h : Rd w c A k1 D k2 E k3) (hR : Rds w w.heap.size F (cellsI R)) (hw : Few c 1152921504606846976) :
    Calls Try.prog 4 #[.agg #[.slice A n1 k1, .slice D n2 k2, .slice E n3 k3], .slice F n4 k4] w fun e w' => e = .returned (.bool true) ∧ Q w w' := by
  subst h1 h2 h3 h4
  have q0 := (Q.refl w).alloc (Obj.cells #[Value.slice A c.V.length k1, Value.slice D c.N.length k2, Value.slice E c.M.length k3] 25)
  have HB1 := Lib.hid (Box3.new w (Value.slice A c.V.length k1) (Value.slice D c.N.length k2) (Value.slice E c.M.length k3) 25)
  have HR1 := Lib.hid (h.q q0)
  have HRk := Lib.hid (hR.q q0)
  have Hl := Lib.hid hw
  clear h hR hw
  go_enter Try.func4, Try.ntmps4
  go_upto_region 1 with fail
  generalize w.alloc (Obj.cells #[Value.slice A c.V.length k1, Value.slice D c.N.length k2, Value.slice E c.M.length k3] 25) = W0 at *
  have Hq := Lib.hid q0
  clear q0
  go_upto_region 2 with (go_at_call 8; refine (shown_any _).mono ?_; rintro e y0 ⟨rfl, qs⟩)
  have HB1 := Lib.hid (HB1.out.q qs)
  have HR1 := Lib.hid (HR1.out.q qs)
  have HRk := Lib.hid (HRk.out.q qs)
  have Hq := Lib.hid (Hq.out.trans qs)
  clear qs
  have b1_0 := HB1.out.c0
  have b1_1 := HB1.out.c1
  have b1_2 := HB1.out.c2
  have few5 := fun (W : World) => few5_any c R A D E F c.V.length k1 c.N.length k2 c.M.length k3 R.length k4 W rfl rfl rfl rfl (by have := Hl.out.1; omega) (by have := Hl.out.2.1; omega) (by have := Hl.out.2.2; omega)
  have Few5 := Lib.hid few5
  clear few5
  cases hfw : (fewB c && decide (R.length ≤ 200))
  · rw [hfw] at Few5
    go_wp2_with (go_at_call 9; refine (Few5.out _).mono ?_; rintro e y ⟨rfl, qs⟩)
    go_ret
    exact ⟨rfl, Hq.out.trans qs⟩
  rw [hfw] at Few5
  obtain ⟨hf1, hf2⟩ := (Bool.and_eq_true _ _).mp hfw
  have Hf := Lib.hid (few_500 hf1)
  have HfM : Hid (Few c 1000000) := few_more Hf.out (by omega)
  have hRl : R.length ≤ 200 := of_decide_eq_true hf2
  have fv : c.V.length ≤ 500 := Hf.out.1
  clear hfw hf1 hf2
  go_wp2_with fail
  refine (Few5.out _).mono ?_
  rintro e y1 ⟨rfl, qs⟩
  clear b1_0 b1_1 b1_2
  have HB1 := Lib.hid (HB1.out.q qs)
  have HR1 := Lib.hid (HR1.out.q qs)
  have HRk := Lib.hid (HRk.out.q qs)
  have Hq := Lib.hid (Hq.out.trans qs)
  clear qs
  have b1_0 := HB1.out.c0
  have b1_1 := HB1.out.c1
  have b1_2 := HB1.out.c2
  have Rt5 := Lib.hid (right5_any R c A D E F _ k1 _ k2 _ k3 _ k4 y1 rfl rfl rfl rfl HR1.out HRk.out HfM.out)
  clear Few5
  cases hrt : (clB R c.V && rightB c)
  · rw [hrt] at Rt5
    go_wp2_with (go_at_call 10; refine Rt5.out.mono ?_; rintro e y ⟨rfl, qs⟩)
    go_ret
    exact ⟨rfl, Hq.out.trans qs⟩
  rw [hrt] at Rt5
  obtain ⟨hr1, hr2⟩ := (Bool.and_eq_true _ _).mp hrt
  have HC := Lib.hid (cl_of hr1)
  have HRt := Lib.hid hr2
  clear hrt hr1 hr2
  go_wp2_with fail
  refine (Rt5.out).mono ?_
  rintro e y2 ⟨rfl, qs⟩
  clear b1_0 b1_1 b1_2
  have HB1 := Lib.hid (HB1.out.q qs)
  have HR1 := Lib.hid (HR1.out.q qs)
  have HRk := Lib.hid (HRk.out.q qs)
  have Hq := Lib.hid (Hq.out.trans qs)
  clear qs
  have b1_0 := HB1.out.c0
  have b1_1 := HB1.out.c1
  have b1_2 := HB1.out.c2
  clear Rt5
  have HCl := Lib.hid (fun (f : Nat) (hf : f < c.V.length) (W : World) (h : Rd W c A k1 D k2 E k3) => class_any R c f A D E _ k1 _ k2 _ k3 W rfl rfl rfl h HC.out hf HfM.out.1)
  have HFi := Lib.hid (fun (f : Nat) (hf : f < c.V.length) (W : World) (h : Rd W c A k1 D k2 E k3) => find_any R c f A D E _ k1 _ k2 _ k3 W rfl rfl rfl h HC.out hf HfM.out.1)
  have C4 := Lib.hid (fun (W : World) (h : Rd W c A k1 D k2 E k3) => firsts_any R c A D E _ k1 _ k2 _ k3 W rfl rfl rfl h HC.out HfM.out.1)
  go_wp2_with fail
  refine (C4.out _ HR1.out).mono ?_
  rintro e y3 ⟨A6, k6, rfl, hk6, hr6, qs⟩
  have HF6 := Lib.hid hr6
  have HLf : Hid ((firstsL c.V).length = (firstsN c.V).length) := those_len2 _ _
  rw [HLf.out]
  clear hr6 hk6 C4
  clear b1_0 b1_1 b1_2
  have HB1 := Lib.hid (HB1.out.q qs)
  have HR1 := Lib.hid (HR1.out.q qs)
  have HRk := Lib.hid (HRk.out.q qs)
  have Hq := Lib.hid (Hq.out.trans qs)
  clear qs
  have b1_0 := HB1.out.c0
  have b1_1 := HB1.out.c1
  have b1_2 := HB1.out.c2
  go_wp2_with fail
  go_loopw [7, 8] (fun mm i wr => ∃ (k : Nat) (m : Int), k ≤ (firstsN c.V).length ∧ i = .int .i64 k ∧ mm = .int .i64 (many c.V k : Int) ∧ Hid (Q y3 wr)) (fun _ i _ => (firstsN c.V).length - (intOf i).toNat)
  case atStart => exact ⟨0, 0, Nat.zero_le _, rfl, rfl, Lib.hid (Q.refl _)⟩
  case round =>
    clear b1_0 b1_1 b1_2
    obtain ⟨k, _, hk, rfl, rfl, HQ⟩ := hrel
    have HBr := Lib.hid (HB1.out.q HQ.out)
    have HRr := Lib.hid (HR1.out.q HQ.out)
    by_cases hlt : k < (firstsN c.V).length
    · obtain ⟨ad, ea, hbr, cf⟩ := (HF6.out.q HQ.out).int_at (k := k) (by rw [HLf.out]; exact hlt)
      have ef : (firstsL c.V)[k]'(by rw [HLf.out]; exact hlt) = ((firstsN c.V)[k] : Int) := those_at hlt
      rw [ef] at cf
      obtain ⟨hfl, hff⟩ := firsts_in HC.out hlt
      have HMs := Lib.hid (many_succ hlt)
      have Hprev : ∀ j, k = j + 1 → ∃ f0 : Nat, wr.cell? (ad.add j) = some (.int .i64 (f0 : Int)) ∧ f0 < (firstsN c.V)[k] := by
        rintro j rfl
        have hj : j < (firstsN c.V).length := by omega
        obtain ⟨ad', ea', _, cg⟩ := (HF6.out.q HQ.out).int_at (k := j) (by rw [HLf.out]; exact hj)
        rw [ea] at ea'
        injection ea' with ea'
        subst ea'
        rw [show (firstsL c.V)[j]'(by rw [HLf.out]; exact hj) = ((firstsN c.V)[j] : Int) from those_at hj] at cg
        exact ⟨_, cg, firsts_rise hlt⟩
      obtain ⟨f, hfe⟩ : ∃ f, f = (firstsN c.V)[k] := ⟨_, rfl⟩
      rw [← hfe] at cf hfl hff HMs Hprev
      have HLt := Lib.hid hlt
      have EA := Lib.hid ea
      have Hff := Lib.hid hff
      clear ef hfe ea hff
      rw [EA.out]
      have b_0 := HBr.out.c0
      have b_1 := HBr.out.c1
      have b_2 := HBr.out.c2
      have hdf : (decide (0 ≤ (f : Int)) && decide ((f : Int) < (c.V.length : Int))) = true := by rw [decide_eq_true (show (0 : Int) ≤ (f : Int) by omega), decide_eq_true (show (f : Int) < (c.V.length : Int) by omega)]; rfl
      have Tf := Lib.hid (fun (W : World) => there_any c.V.length (.slice D c.N.length k2) (.slice E c.M.length k3) A k1 (f : Int) W)
      rw [hdf] at Tf
      have hk0 : (0 : Int) ≤ (k : Int) := Int.natCast_nonneg _
      have hk1 : (k : Int) < ((firstsN c.V).length : Int) := by omega
      have hfn : (firstsN c.V).length ≤ 500 := by rw [← HLf.out]; exact Nat.le_trans (those_len _ _) fv
      clear hdf
      rcases k with _ | j
      · clear Hprev
        have cf : wr.cell? ad = some (.int .i64 (f : Int)) := by have := cf; simpa [Addr.add] using this
        have HK9 : Hid (∀ w', Q wr w' → w'.cell? ⟨w.heap.size, 0, none⟩ = some (.slice A c.V.length k1) ∧ w'.cell? ⟨w.heap.size, 1, none⟩ = some (.slice D c.N.length k2) ∧ w'.cell? ⟨w.heap.size, 2, none⟩ = some (.slice E c.M.length k3) ∧ w'.cell? ad = some (.int .i64 (f : Int))) := fun w' q => ⟨(HBr.out.q q).c0, (HBr.out.q q).c1, (HBr.out.q q).c2, (q.cell (p := ad) hbr).trans cf⟩

        have hj1 : (0 : Int) < ((firstsN c.V).length : Int) := by omega
        go_wp2_with fail
        refine wp_region_held_drew (S := (fun w' => w'.cell? ⟨w.heap.size, 0, none⟩ = some (.slice A c.V.length k1) ∧ w'.cell? ⟨w.heap.size, 1, none⟩ = some (.slice D c.N.length k2) ∧ w'.cell? ⟨w.heap.size, 2, none⟩ = some (.slice E c.M.length k3) ∧ w'.cell? ad = some (.int .i64 (f : Int)))) (by kernel_rfl) ?_ (fun hHeld => ?_)
        · exact HK9.out _ (Q.refl wr).drew
        refine take_w (i := 0) (d := some 31) (v := ?_) rfl (by kernel_rfl) (by kernel_rfl) (by kernel_rfl) (fun _ _ _ h => h) rfl (by rfl) ?_ (by assumption) ?_
        rotate_left
        · (intro w hSw; (try dsimp only at hSw); go_simp; (try with_reducible rfl))
        try simp only [Act.put, List.setIfInBounds_toArray, List.set_cons_zero, List.set_cons_succ]
        refine take_w (i := 1) (d := some 32) (v := ?_) rfl (by kernel_rfl) (by kernel_rfl) (by kernel_rfl) (fun _ _ _ h => h) rfl (by rfl) ?_ (by assumption) ?_
        rotate_left
        · (intro w hSw; (try dsimp only at hSw); go_simp; (try with_reducible rfl))
        try simp only [Act.put, List.setIfInBounds_toArray, List.set_cons_zero, List.set_cons_succ]
        refine take_w (i := 2) (d := some 33) (v := ?_) rfl (by kernel_rfl) (by kernel_rfl) (by kernel_rfl) (fun _ _ _ h => h) rfl (by rfl) ?_ (by assumption) ?_
        rotate_left
        · (intro w hSw; (try dsimp only at hSw); go_simp; (try with_reducible rfl))
        try simp only [Act.put, List.setIfInBounds_toArray, List.set_cons_zero, List.set_cons_succ]
        refine take_w (i := 3) (d := some 34) (v := ?_) rfl (by kernel_rfl) (by kernel_rfl) (by kernel_rfl) (fun _ _ _ h => h) rfl (by rfl) ?_ (by assumption) ?_
        rotate_left
        · (intro w hSw; (try dsimp only at hSw); go_simp; (try with_reducible rfl))
        try simp only [Act.put, List.setIfInBounds_toArray, List.set_cons_zero, List.set_cons_succ]
        refine take_w (i := 4) (d := some 35) (v := ?_) rfl (by kernel_rfl) (by kernel_rfl) (by kernel_rfl) (fun _ _ _ h => h) rfl (by rfl) ?_ (by assumption) ?_
        rotate_left
        · (intro w hSw; (try dsimp only at hSw); go_simp; (try with_reducible rfl))
        try simp only [Act.put, List.setIfInBounds_toArray, List.set_cons_zero, List.set_cons_succ]
        refine call_w (i := 5) rfl (by kernel_rfl) (by rfl) (fun K hK => ?_)
        go_simp
        go_at_call 11
        refine (Tf.out _).mono ?_
        rintro e z1 ⟨rfl, qs1⟩
        have p9 : Q wr z1 := (Q.refl wr).drew.trans qs1
        refine hK.out _ _ ?_ (fun hHeld => ?_)
        · exact HK9.out _ p9
        clear hK K
        try simp only [Act.put, List.setIfInBounds_toArray, List.set_cons_zero, List.set_cons_succ]
        refine take_w (i := 6) (d := some 37) (v := ?_) rfl (by kernel_rfl) (by kernel_rfl) (by kernel_rfl) (fun _ _ _ h => h) rfl (by rfl) ?_ (by assumption) ?_
        rotate_left
        · (intro w hSw; (try dsimp only at hSw); go_simp; (try with_reducible rfl))
        try simp only [Act.put, List.setIfInBounds_toArray, List.set_cons_zero, List.set_cons_succ]
        refine take_w (i := 7) (d := some 38) (v := ?_) rfl (by kernel_rfl) (by kernel_rfl) (by kernel_rfl) (fun _ _ _ h => h) rfl (by rfl) ?_ (by assumption) ?_
        rotate_left
        · (intro w hSw; (try dsimp only at hSw); go_simp; (try with_reducible rfl))
        try simp only [Act.put, List.setIfInBounds_toArray, List.set_cons_zero, List.set_cons_succ]
        refine take_w (i := 8) (d := some 39) (v := ?_) rfl (by kernel_rfl) (by kernel_rfl) (by kernel_rfl) (fun _ _ _ h => h) rfl (by rfl) ?_ (by assumption) ?_
        rotate_left
        · (intro w hSw; (try dsimp only at hSw); go_simp; (try with_reducible rfl))
        try simp only [Act.put, List.setIfInBounds_toArray, List.set_cons_zero, List.set_cons_succ]
        refine take_w (i := 9) (d := some 40) (v := ?_) rfl (by kernel_rfl) (by kernel_rfl) (by kernel_rfl) (fun _ _ _ h => h) rfl (by rfl) ?_ (by assumption) ?_
        rotate_left
        · (intro w hSw; (try dsimp only at hSw); go_simp; (try with_reducible rfl))
        try simp only [Act.put, List.setIfInBounds_toArray, List.set_cons_zero, List.set_cons_succ]
        refine take_w (i := 10) (d := some 41) (v := ?_) rfl (by kernel_rfl) (by kernel_rfl) (by kernel_rfl) (fun _ _ _ h => h) rfl (by rfl) ?_ (by assumption) ?_
        rotate_left
        · (intro w hSw; (try dsimp only at hSw); go_simp; (try with_reducible rfl))
        try simp only [Act.put, List.setIfInBounds_toArray, List.set_cons_zero, List.set_cons_succ]
        refine take_u (i := 11) (d := some 42) rfl (by kernel_rfl) (by kernel_rfl) (by kernel_rfl) (fun _ _ _ h => h) rfl (by rfl) (by assumption) ?_
        try simp only [Act.put, List.setIfInBounds_toArray, List.set_cons_zero, List.set_cons_succ]
        refine take_u (i := 12) (d := some 43) rfl (by kernel_rfl) (by kernel_rfl) (by kernel_rfl) (fun _ _ _ h => h) rfl (by rfl) (by assumption) ?_
        try simp only [Act.put, List.setIfInBounds_toArray, List.set_cons_zero, List.set_cons_succ]
        refine take_u (i := 13) (d := some 44) rfl (by kernel_rfl) (by kernel_rfl) (by kernel_rfl) (fun _ _ _ h => h) rfl (by rfl) (by assumption) ?_
        try simp only [Act.put, List.setIfInBounds_toArray, List.set_cons_zero, List.set_cons_succ]
        refine take_u (i := 14) (d := some 45) rfl (by kernel_rfl) (by kernel_rfl) (by kernel_rfl) (fun _ _ _ h => h) rfl (by rfl) (by assumption) ?_
        try simp only [Act.put, List.setIfInBounds_toArray, List.set_cons_zero, List.set_cons_succ]
        refine take_u (i := 15) (d := some 46) rfl (by kernel_rfl) (by kernel_rfl) (by kernel_rfl) (fun _ _ _ h => h) rfl (by rfl) (by assumption) ?_
        try simp only [Act.put, List.setIfInBounds_toArray, List.set_cons_zero, List.set_cons_succ]
        refine take_u (i := 16) (d := some 47) rfl (by kernel_rfl) (by kernel_rfl) (by kernel_rfl) (fun _ _ _ h => h) rfl (by rfl) (by assumption) ?_
        try simp only [Act.put, List.setIfInBounds_toArray, List.set_cons_zero, List.set_cons_succ]
        refine take_u (i := 17) (d := some 48) rfl (by kernel_rfl) (by kernel_rfl) (by kernel_rfl) (fun _ _ _ h => h) rfl (by rfl) (by assumption) ?_
        try simp only [Act.put, List.setIfInBounds_toArray, List.set_cons_zero, List.set_cons_succ]
        refine take_u (i := 18) (d := some 49) rfl (by kernel_rfl) (by kernel_rfl) (by kernel_rfl) (fun _ _ _ h => h) rfl (by rfl) (by assumption) ?_
        try simp only [Act.put, List.setIfInBounds_toArray, List.set_cons_zero, List.set_cons_succ]
        refine take_u (i := 19) (d := some 50) rfl (by kernel_rfl) (by kernel_rfl) (by kernel_rfl) (fun _ _ _ h => h) rfl (by rfl) (by assumption) ?_
        try simp only [Act.put, List.setIfInBounds_toArray, List.set_cons_zero, List.set_cons_succ]
        refine take_u (i := 20) (d := some 51) rfl (by kernel_rfl) (by kernel_rfl) (by kernel_rfl) (fun _ _ _ h => h) rfl (by rfl) (by assumption) ?_
        try simp only [Act.put, List.setIfInBounds_toArray, List.set_cons_zero, List.set_cons_succ]
        refine take_w (i := 21) (d := some 52) (v := ?_) rfl (by kernel_rfl) (by kernel_rfl) (by kernel_rfl) (fun _ _ _ h => h) rfl (by rfl) ?_ (by assumption) ?_
        rotate_left
        · (intro w hSw; (try dsimp only at hSw); go_simp; (try with_reducible rfl))
        try simp only [Act.put, List.setIfInBounds_toArray, List.set_cons_zero, List.set_cons_succ]
        refine take_w (i := 22) (d := some 53) (v := ?_) rfl (by kernel_rfl) (by kernel_rfl) (by kernel_rfl) (fun _ _ _ h => h) rfl (by rfl) ?_ (by assumption) ?_
        rotate_left
        · (intro w hSw; (try dsimp only at hSw); go_simp; (try with_reducible rfl))
        try simp only [Act.put, List.setIfInBounds_toArray, List.set_cons_zero, List.set_cons_succ]
        refine wpAnyH_done (by kernel_rfl) ?_ _

        clear HK9 b_0 b_1 b_2
        have HB9 := Lib.hid (HBr.out.q p9)
        have HR9 := Lib.hid (HRr.out.q p9)
        have cf9 := (p9.cell (p := ad) hbr).trans cf
        have hb9 : ad.block < z1.heap.size := Nat.lt_of_lt_of_le hbr p9.size
        have HQ9 := Lib.hid (HQ.out.trans p9)
        have HK11 : Hid (∀ w', Q z1 w' → w'.cell? ⟨w.heap.size, 0, none⟩ = some (.slice A c.V.length k1) ∧ w'.cell? ⟨w.heap.size, 1, none⟩ = some (.slice D c.N.length k2) ∧ w'.cell? ⟨w.heap.size, 2, none⟩ = some (.slice E c.M.length k3) ∧ w'.cell? ad = some (.int .i64 (f : Int))) := fun w' q => ⟨(HB9.out.q q).c0, (HB9.out.q q).c1, (HB9.out.q q).c2, (q.cell (p := ad) hb9).trans cf9⟩
        have b9_0 := HB9.out.c0
        have b9_1 := HB9.out.c1
        have b9_2 := HB9.out.c2
        go_wp2_with fail
        go_region_held3 (fun w' => w'.cell? ⟨w.heap.size, 0, none⟩ = some (.slice A c.V.length k1) ∧ w'.cell? ⟨w.heap.size, 1, none⟩ = some (.slice D c.N.length k2) ∧ w'.cell? ⟨w.heap.size, 2, none⟩ = some (.slice E c.M.length k3) ∧ w'.cell? ad = some (.int .i64 (f : Int)))
            (first
              | go_keep
              | exact HK11.out _ r1
              | exact HK11.out _ (Q.refl z1)
              | exact HK11.out _ (Q.refl z1).drew)
            (first
              | (go_at_call 17; (with_reducible refine (HCl.out f hfl _ (HR9.out.q ((Q.refl z1).drew))).mono ?_); rintro e v1 ⟨AC, kc, rfl, hkc, hrc, qt1⟩; have r1 : Q z1 v1 := ((Q.refl z1).drew).trans qt1))
        clear HK11 b9_0 b9_1 b9_2
        have HLc : Hid ((classL c.V f).length = (classN c.V f).length) := those_len2 _ _
        rw [HLc.out]
        have hcn : (classN c.V f).length ≤ 500 := by rw [← HLc.out]; exact Nat.le_trans (those_len _ _) fv
        have HRc := Lib.hid hrc
        have HBc := Lib.hid (HB9.out.q r1)
        have HQc := Lib.hid (HQ9.out.trans r1)
        have Hr1 := Lib.hid r1
        have cfc := (r1.cell (p := ad) hb9).trans cf9
        have hbc : ad.block < v1.heap.size := Nat.lt_of_lt_of_le hb9 r1.size
        clear hrc HB9 cf9 r1 qt1
        go_wp2_with fail
        go_loopw [10] (fun x wr => ∃ q : Nat, q ≤ (classN c.V f).length ∧ x = .int .i64 q ∧ Hid (Q v1 wr)) (fun x _ => (classN c.V f).length - (intOf x).toNat)
        case atStart => exact ⟨0, Nat.zero_le _, rfl, Lib.hid (Q.refl _)⟩
        case round =>
          obtain ⟨q, hq, rfl, HQi⟩ := hrel
          by_cases hql : q < (classN c.V f).length
          · obtain ⟨adc, ec, hbq, cm⟩ := (HRc.out.q HQi.out).int_at (k := q) (by rw [HLc.out]; exact hql)
            have em : (classL c.V f)[q]'(by rw [HLc.out]; exact hql) = ((classN c.V f)[q] : Int) := those_at hql
            rw [em] at cm
            obtain ⟨hml, hmf⟩ := class_in hql
            obtain ⟨g, hg⟩ : ∃ g, g = (classN c.V f)[q] := ⟨_, rfl⟩
            rw [← hg] at cm hml hmf
            have EC := Lib.hid ec
            have Hmf : Hid (fst c.V g = f) := by unfold Hid; rw [hmf]; exact Hff.out
            clear em hg ec hmf
            rw [EC.out]
            have HBi := Lib.hid (HBc.out.q HQi.out)
            have HRi := Lib.hid ((HR9.out.q Hr1.out).q HQi.out)
            have cfi := (HQi.out.cell (p := ad) hbc).trans cfc
            have hbi : ad.block < wr.heap.size := Nat.lt_of_lt_of_le hbc HQi.out.size
            have i0 := HBi.out.c0
            have i1 := HBi.out.c1
            have i2 := HBi.out.c2
            have hdg : (decide (0 ≤ (g : Int)) && decide ((g : Int) < (c.V.length : Int))) = true := by rw [decide_eq_true (show (0 : Int) ≤ (g : Int) by omega), decide_eq_true (show (g : Int) < (c.V.length : Int) by omega)]; rfl
            have hne : ((f : Int) != (f : Int)) = false := by simp
            have hq0 : (0 : Int) ≤ (q : Int) := Int.natCast_nonneg _
            have hq1 : (q : Int) < ((classN c.V f).length : Int) := by omega
            have Ta := Lib.hid (fun (W : World) => there_any c.V.length (.slice D c.N.length k2) (.slice E c.M.length k3) A k1 (g : Int) W)
            rw [hdg] at Ta
            have Fg := Lib.hid (HFi.out g hml)
            rw [Hmf.out] at Fg
            clear hdg
            have HK15 : Hid (∀ w', Q wr w' → w'.cell? ⟨w.heap.size, 0, none⟩ = some (.slice A c.V.length k1) ∧ w'.cell? ⟨w.heap.size, 1, none⟩ = some (.slice D c.N.length k2) ∧ w'.cell? ⟨w.heap.size, 2, none⟩ = some (.slice E c.M.length k3) ∧ w'.cell? (adc.add q) = some (.int .i64 (g : Int)) ∧ w'.cell? ad = some (.int .i64 (f : Int))) := fun w' q' => ⟨(HBi.out.q q').c0, (HBi.out.q q').c1, (HBi.out.q q').c2, (q'.cell (p := adc.add q) (by rw [add_block]; exact hbq)).trans cm, (q'.cell (p := ad) hbi).trans cfi⟩
            go_wp2_with fail
            go_region_held3 (fun w' => w'.cell? ⟨w.heap.size, 0, none⟩ = some (.slice A c.V.length k1) ∧ w'.cell? ⟨w.heap.size, 1, none⟩ = some (.slice D c.N.length k2) ∧ w'.cell? ⟨w.heap.size, 2, none⟩ = some (.slice E c.M.length k3) ∧ w'.cell? (adc.add q) = some (.int .i64 (g : Int)) ∧ w'.cell? ad = some (.int .i64 (f : Int)))
              (first
                | go_keep
                | exact HK15.out _ s2
                | exact HK15.out _ s1
                | exact HK15.out _ (Q.refl wr)
                | exact HK15.out _ (Q.refl wr).drew)
              (first
                | (go_at_call 11; (with_reducible refine (Ta.out _).mono ?_); rintro e u1 ⟨rfl, qu1⟩; have s1 : Q wr u1 := ((Q.refl wr).drew).trans qu1)
                | (go_at_call 14; (with_reducible refine (Fg.out _ (HRi.out.q (s1))).mono ?_); rintro e u2 ⟨rfl, qu2⟩; have s2 : Q wr u2 := (s1).trans qu2))
            all_goals
              go_wp2_with fail
              go_roundw
            case rel => exact ⟨q + 1, by omega, by go_num, Lib.hid (HQi.out.trans s2)⟩
            case measure => simp [intOf]; omega
          · obtain rfl : q = (classN c.V f).length := by omega
            have hcl : many c.V 0 + (classN c.V f).length ≤ 500 := by rw [← HMs.out]; exact Nat.le_trans (many_le HC.out _) fv
            have hwr : IntKind.i64.wrap ((many c.V 0 : Int) + ((classN c.V f).length : Int)) = (many c.V 0 : Int) + ((classN c.V f).length : Int) := IntWalk.i64_in _ (by omega)
            go_wp2_with fail
            go_roundw
            case rel => exact ⟨0 + 1, 0, by have := HLt.out; omega, by go_num, by rw [HMs.out]; simp, Lib.hid (HQc.out.trans HQi.out)⟩
            case measure => have := HLt.out; simp [intOf]; omega

      · obtain ⟨f0, cg, hf0⟩ := Hprev j rfl
        have cf : wr.cell? ⟨ad.block, ad.off + (j + 1), none⟩ = some (.int .i64 (f : Int)) := by have := cf; simpa [Addr.add] using this
        have HK9 : Hid (∀ w', Q wr w' → w'.cell? ⟨w.heap.size, 0, none⟩ = some (.slice A c.V.length k1) ∧ w'.cell? ⟨w.heap.size, 1, none⟩ = some (.slice D c.N.length k2) ∧ w'.cell? ⟨w.heap.size, 2, none⟩ = some (.slice E c.M.length k3) ∧ w'.cell? ⟨ad.block, ad.off + (j + 1), none⟩ = some (.int .i64 (f : Int)) ∧ w'.cell? (ad.add j) = some (.int .i64 (f0 : Int))) := fun w' q => ⟨(HBr.out.q q).c0, (HBr.out.q q).c1, (HBr.out.q q).c2, (q.cell (p := ⟨ad.block, ad.off + (j + 1), none⟩) hbr).trans cf, (q.cell (p := ad.add j) (by rw [add_block]; exact hbr)).trans cg⟩

        have hj2 : ((j + 1 : Nat) : Int) - 1 = (j : Int) := by omega
        have hj3 : ((j : Int) + 1) - 1 = (j : Int) := by omega
        have hj4 : IntKind.i64.wrap ((j : Int) + 1 - 1) = (j : Int) := by rw [hj3]; exact IntWalk.i64_in _ (by omega)
        have hj5 : IntKind.i64.wrap (j : Int) = (j : Int) := IntWalk.i64_in _ (by omega)
        have hj6 : (j : Int) < ((firstsN c.V).length : Int) := by omega
        have hj7 : (0 : Int) ≤ (j : Int) := Int.natCast_nonneg _
        have hj8 : (0 : Int) ≤ (j : Int) + 1 := by omega
        have hj9 : (j : Int) + 1 < ((firstsN c.V).length : Int) := by omega
        have hge : decide ((f : Int) ≤ (f0 : Int)) = false := decide_eq_false (by omega)
        have hge2 : decide (f ≤ f0) = false := decide_eq_false (by omega)
        clear Hprev
        go_wp2_with fail
        go_region_held3 (fun w' => w'.cell? ⟨w.heap.size, 0, none⟩ = some (.slice A c.V.length k1) ∧ w'.cell? ⟨w.heap.size, 1, none⟩ = some (.slice D c.N.length k2) ∧ w'.cell? ⟨w.heap.size, 2, none⟩ = some (.slice E c.M.length k3) ∧ w'.cell? ⟨ad.block, ad.off + (j + 1), none⟩ = some (.int .i64 (f : Int)) ∧ w'.cell? (ad.add j) = some (.int .i64 (f0 : Int)))
          (first
            | go_keep
            | exact HK9.out _ p1
            | exact HK9.out _ (Q.refl wr)
            | exact HK9.out _ (Q.refl wr).drew)
          (first
            | (go_at_call 11; (with_reducible refine (Tf.out _).mono ?_); rintro e z1 ⟨rfl, qs1⟩; have p1 : Q wr z1 := ((Q.refl wr).drew).trans qs1))

        have p9 := p1
        clear HK9 b_0 b_1 b_2
        have HB9 := Lib.hid (HBr.out.q p9)
        have HR9 := Lib.hid (HRr.out.q p9)
        have cf9 := (p9.cell (p := ⟨ad.block, ad.off + (j + 1), none⟩) hbr).trans cf
        have hb9 : ad.block < z1.heap.size := Nat.lt_of_lt_of_le hbr p9.size
        have HQ9 := Lib.hid (HQ.out.trans p9)
        have HK11 : Hid (∀ w', Q z1 w' → w'.cell? ⟨w.heap.size, 0, none⟩ = some (.slice A c.V.length k1) ∧ w'.cell? ⟨w.heap.size, 1, none⟩ = some (.slice D c.N.length k2) ∧ w'.cell? ⟨w.heap.size, 2, none⟩ = some (.slice E c.M.length k3) ∧ w'.cell? ⟨ad.block, ad.off + (j + 1), none⟩ = some (.int .i64 (f : Int))) := fun w' q => ⟨(HB9.out.q q).c0, (HB9.out.q q).c1, (HB9.out.q q).c2, (q.cell (p := ⟨ad.block, ad.off + (j + 1), none⟩) hb9).trans cf9⟩
        have b9_0 := HB9.out.c0
        have b9_1 := HB9.out.c1
        have b9_2 := HB9.out.c2
        go_wp2_with fail
        go_region_held3 (fun w' => w'.cell? ⟨w.heap.size, 0, none⟩ = some (.slice A c.V.length k1) ∧ w'.cell? ⟨w.heap.size, 1, none⟩ = some (.slice D c.N.length k2) ∧ w'.cell? ⟨w.heap.size, 2, none⟩ = some (.slice E c.M.length k3) ∧ w'.cell? ⟨ad.block, ad.off + (j + 1), none⟩ = some (.int .i64 (f : Int)))
            (first
              | go_keep
              | exact HK11.out _ r1
              | exact HK11.out _ (Q.refl z1)
              | exact HK11.out _ (Q.refl z1).drew)
            (first
              | (go_at_call 17; (with_reducible refine (HCl.out f hfl _ (HR9.out.q ((Q.refl z1).drew))).mono ?_); rintro e v1 ⟨AC, kc, rfl, hkc, hrc, qt1⟩; have r1 : Q z1 v1 := ((Q.refl z1).drew).trans qt1))
        clear HK11 b9_0 b9_1 b9_2
        have HLc : Hid ((classL c.V f).length = (classN c.V f).length) := those_len2 _ _
        rw [HLc.out]
        have hcn : (classN c.V f).length ≤ 500 := by rw [← HLc.out]; exact Nat.le_trans (those_len _ _) fv
        have HRc := Lib.hid hrc
        have HBc := Lib.hid (HB9.out.q r1)
        have HQc := Lib.hid (HQ9.out.trans r1)
        have Hr1 := Lib.hid r1
        have cfc := (r1.cell (p := ⟨ad.block, ad.off + (j + 1), none⟩) hb9).trans cf9
        have hbc : ad.block < v1.heap.size := Nat.lt_of_lt_of_le hb9 r1.size
        clear hrc HB9 cf9 r1 qt1
        go_wp2_with fail
        go_loopw [10] (fun x wr => ∃ q : Nat, q ≤ (classN c.V f).length ∧ x = .int .i64 q ∧ Hid (Q v1 wr)) (fun x _ => (classN c.V f).length - (intOf x).toNat)
        case atStart => exact ⟨0, Nat.zero_le _, rfl, Lib.hid (Q.refl _)⟩
        case round =>
          obtain ⟨q, hq, rfl, HQi⟩ := hrel
          by_cases hql : q < (classN c.V f).length
          · obtain ⟨adc, ec, hbq, cm⟩ := (HRc.out.q HQi.out).int_at (k := q) (by rw [HLc.out]; exact hql)
            have em : (classL c.V f)[q]'(by rw [HLc.out]; exact hql) = ((classN c.V f)[q] : Int) := those_at hql
            rw [em] at cm
            obtain ⟨hml, hmf⟩ := class_in hql
            obtain ⟨g, hg⟩ : ∃ g, g = (classN c.V f)[q] := ⟨_, rfl⟩
            rw [← hg] at cm hml hmf
            have EC := Lib.hid ec
            have Hmf : Hid (fst c.V g = f) := by unfold Hid; rw [hmf]; exact Hff.out
            clear em hg ec hmf
            rw [EC.out]
            have HBi := Lib.hid (HBc.out.q HQi.out)
            have HRi := Lib.hid ((HR9.out.q Hr1.out).q HQi.out)
            have cfi := (HQi.out.cell (p := ⟨ad.block, ad.off + (j + 1), none⟩) hbc).trans cfc
            have hbi : ad.block < wr.heap.size := Nat.lt_of_lt_of_le hbc HQi.out.size
            have i0 := HBi.out.c0
            have i1 := HBi.out.c1
            have i2 := HBi.out.c2
            have hdg : (decide (0 ≤ (g : Int)) && decide ((g : Int) < (c.V.length : Int))) = true := by rw [decide_eq_true (show (0 : Int) ≤ (g : Int) by omega), decide_eq_true (show (g : Int) < (c.V.length : Int) by omega)]; rfl
            have hne : ((f : Int) != (f : Int)) = false := by simp
            have hq0 : (0 : Int) ≤ (q : Int) := Int.natCast_nonneg _
            have hq1 : (q : Int) < ((classN c.V f).length : Int) := by omega
            have Ta := Lib.hid (fun (W : World) => there_any c.V.length (.slice D c.N.length k2) (.slice E c.M.length k3) A k1 (g : Int) W)
            rw [hdg] at Ta
            have Fg := Lib.hid (HFi.out g hml)
            rw [Hmf.out] at Fg
            clear hdg
            have HK15 : Hid (∀ w', Q wr w' → w'.cell? ⟨w.heap.size, 0, none⟩ = some (.slice A c.V.length k1) ∧ w'.cell? ⟨w.heap.size, 1, none⟩ = some (.slice D c.N.length k2) ∧ w'.cell? ⟨w.heap.size, 2, none⟩ = some (.slice E c.M.length k3) ∧ w'.cell? (adc.add q) = some (.int .i64 (g : Int)) ∧ w'.cell? ⟨ad.block, ad.off + (j + 1), none⟩ = some (.int .i64 (f : Int))) := fun w' q' => ⟨(HBi.out.q q').c0, (HBi.out.q q').c1, (HBi.out.q q').c2, (q'.cell (p := adc.add q) (by rw [add_block]; exact hbq)).trans cm, (q'.cell (p := ⟨ad.block, ad.off + (j + 1), none⟩) hbi).trans cfi⟩
            go_wp2_with fail
            go_region_held3 (fun w' => w'.cell? ⟨w.heap.size, 0, none⟩ = some (.slice A c.V.length k1) ∧ w'.cell? ⟨w.heap.size, 1, none⟩ = some (.slice D c.N.length k2) ∧ w'.cell? ⟨w.heap.size, 2, none⟩ = some (.slice E c.M.length k3) ∧ w'.cell? (adc.add q) = some (.int .i64 (g : Int)) ∧ w'.cell? ⟨ad.block, ad.off + (j + 1), none⟩ = some (.int .i64 (f : Int)))
              (first
                | go_keep
                | exact HK15.out _ s2
                | exact HK15.out _ s1
                | exact HK15.out _ (Q.refl wr)
                | exact HK15.out _ (Q.refl wr).drew)
              (first
                | (go_at_call 11; (with_reducible refine (Ta.out _).mono ?_); rintro e u1 ⟨rfl, qu1⟩; have s1 : Q wr u1 := ((Q.refl wr).drew).trans qu1)
                | (go_at_call 14; (with_reducible refine (Fg.out _ (HRi.out.q (s1))).mono ?_); rintro e u2 ⟨rfl, qu2⟩; have s2 : Q wr u2 := (s1).trans qu2))
            all_goals
              go_wp2_with fail
              go_roundw
            case rel => exact ⟨q + 1, by omega, by go_num, Lib.hid (HQi.out.trans s2)⟩
            case measure => simp [intOf]; omega
          · obtain rfl : q = (classN c.V f).length := by omega
            have hcl : many c.V (j + 1) + (classN c.V f).length ≤ 500 := by rw [← HMs.out]; exact Nat.le_trans (many_le HC.out _) fv
            have hwr : IntKind.i64.wrap ((many c.V (j + 1) : Int) + ((classN c.V f).length : Int)) = (many c.V (j + 1) : Int) + ((classN c.V f).length : Int) := IntWalk.i64_in _ (by omega)
            go_wp2_with fail
            go_roundw
            case rel => exact ⟨(j + 1) + 1, 0, by have := HLt.out; omega, by go_num, by rw [HMs.out]; simp, Lib.hid (HQc.out.trans HQi.out)⟩
            case measure => have := HLt.out; simp [intOf]; omega

    · obtain rfl : k = (firstsN c.V).length := by omega
      have HMa : Hid (many c.V (firstsN c.V).length = c.V.length) := many_all HC.out
      rw [HMa.out]
      have b_0 := HBr.out.c0
      have hee : ((c.V.length : Int) == (c.V.length : Int)) = true := by simp
      go_wp2_with fail
      go_ret
      exact ⟨rfl, Hq.out.trans HQ.out⟩

set_option maxRecDepth 100000 in
theorem lifted (os : Os) (started : os.Started) (H : Type) (enc : TypeId × Value → H) :
    ReturnsInHanded {} Try.checked os 4 .any (Rows.ufPartsSpec.pre6 enc Try.prog Try.f4 Rows.ufPartsRow.domain false) (Rows.ufPartsSpec.post enc Try.prog Try.f4 false true false false) := by
  refine returnsInHanded_of_change_sized (C := Try.checked) own started (by kernel_rfl) Try.func4
    (ChangeSpec.witness6 (enc := enc) (C := Try.checked) false ⟨#[], #[.agg #[.slice none 0 0, .slice none 0 0, .slice none 0 0], .slice none 0 0], []⟩ 8 (by kernel_rfl) (by kernel_rfl) (by kernel_rfl) (by kernel_rfl)) ?_
  intro W base args ds gs before hval0 hW hcnd hsz0 _
  have hval : ∀ (j : Nat) t v, Try.f4.params[j]? = some t → args[j]? = some v → Value.okWide Try.prog W .any base t v := hval0
  have hW' := hW
  obtain ⟨p, q, hA0, hV, rfl, hfz, hnd⟩ := hW
  have hA : DataW.TrodAll enc Try.prog W 0 (fun _ => true) true Try.f4.params.toList args.toList ds p := hA0
  rw [Try.params4] at hA hval
  obtain ⟨v0, vs0, d0, ds0, p0, q0, hargs, rfl, rfl, h0, r0⟩ := trodAll_cons hA
  obtain ⟨v1, vs1, d1, ds1, p1, q1, rfl, rfl, rfl, h1, r1⟩ := trodAll_cons r0
  obtain ⟨rfl, rfl, rfl⟩ := trodAll_nil r1
  obtain rfl : args = #[v0, v1] := by cases args; simp_all
  obtain ⟨rfl, rfl⟩ := trodVars_none hV
  have z0 : ∀ n ∈ d0.weights Try.prog 25, n ≤ reachBytes := fun n hn => by
    have := List.all_eq_true.1 hsz0 n (DataW.weights_mem_each (j := 0) (t := 25) (d := d0) (by rw [Try.params4]; rfl) rfl n hn)
    simpa using this
  have z1 : ∀ n ∈ d1.weights Try.prog 22, n ≤ reachBytes := fun n hn => by
    have := List.all_eq_true.1 hsz0 n (DataW.weights_mem_each (j := 1) (t := 22) (d := d1) (by rw [Try.params4]; rfl) rfl n hn)
    simpa using this
  obtain ⟨c, A, n1, k1, D, n2, k2, E, n3, k3, rfl, e1, e2, e3, h, hw⟩ := open_cells (hval 0 25 v0 rfl rfl) h0 z0
  obtain ⟨F, n4, k4, R, rfl, e4, hR⟩ := open_ranks (hval 1 22 v1 rfl rfl) h1 z1
  clear hA0 hval0
  refine (walk c R A D E F n1 k1 n2 k2 n3 k3 n4 k4 W e1 e2 e3 e4 h hR hw).mono fun e W' ⟨he, hg⟩ => ?_
  subst he
  exact ⟨_, rfl, post_law laid (by rw [Try.params4]; decide +kernel) rfl rfl (by kernel_rfl) Try.underlying4 hW' hg⟩

/-- THE STATEMENT -/
theorem proved : Rows.UfPartsSaid :=
  OpenClaim.holds_of_wide 4 Try.f4 rfl rfl rfl rfl rfl rfl rfl ⟨rfl, rfl, rfl, rfl, rfl⟩ rfl rfl rfl rfl rfl (by kernel_rfl) Try.func4 (by kernel_rfl)
    (of_decide_eq_true (by kernel_rfl)) (by unfold Func.isWrapper; first | (rw [if_pos (by decide +kernel)]; kernel_rfl) | (rw [if_neg (by decide +kernel)]; exact ⟨rfl, rfl⟩))
    (fun os started H enc _ => lifted os started H enc)
end Go.Proofs.Ytodmompfnlcjpaa.ufParts
