/-
  TrailBacks: whatever is done behind a mark, by any script whose Backs and Keeps are of marks of its own, and all of which are taken back then: Back leaves cells as they were; what comes out meanwhile is right. Proved for all cells and scripts: no condition.
-/
import Derived.Test.YtngdjndekdcdkaaTrailO
import Derived.Test.YtngdjndekdcdkaaRows
import Derived.Test.YtngdjndekdcdkaaTrailP
import Derived.Test.YtngdjndekdcdkaaTrailAct
namespace Go.Proofs.Ytngdjndekdcdkaa.trailBacks
open Go.ChangeShapes Go.WideShapes Go.RowKit Kit Go.Deep Go.Joins Tr

set_option maxRecDepth 100000 in
set_option maxHeartbeats 4000000 in
theorem walk (c : Cells) (A D E : Option Addr) (n1 k1 n2 k2 n3 k3 : Nat) (S : Option Addr) (ns ks : Nat) (acts : List Stp) (w : World) (h1 : n1 = c.V.length) (h2 : n2 = c.N.length) (h3 : n3 = c.M.length) (h : Rd w c A k1 D k2 E k3) (hw : Few c 1152921504606846976) (hns : ns = acts.length) (hS : Rds w w.heap.size S (cellsS acts)) (hsl : acts.length ≤ 9223372036854775807) :
    Calls Try.prog 4 #[.agg #[.slice A n1 k1, .slice D n2 k2, .slice E n3 k3], .slice S ns ks] w fun e w' => e = .returned (.bool true) ∧ Q w w' := by
  subst h1 h2 h3 hns
  have HSw := Lib.hid hS
  have HRw := Lib.hid h
  clear hS
  have q0 := (Q.refl w).alloc (Obj.cells #[Value.slice A c.V.length k1, Value.slice D c.N.length k2, Value.slice E c.M.length k3] 44)
  have HB1 := Lib.hid (Box3.new w (Value.slice A c.V.length k1) (Value.slice D c.N.length k2) (Value.slice E c.M.length k3) 44)
  have HR1 := Lib.hid (h.q q0)
  obtain ⟨l1, l2, l3⟩ := hw
  have Hl := Lib.hid (⟨l1, l2, l3⟩ : c.V.length ≤ 1152921504606846976 ∧ c.N.length ≤ 1152921504606846976 ∧ c.M.length ≤ 1152921504606846976)
  clear h l1 l2 l3
  go_enter Try.func4, Try.ntmps4
  go_upto_region 1 with fail
  generalize w.alloc (Obj.cells #[Value.slice A c.V.length k1, Value.slice D c.N.length k2, Value.slice E c.M.length k3] 44) = W0 at *
  go_upto_region 2 with (go_at_call 17; refine (shown_any _).mono ?_; rintro e w1 ⟨rfl, q1⟩)
  have Hq := Lib.hid (q0.trans q1)
  have HB1 := Lib.hid (HB1.out.q q1)
  have HR1 := Lib.hid (HR1.out.q q1)
  have b1_0 := HB1.out.c0
  have b1_1 := HB1.out.c1
  have b1_2 := HB1.out.c2
  clear q0 q1
  cases hfw : fewB c
  · go_wp2_with (go_at_call 18; refine (few_any c _ _ _ _ _ _ _ _ _ _ rfl rfl rfl (by have := Hl.out; omega) (by have := Hl.out; omega) (by have := Hl.out; omega)).mono ?_; rintro e w2 ⟨rfl, q2⟩; rw [hfw])
    go_ret
    exact ⟨rfl, Hq.out.trans q2⟩
  have Hf := Lib.hid (few_500 hfw)
  have hfM : Few c 1000000 := few_more Hf.out (by omega)
  obtain ⟨fv, fn, fm⟩ := Hf.out
  have HfM := Lib.hid hfM
  clear hfM
  go_wp2_with fail
  refine (few_any c _ _ _ _ _ _ _ _ _ _ rfl rfl rfl (by omega) (by omega) (by omega)).mono ?_
  rintro e w2 ⟨rfl, q2⟩
  rw [hfw]
  clear b1_0 b1_1 b1_2 hfw
  have HB1 := Lib.hid (HB1.out.q q2)
  have HR1 := Lib.hid (HR1.out.q q2)
  have Hq := Lib.hid (Hq.out.trans q2)
  have b1_0 := HB1.out.c0
  have b1_1 := HB1.out.c1
  have b1_2 := HB1.out.c2
  clear q2
  go_wp2_with fail
  refine (refRight_any c _ _ _ _ _ _ _ _ _ _ rfl rfl rfl HR1.out HfM.out).mono ?_
  rintro e w3 ⟨rfl, q3⟩
  cases hrt : rightB c
  · go_wp2_with fail
    go_ret
    exact ⟨rfl, Hq.out.trans q3⟩
  have HRt := Lib.hid hrt
  by_cases h60 : 60 < acts.length
  · have hd1 : decide (60 < (acts.length : Int)) = true := decide_eq_true (by omega)
    clear h60
    go_wp2_with fail
    go_ret
    exact ⟨rfl, Hq.out.trans q3⟩
  have h60' : acts.length ≤ 60 := by omega
  have hd1 : decide (60 < (acts.length : Int)) = false := decide_eq_false (by omega)
  clear h60
  clear b1_0 b1_1 b1_2 hrt
  have HB1 := Lib.hid (HB1.out.q q3)
  have HR1 := Lib.hid (HR1.out.q q3)
  have Hq := Lib.hid (Hq.out.trans q3)
  clear q3
  have b1_0 := HB1.out.c0
  have b1_1 := HB1.out.c1
  have b1_2 := HB1.out.c2
  have HB1lt : w.heap.size < w3.heap.size := HB1.out.lt
  go_upto_region 5 with (go_at_call 20; refine (mark_any c _ _ _ _ _ _ _ _ _ _ rfl rfl rfl HR1.out HfM.out).mono ?_; rintro e w4 ⟨g1_4, k1_4, g2_4, k2_4, g3_4, k3_4, rfl, hO4⟩; have HO4 := Lib.hid hO4; clear hO4)
  clear b1_0 b1_1 b1_2
  have qb := (HO4.out.q).trans ((Q.refl w4).alloc (.cells #[.slice (some ⟨g1_4, 0, none⟩) (markC c).V.length k1_4, .slice (some ⟨g2_4, 0, none⟩) (markC c).N.length k2_4, .slice (some ⟨g3_4, 0, none⟩) (markC c).M.length k3_4] 44))
  have HB1 := Lib.hid (HB1.out.q qb)
  have HR1 := Lib.hid (HR1.out.q qb)
  have Hq := Lib.hid (Hq.out.trans qb)
  have HB6 := Lib.hid (Box3.new w4 (.slice (some ⟨g1_4, 0, none⟩) (markC c).V.length k1_4) (.slice (some ⟨g2_4, 0, none⟩) (markC c).N.length k2_4) (.slice (some ⟨g3_4, 0, none⟩) (markC c).M.length k3_4) 44)
  have HR6 := Lib.hid (HO4.out.rd.q ((Q.refl w4).alloc (.cells #[.slice (some ⟨g1_4, 0, none⟩) (markC c).V.length k1_4, .slice (some ⟨g2_4, 0, none⟩) (markC c).N.length k2_4, .slice (some ⟨g3_4, 0, none⟩) (markC c).M.length k3_4] 44)))
  have HB1lt : w.heap.size < w4.heap.size := Nat.lt_of_lt_of_le HB1lt HO4.out.q.size
  clear qb HO4
  generalize w4.alloc (.cells #[.slice (some ⟨g1_4, 0, none⟩) (markC c).V.length k1_4, .slice (some ⟨g2_4, 0, none⟩) (markC c).N.length k2_4, .slice (some ⟨g3_4, 0, none⟩) (markC c).M.length k3_4] 44) = W4 at *
  have hBlo : w.heap.size < w4.heap.size := by have := HB1lt; omega
  generalize w4.heap.size = B4 at *
  have HBeh0 := Lib.hid (beh_start HRt.out)
  have HFew0 : Hid (Few (markC c) (501 + 0)) := few_mark Hf.out (Nat.le_refl _)
  go_wp2_with fail
  go_loopw [7, 8] (fun dp i wr => ∃ (k n : Nat) (d : Cells) (A' D' E' : Option Addr) (j1 j2 j3 : Nat), (k ≤ acts.length ∧ n ≤ k) ∧ i = .int .i64 k ∧ dp = .int .i64 n ∧ Hid (Beh c d n) ∧ Hid (Few d (501 + k)) ∧ Hid (Rd wr d A' j1 D' j2 E' j3) ∧ Hid (Box3 wr B4 (.slice A' d.V.length j1) (.slice D' d.N.length j2) (.slice E' d.M.length j3)) ∧ Hid (Box3 wr w.heap.size (Value.slice A c.V.length k1) (Value.slice D c.N.length k2) (Value.slice E c.M.length k3)) ∧ Hid (Q w wr)) (fun _ i _ => acts.length - (intOf i).toNat)
  case atStart => exact ⟨0, 0, markC c, _, _, _, _, _, _, ⟨Nat.zero_le _, Nat.le_refl _⟩, rfl, rfl, HBeh0, HFew0, HR6, HB6, HB1, Hq⟩
  case round =>
    clear HBeh0 HFew0 HR6 HB6 HB1 Hq HR1
    obtain ⟨k, n, d, A', D', E', j1, j2, j3, ⟨hk, hnk⟩, rfl, rfl, HBeh, HFew, HR6, HB6, HB1, Hq⟩ := hrel
    by_cases hlt : k < acts.length
    · obtain ⟨ad, e, hadl, a0, a1, a2⟩ := (HSw.out.keep Hq.out).step_at hlt
      have HE := Lib.hid e
      clear e
      rw [HE.out]
      generalize acts[k] = act at *
      obtain ⟨x, at_, v⟩ := act
      go_upto_region 10 with fail
      have qa := (Q.refl wr).alloc (.cells #[.int .i64 x, .int .i64 at_, .int .i64 v] 49)
      have HB6 := Lib.hid (HB6.out.q qa)
      have HR6 := Lib.hid (HR6.out.q qa)
      have HB1 := Lib.hid (HB1.out.q qa)
      have Hq := Lib.hid (Hq.out.trans qa)
      have hB9 := (Box3.new wr (.int .i64 x) (.int .i64 at_) (.int .i64 v) 49)
      clear qa a0 a1 a2
      generalize wr.alloc (.cells #[.int .i64 x, .int .i64 at_, .int .i64 v] 49) = W1 at *
      generalize wr.heap.size = B9 at *
      have HB9 := Lib.hid hB9
      have c0 := hB9.c0
      have c1 := hB9.c1
      have c2 := hB9.c2
      clear hB9
      have b0 := HB6.out.c0
      have b1 := HB6.out.c1
      have b2 := HB6.out.c2
      have hnb : n ≤ 60 := by omega
      by_cases x0 : x = 0
      · subst x0
        by_cases hat : 0 ≤ at_ ∧ at_ < d.V.length
        · obtain ⟨a, rfl⟩ := Int.eq_ofNat_of_zero_le hat.1
          have hal : a < d.V.length := by omega
          clear hat
          obtain ⟨D2, hD2⟩ : ∃ D2, D2 = setC d a v := ⟨_, rfl⟩
          have HC0 := Lib.hid (set_some d a v _ _ _ _ _ _ _ _ _ _ rfl rfl rfl HR6.out (few_more HFew.out (by omega)) hal)
          rw [← hD2] at HC0
          have HBeh2 : Hid (Beh c D2 (n)) := by rw [hD2]; exact beh_set v hal HBeh.out
          have HFew2 : Hid (Few D2 (501 + (k + 1))) := by rw [hD2]; exact few_set a v HFew.out (by omega)
          clear hD2
          go_wp2_with (go_at_call 21; refine HC0.out.mono ?_; rintro e w7 ⟨g1_7, k1_7, g2_7, k2_7, g3_7, k3_7, rfl, hO⟩; have HO := Lib.hid hO; have bq := HB6.out.q hO.q; have x0 := bq.c0; have x1 := bq.c1; have x2 := bq.c2; have f0 := bq.f0; have f1 := bq.f1; have f2 := bq.f2; clear hO bq)
          clear x0 x1 x2 f0 f1 f2 b0 b1 b2 c0 c1 c2
          have hgr := set3_grown w7 B4 (.slice (some ⟨g1_7, 0, none⟩) D2.V.length k1_7) (.slice (some ⟨g2_7, 0, none⟩) D2.N.length k2_7) (.slice (some ⟨g3_7, 0, none⟩) D2.M.length k3_7)
          have hlB := HB6.out.lt
          have hg1 := HO.out.o1
          have hg2 := HO.out.o2
          have hg3 := HO.out.o3
          have HB63 := Lib.hid ((HB6.out.q HO.out.q).all (.slice (some ⟨g1_7, 0, none⟩) D2.V.length k1_7) (.slice (some ⟨g2_7, 0, none⟩) D2.N.length k2_7) (.slice (some ⟨g3_7, 0, none⟩) D2.M.length k3_7))
          have HR3 := Lib.hid (⟨(HO.out.v.grown hgr (by intro e; injection e with e; omega)).rds, (HO.out.n.grown hgr (by intro e; injection e with e; omega)).rds, (HO.out.m.grown hgr (by intro e; injection e with e; omega)).rds, HO.out.lv, HO.out.ln, HO.out.lm⟩ : Rd _ D2 _ _ _ _ _ _)
          have HB13 := Lib.hid ((HB1.out.q HO.out.q).grown hgr (by omega))
          have Hq3 := Lib.hid (grown_q hgr (Hq.out.trans HO.out.q) (by omega))
          clear hgr hlB hg1 hg2 hg3 HO HC0
          generalize ((w7.setCell ⟨B4, 0, none⟩ (.slice (some ⟨g1_7, 0, none⟩) D2.V.length k1_7)).setCell ⟨B4, 1, none⟩ (.slice (some ⟨g2_7, 0, none⟩) D2.N.length k2_7)).setCell ⟨B4, 2, none⟩ (.slice (some ⟨g3_7, 0, none⟩) D2.M.length k3_7) = W3 at *
          have HfD : Hid (Few D2 1000000) := few_more HFew2.out (by omega)
          have hMl := HBeh2.out.len
          have hne : ((D2.M.length : Int) != (c.M.length : Int) + 1 + (n : Int)) = false := by rw [hMl]; simp; try omega
          clear hMl
          refine (refRight_any D2 _ _ _ _ _ _ _ _ _ _ rfl rfl rfl HR3.out HfD.out).mono ?_
          rintro e y1 ⟨rfl, qs⟩
          rw [HBeh2.out.rt]
          have HB6y := Lib.hid (HB63.out.q qs)
          have HR6y := Lib.hid (HR3.out.q qs)
          have HB1y := Lib.hid (HB13.out.q qs)
          have Hqy := Lib.hid (Hq3.out.trans qs)
          clear qs
          have b2 := HB6y.out.c2
          have b12 := HB1y.out.c2
          go_wp2_with fail
          go_roundw
          case rel => exact ⟨k + 1, n, D2, _, _, _, _, _, _, ⟨by omega, by omega⟩, by go_num, by first | rfl | go_num, HBeh2, HFew2, HR6y, HB6y, HB1y, Hqy⟩
          case measure => simp [intOf]; omega
        · have HC0 := Lib.hid (set_none d at_ v _ _ _ _ _ _ _ _ _ _ rfl rfl rfl HR6.out (few_more HFew.out (by omega)) hat)
          have HBeh2 : Hid (Beh c d (n)) := by exact HBeh.out
          have HFew2 : Hid (Few d (501 + (k + 1))) := by exact few_more HFew.out (by omega)
          go_wp2_with (go_at_call 21; refine HC0.out.mono ?_; rintro e w7 ⟨g1_7, k1_7, g2_7, k2_7, g3_7, k3_7, rfl, hO⟩; have HO := Lib.hid hO; have bq := HB6.out.q hO.q; have x0 := bq.c0; have x1 := bq.c1; have x2 := bq.c2; have f0 := bq.f0; have f1 := bq.f1; have f2 := bq.f2; clear hO bq)
          clear x0 x1 x2 f0 f1 f2 b0 b1 b2 c0 c1 c2
          have hgr := set3_grown w7 B4 (.slice (some ⟨g1_7, 0, none⟩) d.V.length k1_7) (.slice (some ⟨g2_7, 0, none⟩) d.N.length k2_7) (.slice (some ⟨g3_7, 0, none⟩) d.M.length k3_7)
          have hlB := HB6.out.lt
          have hg1 := HO.out.o1
          have hg2 := HO.out.o2
          have hg3 := HO.out.o3
          have HB63 := Lib.hid ((HB6.out.q HO.out.q).all (.slice (some ⟨g1_7, 0, none⟩) d.V.length k1_7) (.slice (some ⟨g2_7, 0, none⟩) d.N.length k2_7) (.slice (some ⟨g3_7, 0, none⟩) d.M.length k3_7))
          have HR3 := Lib.hid (⟨(HO.out.v.grown hgr (by intro e; injection e with e; omega)).rds, (HO.out.n.grown hgr (by intro e; injection e with e; omega)).rds, (HO.out.m.grown hgr (by intro e; injection e with e; omega)).rds, HO.out.lv, HO.out.ln, HO.out.lm⟩ : Rd _ d _ _ _ _ _ _)
          have HB13 := Lib.hid ((HB1.out.q HO.out.q).grown hgr (by omega))
          have Hq3 := Lib.hid (grown_q hgr (Hq.out.trans HO.out.q) (by omega))
          clear hgr hlB hg1 hg2 hg3 HO HC0
          generalize ((w7.setCell ⟨B4, 0, none⟩ (.slice (some ⟨g1_7, 0, none⟩) d.V.length k1_7)).setCell ⟨B4, 1, none⟩ (.slice (some ⟨g2_7, 0, none⟩) d.N.length k2_7)).setCell ⟨B4, 2, none⟩ (.slice (some ⟨g3_7, 0, none⟩) d.M.length k3_7) = W3 at *
          have HfD : Hid (Few d 1000000) := few_more HFew2.out (by omega)
          have hMl := HBeh2.out.len
          have hne : ((d.M.length : Int) != (c.M.length : Int) + 1 + (n : Int)) = false := by rw [hMl]; simp; try omega
          clear hMl
          refine (refRight_any d _ _ _ _ _ _ _ _ _ _ rfl rfl rfl HR3.out HfD.out).mono ?_
          rintro e y1 ⟨rfl, qs⟩
          rw [HBeh2.out.rt]
          have HB6y := Lib.hid (HB63.out.q qs)
          have HR6y := Lib.hid (HR3.out.q qs)
          have HB1y := Lib.hid (HB13.out.q qs)
          have Hqy := Lib.hid (Hq3.out.trans qs)
          clear qs
          have b2 := HB6y.out.c2
          have b12 := HB1y.out.c2
          go_wp2_with fail
          go_roundw
          case rel => exact ⟨k + 1, n, d, _, _, _, _, _, _, ⟨by omega, by omega⟩, by go_num, by first | rfl | go_num, HBeh2, HFew2, HR6y, HB6y, HB1y, Hqy⟩
          case measure => simp [intOf]; omega
      by_cases x1 : x = 1
      · subst x1
        obtain ⟨D2, hD2⟩ : ∃ D2, D2 = growC d v := ⟨_, rfl⟩
        have HC0 := Lib.hid (grow_any d v _ _ _ _ _ _ _ _ _ _ rfl rfl rfl HR6.out (few_more HFew.out (by omega)))
        rw [← hD2] at HC0
        have HBeh2 : Hid (Beh c D2 (n)) := by rw [hD2]; exact beh_grow v HBeh.out
        have HFew2 : Hid (Few D2 (501 + (k + 1))) := by rw [hD2]; exact few_grow v HFew.out (by omega)
        clear hD2
        go_wp2_with (go_at_call 22; refine HC0.out.mono ?_; rintro e w7 ⟨g1_7, k1_7, g2_7, k2_7, g3_7, k3_7, rfl, hO⟩; have HO := Lib.hid hO; have bq := HB6.out.q hO.q; have x0 := bq.c0; have x1 := bq.c1; have x2 := bq.c2; have f0 := bq.f0; have f1 := bq.f1; have f2 := bq.f2; clear hO bq)
        clear x0 x1 x2 f0 f1 f2 b0 b1 b2 c0 c1 c2
        have hgr := set3_grown w7 B4 (.slice (some ⟨g1_7, 0, none⟩) D2.V.length k1_7) (.slice (some ⟨g2_7, 0, none⟩) D2.N.length k2_7) (.slice (some ⟨g3_7, 0, none⟩) D2.M.length k3_7)
        have hlB := HB6.out.lt
        have hg1 := HO.out.o1
        have hg2 := HO.out.o2
        have hg3 := HO.out.o3
        have HB63 := Lib.hid ((HB6.out.q HO.out.q).all (.slice (some ⟨g1_7, 0, none⟩) D2.V.length k1_7) (.slice (some ⟨g2_7, 0, none⟩) D2.N.length k2_7) (.slice (some ⟨g3_7, 0, none⟩) D2.M.length k3_7))
        have HR3 := Lib.hid (⟨(HO.out.v.grown hgr (by intro e; injection e with e; omega)).rds, (HO.out.n.grown hgr (by intro e; injection e with e; omega)).rds, (HO.out.m.grown hgr (by intro e; injection e with e; omega)).rds, HO.out.lv, HO.out.ln, HO.out.lm⟩ : Rd _ D2 _ _ _ _ _ _)
        have HB13 := Lib.hid ((HB1.out.q HO.out.q).grown hgr (by omega))
        have Hq3 := Lib.hid (grown_q hgr (Hq.out.trans HO.out.q) (by omega))
        clear hgr hlB hg1 hg2 hg3 HO HC0
        generalize ((w7.setCell ⟨B4, 0, none⟩ (.slice (some ⟨g1_7, 0, none⟩) D2.V.length k1_7)).setCell ⟨B4, 1, none⟩ (.slice (some ⟨g2_7, 0, none⟩) D2.N.length k2_7)).setCell ⟨B4, 2, none⟩ (.slice (some ⟨g3_7, 0, none⟩) D2.M.length k3_7) = W3 at *
        have HfD : Hid (Few D2 1000000) := few_more HFew2.out (by omega)
        have hMl := HBeh2.out.len
        have hne : ((D2.M.length : Int) != (c.M.length : Int) + 1 + (n : Int)) = false := by rw [hMl]; simp; try omega
        clear hMl
        refine (refRight_any D2 _ _ _ _ _ _ _ _ _ _ rfl rfl rfl HR3.out HfD.out).mono ?_
        rintro e y1 ⟨rfl, qs⟩
        rw [HBeh2.out.rt]
        have HB6y := Lib.hid (HB63.out.q qs)
        have HR6y := Lib.hid (HR3.out.q qs)
        have HB1y := Lib.hid (HB13.out.q qs)
        have Hqy := Lib.hid (Hq3.out.trans qs)
        clear qs
        have b2 := HB6y.out.c2
        have b12 := HB1y.out.c2
        go_wp2_with fail
        go_roundw
        case rel => exact ⟨k + 1, n, D2, _, _, _, _, _, _, ⟨by omega, by omega⟩, by go_num, by first | rfl | go_num, HBeh2, HFew2, HR6y, HB6y, HB1y, Hqy⟩
        case measure => simp [intOf]; omega
      by_cases x2 : x = 2
      · subst x2
        obtain ⟨D2, hD2⟩ : ∃ D2, D2 = markC d := ⟨_, rfl⟩
        have HC0 := Lib.hid (mark_any d _ _ _ _ _ _ _ _ _ _ rfl rfl rfl HR6.out (few_more HFew.out (by omega)))
        rw [← hD2] at HC0
        have HBeh2 : Hid (Beh c D2 (n + 1)) := by rw [hD2]; exact beh_mark HBeh.out
        have HFew2 : Hid (Few D2 (501 + (k + 1))) := by rw [hD2]; exact few_mark HFew.out (by omega)
        clear hD2
        go_wp2_with (go_at_call 20; refine HC0.out.mono ?_; rintro e w7 ⟨g1_7, k1_7, g2_7, k2_7, g3_7, k3_7, rfl, hO⟩; have HO := Lib.hid hO; have bq := HB6.out.q hO.q; have x0 := bq.c0; have x1 := bq.c1; have x2 := bq.c2; have f0 := bq.f0; have f1 := bq.f1; have f2 := bq.f2; clear hO bq)
        clear x0 x1 x2 f0 f1 f2 b0 b1 b2 c0 c1 c2
        have hgr := set3_grown w7 B4 (.slice (some ⟨g1_7, 0, none⟩) D2.V.length k1_7) (.slice (some ⟨g2_7, 0, none⟩) D2.N.length k2_7) (.slice (some ⟨g3_7, 0, none⟩) D2.M.length k3_7)
        have hlB := HB6.out.lt
        have hg1 := HO.out.o1
        have hg2 := HO.out.o2
        have hg3 := HO.out.o3
        have HB63 := Lib.hid ((HB6.out.q HO.out.q).all (.slice (some ⟨g1_7, 0, none⟩) D2.V.length k1_7) (.slice (some ⟨g2_7, 0, none⟩) D2.N.length k2_7) (.slice (some ⟨g3_7, 0, none⟩) D2.M.length k3_7))
        have HR3 := Lib.hid (⟨(HO.out.v.grown hgr (by intro e; injection e with e; omega)).rds, (HO.out.n.grown hgr (by intro e; injection e with e; omega)).rds, (HO.out.m.grown hgr (by intro e; injection e with e; omega)).rds, HO.out.lv, HO.out.ln, HO.out.lm⟩ : Rd _ D2 _ _ _ _ _ _)
        have HB13 := Lib.hid ((HB1.out.q HO.out.q).grown hgr (by omega))
        have Hq3 := Lib.hid (grown_q hgr (Hq.out.trans HO.out.q) (by omega))
        clear hgr hlB hg1 hg2 hg3 HO HC0
        generalize ((w7.setCell ⟨B4, 0, none⟩ (.slice (some ⟨g1_7, 0, none⟩) D2.V.length k1_7)).setCell ⟨B4, 1, none⟩ (.slice (some ⟨g2_7, 0, none⟩) D2.N.length k2_7)).setCell ⟨B4, 2, none⟩ (.slice (some ⟨g3_7, 0, none⟩) D2.M.length k3_7) = W3 at *
        have HfD : Hid (Few D2 1000000) := few_more HFew2.out (by omega)
        have hMl := HBeh2.out.len
        have hne : ((D2.M.length : Int) != (c.M.length : Int) + 1 + ((n : Int) + 1)) = false := by rw [hMl]; simp; try omega
        clear hMl
        refine (refRight_any D2 _ _ _ _ _ _ _ _ _ _ rfl rfl rfl HR3.out HfD.out).mono ?_
        rintro e y1 ⟨rfl, qs⟩
        rw [HBeh2.out.rt]
        have HB6y := Lib.hid (HB63.out.q qs)
        have HR6y := Lib.hid (HR3.out.q qs)
        have HB1y := Lib.hid (HB13.out.q qs)
        have Hqy := Lib.hid (Hq3.out.trans qs)
        clear qs
        have b2 := HB6y.out.c2
        have b12 := HB1y.out.c2
        go_wp2_with fail
        go_roundw
        case rel => exact ⟨k + 1, n + 1, D2, _, _, _, _, _, _, ⟨by omega, by omega⟩, by go_num, by first | rfl | go_num, HBeh2, HFew2, HR6y, HB6y, HB1y, Hqy⟩
        case measure => simp [intOf]; omega
      by_cases x3 : x = 3
      · subst x3
        rcases n with _ | n
        · have hd0 : decide ((0 : Int) < 0) = false := rfl
          have HBeh2 := HBeh
          have HFew2 : Hid (Few d (501 + (k + 1))) := few_more HFew.out (by omega)
          have HR3 := HR6
          have HB63 := HB6
          have HB13 := HB1
          have Hq3 := Hq
          have HfD : Hid (Few d 1000000) := few_more HFew2.out (by omega)
          have hMl := HBeh2.out.len
          have hne : ((d.M.length : Int) != (c.M.length : Int) + 1 + 0) = false := by rw [hMl]; simp; try omega
          clear hMl
          go_wp2_with fail
          refine (refRight_any d _ _ _ _ _ _ _ _ _ _ rfl rfl rfl HR3.out HfD.out).mono ?_
          rintro e y1 ⟨rfl, qs⟩
          rw [HBeh2.out.rt]
          have HB6y := Lib.hid (HB63.out.q qs)
          have HR6y := Lib.hid (HR3.out.q qs)
          have HB1y := Lib.hid (HB13.out.q qs)
          have Hqy := Lib.hid (Hq3.out.trans qs)
          clear qs
          have b2 := HB6y.out.c2
          have b12 := HB1y.out.c2
          go_wp2_with fail
          go_roundw
          case rel => exact ⟨k + 1, 0, d, _, _, _, _, _, _, ⟨by omega, by omega⟩, by go_num, by first | rfl | go_num, HBeh2, HFew2, HR6y, HB6y, HB1y, Hqy⟩
          case measure => simp [intOf]; omega
        · obtain ⟨m, V', hm1, hm2, hm3, hbb⟩ := beh_back HBeh.out
          have hd0 : decide (0 < (n : Int) + 1) = true := decide_eq_true (by omega)
          obtain ⟨D2, hD2⟩ : ∃ D2, D2 = backC d m V' := ⟨_, rfl⟩
          have HC0 := Lib.hid (back_some d m V' _ _ _ _ _ _ _ _ _ _ rfl rfl rfl HR6.out (few_more HFew.out (by omega)) hm1 hm2 hm3)
          rw [← hD2] at HC0
          have HBeh2 : Hid (Beh c D2 (n)) := by rw [hD2]; exact hbb
          have HFew2 : Hid (Few D2 (501 + (k + 1))) := by rw [hD2]; exact few_more (few_back HFew.out hm3) (by omega)
          clear hD2 hm1 hm2 hm3 hbb
          go_wp2_with (go_at_call 23; refine HC0.out.mono ?_; rintro e w7 ⟨g1_7, k1_7, g2_7, k2_7, g3_7, k3_7, rfl, hO⟩; have HO := Lib.hid hO; have bq := HB6.out.q hO.q; have x0 := bq.c0; have x1 := bq.c1; have x2 := bq.c2; have f0 := bq.f0; have f1 := bq.f1; have f2 := bq.f2; clear hO bq)
          clear x0 x1 x2 f0 f1 f2 b0 b1 b2 c0 c1 c2
          have hgr := set3_grown w7 B4 (.slice (some ⟨g1_7, 0, none⟩) D2.V.length k1_7) (.slice (some ⟨g2_7, 0, none⟩) D2.N.length k2_7) (.slice (some ⟨g3_7, 0, none⟩) D2.M.length k3_7)
          have hlB := HB6.out.lt
          have hg1 := HO.out.o1
          have hg2 := HO.out.o2
          have hg3 := HO.out.o3
          have HB63 := Lib.hid ((HB6.out.q HO.out.q).all (.slice (some ⟨g1_7, 0, none⟩) D2.V.length k1_7) (.slice (some ⟨g2_7, 0, none⟩) D2.N.length k2_7) (.slice (some ⟨g3_7, 0, none⟩) D2.M.length k3_7))
          have HR3 := Lib.hid (⟨(HO.out.v.grown hgr (by intro e; injection e with e; omega)).rds, (HO.out.n.grown hgr (by intro e; injection e with e; omega)).rds, (HO.out.m.grown hgr (by intro e; injection e with e; omega)).rds, HO.out.lv, HO.out.ln, HO.out.lm⟩ : Rd _ D2 _ _ _ _ _ _)
          have HB13 := Lib.hid ((HB1.out.q HO.out.q).grown hgr (by omega))
          have Hq3 := Lib.hid (grown_q hgr (Hq.out.trans HO.out.q) (by omega))
          clear hgr hlB hg1 hg2 hg3 HO HC0
          generalize ((w7.setCell ⟨B4, 0, none⟩ (.slice (some ⟨g1_7, 0, none⟩) D2.V.length k1_7)).setCell ⟨B4, 1, none⟩ (.slice (some ⟨g2_7, 0, none⟩) D2.N.length k2_7)).setCell ⟨B4, 2, none⟩ (.slice (some ⟨g3_7, 0, none⟩) D2.M.length k3_7) = W3 at *
          have HfD : Hid (Few D2 1000000) := few_more HFew2.out (by omega)
          have hMl := HBeh2.out.len
          have hne : ((D2.M.length : Int) != (c.M.length : Int) + 1 + (n : Int)) = false := by rw [hMl]; simp; try omega
          clear hMl
          refine (refRight_any D2 _ _ _ _ _ _ _ _ _ _ rfl rfl rfl HR3.out HfD.out).mono ?_
          rintro e y1 ⟨rfl, qs⟩
          rw [HBeh2.out.rt]
          have HB6y := Lib.hid (HB63.out.q qs)
          have HR6y := Lib.hid (HR3.out.q qs)
          have HB1y := Lib.hid (HB13.out.q qs)
          have Hqy := Lib.hid (Hq3.out.trans qs)
          clear qs
          have b2 := HB6y.out.c2
          have b12 := HB1y.out.c2
          go_wp2_with fail
          go_roundw
          case rel => exact ⟨k + 1, n, D2, _, _, _, _, _, _, ⟨by omega, by omega⟩, by go_num, by first | rfl | go_num, HBeh2, HFew2, HR6y, HB6y, HB1y, Hqy⟩
          case measure => simp [intOf]; omega
      have n0 : (x == 0) = false := by simpa using x0
      have n1 : (x == 1) = false := by simpa using x1
      have n2 : (x == 2) = false := by simpa using x2
      have n3 : (x == 3) = false := by simpa using x3
      clear x0 x1 x2 x3
      rcases n with _ | n
      · have hd0 : decide ((0 : Int) < 0) = false := rfl
        have HBeh2 := HBeh
        have HFew2 : Hid (Few d (501 + (k + 1))) := few_more HFew.out (by omega)
        have HR3 := HR6
        have HB63 := HB6
        have HB13 := HB1
        have Hq3 := Hq
        have HfD : Hid (Few d 1000000) := few_more HFew2.out (by omega)
        have hMl := HBeh2.out.len
        have hne : ((d.M.length : Int) != (c.M.length : Int) + 1 + 0) = false := by rw [hMl]; simp; try omega
        clear hMl
        go_wp2_with fail
        refine (refRight_any d _ _ _ _ _ _ _ _ _ _ rfl rfl rfl HR3.out HfD.out).mono ?_
        rintro e y1 ⟨rfl, qs⟩
        rw [HBeh2.out.rt]
        have HB6y := Lib.hid (HB63.out.q qs)
        have HR6y := Lib.hid (HR3.out.q qs)
        have HB1y := Lib.hid (HB13.out.q qs)
        have Hqy := Lib.hid (Hq3.out.trans qs)
        clear qs
        have b2 := HB6y.out.c2
        have b12 := HB1y.out.c2
        go_wp2_with fail
        go_roundw
        case rel => exact ⟨k + 1, 0, d, _, _, _, _, _, _, ⟨by omega, by omega⟩, by go_num, by first | rfl | go_num, HBeh2, HFew2, HR6y, HB6y, HB1y, Hqy⟩
        case measure => simp [intOf]; omega
      · have hd0 : decide (0 < (n : Int) + 1) = true := decide_eq_true (by omega)
        obtain ⟨D2, hD2⟩ : ∃ D2, D2 = keepC d := ⟨_, rfl⟩
        have HC0 := Lib.hid (keep_some d _ _ _ _ _ _ _ _ _ _ rfl rfl rfl HR6.out (few_more HFew.out (by omega)) (by have := HBeh.out.len; omega))
        rw [← hD2] at HC0
        have HBeh2 : Hid (Beh c D2 (n)) := by rw [hD2]; exact beh_keep HBeh.out
        have HFew2 : Hid (Few D2 (501 + (k + 1))) := by rw [hD2]; exact few_more (few_keep HFew.out) (by omega)
        clear hD2
        go_wp2_with (go_at_call 24; refine HC0.out.mono ?_; rintro e w7 ⟨g1_7, k1_7, g2_7, k2_7, g3_7, k3_7, rfl, hO⟩; have HO := Lib.hid hO; have bq := HB6.out.q hO.q; have x0 := bq.c0; have x1 := bq.c1; have x2 := bq.c2; have f0 := bq.f0; have f1 := bq.f1; have f2 := bq.f2; clear hO bq)
        clear x0 x1 x2 f0 f1 f2 b0 b1 b2 c0 c1 c2
        have hgr := set3_grown w7 B4 (.slice (some ⟨g1_7, 0, none⟩) D2.V.length k1_7) (.slice (some ⟨g2_7, 0, none⟩) D2.N.length k2_7) (.slice (some ⟨g3_7, 0, none⟩) D2.M.length k3_7)
        have hlB := HB6.out.lt
        have hg1 := HO.out.o1
        have hg2 := HO.out.o2
        have hg3 := HO.out.o3
        have HB63 := Lib.hid ((HB6.out.q HO.out.q).all (.slice (some ⟨g1_7, 0, none⟩) D2.V.length k1_7) (.slice (some ⟨g2_7, 0, none⟩) D2.N.length k2_7) (.slice (some ⟨g3_7, 0, none⟩) D2.M.length k3_7))
        have HR3 := Lib.hid (⟨(HO.out.v.grown hgr (by intro e; injection e with e; omega)).rds, (HO.out.n.grown hgr (by intro e; injection e with e; omega)).rds, (HO.out.m.grown hgr (by intro e; injection e with e; omega)).rds, HO.out.lv, HO.out.ln, HO.out.lm⟩ : Rd _ D2 _ _ _ _ _ _)
        have HB13 := Lib.hid ((HB1.out.q HO.out.q).grown hgr (by omega))
        have Hq3 := Lib.hid (grown_q hgr (Hq.out.trans HO.out.q) (by omega))
        clear hgr hlB hg1 hg2 hg3 HO HC0
        generalize ((w7.setCell ⟨B4, 0, none⟩ (.slice (some ⟨g1_7, 0, none⟩) D2.V.length k1_7)).setCell ⟨B4, 1, none⟩ (.slice (some ⟨g2_7, 0, none⟩) D2.N.length k2_7)).setCell ⟨B4, 2, none⟩ (.slice (some ⟨g3_7, 0, none⟩) D2.M.length k3_7) = W3 at *
        have HfD : Hid (Few D2 1000000) := few_more HFew2.out (by omega)
        have hMl := HBeh2.out.len
        have hne : ((D2.M.length : Int) != (c.M.length : Int) + 1 + (n : Int)) = false := by rw [hMl]; simp; try omega
        clear hMl
        refine (refRight_any D2 _ _ _ _ _ _ _ _ _ _ rfl rfl rfl HR3.out HfD.out).mono ?_
        rintro e y1 ⟨rfl, qs⟩
        rw [HBeh2.out.rt]
        have HB6y := Lib.hid (HB63.out.q qs)
        have HR6y := Lib.hid (HR3.out.q qs)
        have HB1y := Lib.hid (HB13.out.q qs)
        have Hqy := Lib.hid (Hq3.out.trans qs)
        clear qs
        have b2 := HB6y.out.c2
        have b12 := HB1y.out.c2
        go_wp2_with fail
        go_roundw
        case rel => exact ⟨k + 1, n, D2, _, _, _, _, _, _, ⟨by omega, by omega⟩, by go_num, by first | rfl | go_num, HBeh2, HFew2, HR6y, HB6y, HB1y, Hqy⟩
        case measure => simp [intOf]; omega
    · generalize n = n0 at *
      have HfW : Hid (Few d 1000000) := few_more HFew.out (by omega)
      go_wp2_with fail
      go_loopw [10] (fun i wr => ∃ (k n : Nat) (d : Cells) (A' D' E' : Option Addr) (j1 j2 j3 : Nat), (k + n = n0) ∧ i = .int .i64 k ∧ Hid (Beh c d n) ∧ Hid (Few d 1000000) ∧ Hid (Rd wr d A' j1 D' j2 E' j3) ∧ Hid (Box3 wr B4 (.slice A' d.V.length j1) (.slice D' d.N.length j2) (.slice E' d.M.length j3)) ∧ Hid (Box3 wr w.heap.size (Value.slice A c.V.length k1) (Value.slice D c.N.length k2) (Value.slice E c.M.length k3)) ∧ Hid (Q w wr)) (fun i _ => n0 - (intOf i).toNat)
      case atStart => exact ⟨0, n0, d, _, _, _, _, _, _, by omega, rfl, HBeh, HfW, HR6, HB6, HB1, Hq⟩
      case round =>
        clear HBeh HFew HR6 HB6 HB1 Hq HfW
        obtain ⟨k, n, d, A', D', E', j1, j2, j3, hkn, rfl, HBeh, HFew, HR6, HB6, HB1, Hq⟩ := hrel
        have b0 := HB6.out.c0
        have b1 := HB6.out.c1
        have b2 := HB6.out.c2
        have hnb : n0 ≤ 60 := by omega
        rcases n with _ | n
        · obtain rfl : k = n0 := by omega
          have hM := beh_end HBeh.out
          have HC0 := Lib.hid (back_some d c.N.length c.V _ _ _ _ _ _ _ _ _ _ rfl rfl rfl HR6.out HFew.out hM.1 HBeh.out.le HBeh.out.bk)
          rw [hM.2] at HC0
          clear hM
          go_wp2_with fail
          refine HC0.out.mono ?_
          rintro e w8 ⟨g1_8, k1_8, g2_8, k2_8, g3_8, k3_8, rfl, hO⟩
          have HO := Lib.hid hO
          have b10 := (HB1.out.q hO.q).c0
          have b11 := (HB1.out.q hO.q).c1
          have b12 := (HB1.out.q hO.q).c2
          have hl8 := (HB1.out.q hO.q).lt
          have Hq8 := Lib.hid (Hq.out.trans hO.q)
          clear hO b0 b1 b2
          have qb := (Q.refl w8).alloc (.cells #[.slice (some ⟨g1_8, 0, none⟩) c.V.length k1_8, .slice (some ⟨g2_8, 0, none⟩) c.N.length k2_8, .slice (some ⟨g3_8, 0, none⟩) c.M.length k3_8] 44)
          have Hq9 := Lib.hid (Hq8.out.trans qb)
          have HR9 := Lib.hid (HO.out.rd.q qb)
          have HR91 := Lib.hid (HRw.out.q Hq9.out)
          clear qb
          go_wp2_with fail
          refine (same_any c _ _ _ _ _ _ _ _ _ _ _ _ _ _ _ _ _ _ _ rfl rfl rfl rfl rfl rfl HR9.out HR91.out HfM.out).mono ?_
          rintro e y2 ⟨rfl, qs⟩
          go_wp2_with fail
          go_ret
          exact ⟨rfl, Hq9.out.trans qs⟩
        · have hkl : k < n0 := by omega
          have HC0 := Lib.hid (keep_some d _ _ _ _ _ _ _ _ _ _ rfl rfl rfl HR6.out HFew.out (by have := HBeh.out.len; omega))
          obtain ⟨D2, hD2⟩ : ∃ D2, D2 = keepC d := ⟨_, rfl⟩
          rw [← hD2] at HC0
          have HBeh2 : Hid (Beh c D2 n) := by rw [hD2]; exact beh_keep HBeh.out
          have HFew2 : Hid (Few D2 1000000) := by rw [hD2]; exact few_keep HFew.out
          clear hD2
          go_wp2_with (go_at_call 24; refine HC0.out.mono ?_; rintro e w7 ⟨g1_7, k1_7, g2_7, k2_7, g3_7, k3_7, rfl, hO⟩; have HO := Lib.hid hO; have bq := HB6.out.q hO.q; have x0 := bq.c0; have x1 := bq.c1; have x2 := bq.c2; have f0 := bq.f0; have f1 := bq.f1; have f2 := bq.f2; clear hO bq)
          have hgr := set3_grown w7 B4 (.slice (some ⟨g1_7, 0, none⟩) D2.V.length k1_7) (.slice (some ⟨g2_7, 0, none⟩) D2.N.length k2_7) (.slice (some ⟨g3_7, 0, none⟩) D2.M.length k3_7)
          have hlB := HB6.out.lt
          have hg1 := HO.out.o1
          have hg2 := HO.out.o2
          have hg3 := HO.out.o3
          go_roundw
          case rel => exact ⟨k + 1, n, D2, _, _, _, _, _, _, by omega, by go_num, HBeh2, HFew2, Lib.hid ⟨(HO.out.v.grown hgr (by intro e; injection e with e; omega)).rds, (HO.out.n.grown hgr (by intro e; injection e with e; omega)).rds, (HO.out.m.grown hgr (by intro e; injection e with e; omega)).rds, HO.out.lv, HO.out.ln, HO.out.lm⟩, Lib.hid ((HB6.out.q HO.out.q).all _ _ _), Lib.hid ((HB1.out.q HO.out.q).grown hgr (by omega)), Lib.hid (grown_q hgr (Hq.out.trans HO.out.q) (by omega))⟩
          case measure => simp [intOf]; omega

set_option maxRecDepth 100000 in
theorem lifted (os : Os) (started : os.Started) (H : Type) (enc : TypeId × Value → H) :
    ReturnsInHanded {} Try.checked os 4 .any (Rows.trailBacksSpec.pre6 enc Try.prog Try.f4 Rows.trailBacksRow.domain false) (Rows.trailBacksSpec.post enc Try.prog Try.f4 false true false false) := by
  refine returnsInHanded_of_change_sized (C := Try.checked) own started (by kernel_rfl) Try.func4
    (ChangeSpec.witness6 (enc := enc) (C := Try.checked) false ⟨#[], #[.agg #[.slice none 0 0, .slice none 0 0, .slice none 0 0], .slice none 0 0], []⟩ 8 (by kernel_rfl) (by kernel_rfl) (by kernel_rfl) (by kernel_rfl)) ?_
  intro W base args ds gs before hval0 hW hcnd hsz0 _
  have hval : ∀ (j : Nat) t v, Try.f4.params[j]? = some t → args[j]? = some v → Value.okWide Try.prog W .any base t v := hval0
  have hW' := hW
  obtain ⟨p, q, hA0, hV, rfl, hfz, hnd⟩ := hW
  have hA : DataW.TrodAll enc Try.prog W 0 (fun _ => true) true Try.f4.params.toList args.toList ds p := hA0
  rw [Try.params4] at hA hval
  obtain ⟨v0, vs0, d0, ds0, p0, q0, hargs, rfl, rfl, h0, r0⟩ := trodAll_cons hA
  obtain ⟨v1, vs1, d1, ds1, p1, q1, rfl, rfl, rfl, h1, r1⟩ := trodAll_cons r0
  obtain ⟨rfl, rfl, rfl⟩ := trodAll_nil r1
  obtain rfl : args = #[v0, v1] := by cases args; simp_all
  obtain ⟨rfl, rfl⟩ := trodVars_none hV
  have z0 : ∀ n ∈ d0.weights Try.prog 44, n ≤ reachBytes := fun n hn => by
    have := List.all_eq_true.1 hsz0 n (DataW.weights_mem_each (j := 0) (t := 44) (d := d0) (by rw [Try.params4]; rfl) rfl n hn)
    simpa using this
  have _z1 : ∀ n ∈ d1.weights Try.prog 45, n ≤ reachBytes := fun n hn => by
    have := List.all_eq_true.1 hsz0 n (DataW.weights_mem_each (j := 1) (t := 45) (d := d1) (by rw [Try.params4]; rfl) rfl n hn)
    simpa using this
  obtain ⟨c, A, n1, k1, D, n2, k2, E, n3, k3, rfl, e1, e2, e3, h, hw⟩ := open_cells (hval 0 44 v0 rfl rfl) h0 z0
  obtain ⟨S, ns, ks, acts, rfl, hns, hS, hsl⟩ := open_acts (hval 1 45 v1 rfl rfl) h1
  clear hA0 hval0
  refine (walk c A D E n1 k1 n2 k2 n3 k3 S ns ks acts W e1 e2 e3 h hw hns hS hsl).mono fun e W' ⟨he, hg⟩ => ?_
  subst he
  exact ⟨_, rfl, post_law laid (by rw [Try.params4]; decide +kernel) rfl rfl (by kernel_rfl) Try.underlying4 hW' hg⟩

/-- THE STATEMENT -/
theorem proved : Rows.TrailBacksSaid :=
  OpenClaim.holds_of_wide 4 Try.f4 rfl rfl rfl rfl rfl rfl rfl ⟨rfl, rfl, rfl, rfl, rfl⟩ rfl rfl rfl rfl rfl (by kernel_rfl) Try.func4 (by kernel_rfl)
    (of_decide_eq_true (by kernel_rfl)) (by unfold Func.isWrapper; first | (rw [if_pos (by decide +kernel)]; kernel_rfl) | (rw [if_neg (by decide +kernel)]; exact ⟨rfl, rfl⟩))
    (fun os started H enc _ => lifted os started H enc)
end Go.Proofs.Ytngdjndekdcdkaa.trailBacks
