/-
  WorkOrder: two pairs that are put in any order come in the same one: for every queue of 40 that wait at most, and every two pairs.
-/
import Derived.Test.YtjgbheidkjgncaaPh
import Derived.Test.YtjgbheidkjgncaaPi
import Derived.Test.YtjgbheidkjgncaaRows
import Derived.OpenShut
import Derived.RegionTactic
import Derived.Deep.CutBlock
namespace Go.Proofs.Ytjgbheidkjgncaa.workOrder
open Go.ChangeShapes Go.WideShapes Go.RowKit Kit Rw Wk
open Go.Proofs.Ytjgbheidkjgncaa.St
open Go.Proofs.Ytjgbheidkjgncaa.Hs (Keys Ints layI putL placeI newB Dist atI)
theorem QFr.two {w w' W : World} {b g : Nat} {B A S : Option Addr} {k kc n c m d : Nat} {l : List PI} {ks : List (List Int)} {sl : List Int} (h : QFr w w' B A S k kc n c m d l ks sl) (t : Two b g w' W) (hb : b < w.heap.size ∨ w'.heap.size ≤ b) (hg : g < w.heap.size ∨ w'.heap.size ≤ g) : QRd W B A S k kc n c m d l ks sl :=
  h W t.size fun p h1 h2 => t.cell h2 (by omega) (by omega)
theorem Two.set3 {b g : Nat} {v w : World} (h : Two b g v w) (x y z : Value) : Two b g v (((w.setCell ⟨b, 0, none⟩ x).setCell ⟨b, 1, none⟩ y).setCell ⟨b, 2, none⟩ z) :=
  ((h.trans (Two.box (setCell_grown w b 0 x))).trans (Two.box (setCell_grown _ b 1 y))).trans (Two.box (setCell_grown _ b 2 z))
theorem Two.set3g {b g : Nat} {v w : World} (h : Two b g v w) (x y z : Value) : Two b g v (((w.setCell ⟨g, 0, none⟩ x).setCell ⟨g, 1, none⟩ y).setCell ⟨g, 2, none⟩ z) :=
  ((h.trans (Two.grown (setCell_grown w g 0 x))).trans (Two.grown (setCell_grown _ g 1 y))).trans (Two.grown (setCell_grown _ g 2 z))
theorem OwnC.far3 {w : World} {g : Nat} {cs : List Value} (h : OwnC w g cs) {b : Nat} (hb : b ≠ g) (x y z : Value) : OwnC (((w.setCell ⟨b, 0, none⟩ x).setCell ⟨b, 1, none⟩ y).setCell ⟨b, 2, none⟩ z) g cs := ((h.far hb x).far hb y).far hb z
theorem Two.q' {b g : Nat} {v w w' : World} (h : Two b g v w) (k : Q w w') : Two b g v w' := h.q k
set_option maxRecDepth 100000 in
set_option maxHeartbeats 4000000 in
theorem walk {B A S : Option Addr} {k kc n c m d : Nat} {l : List PI} {ks : List (List Int)} {sl : List Int} (p1 p2 q1 q2 : Int) (w : World) (h : QRd w B A S k kc n c m d l ks sl) (hl : ks.length ≤ 1152921504606846976) (hs : ∀ k ∈ ks, k.length ≤ 1152921504606846976) (hsl : sl.length ≤ 1152921504606846976) : Calls Try.prog 7 #[.agg #[.slice B k kc, .slice A n c, .slice S m d], .agg #[.int .i64 p1, .int .i64 p2], .agg #[.int .i64 q1, .int .i64 q2]] w fun e w' => e = .returned (.bool true) ∧ Q w w' := by
  have HR0 := Lib.hid h
  have HQ := Lib.hid ((((Q.refl w).alloc (Obj.cells #[.slice B k kc, .slice A n c, .slice S m d] 28)).alloc (Obj.cells #[.int .i64 p1, .int .i64 p2] 30)).alloc (Obj.cells #[.int .i64 q1, .int .i64 q2] 30))
  have hbw := (Ex.own_new8 w [.slice B k kc, .slice A n c, .slice S m d] 28).q (((Q.refl _).alloc (Obj.cells #[.int .i64 p1, .int .i64 p2] 30)).alloc (Obj.cells #[.int .i64 q1, .int .i64 q2] 30))
  have HBw := Lib.hid hbw
  have hbp := (Ex.own_new8 (w.alloc (Obj.cells #[.slice B k kc, .slice A n c, .slice S m d] 28)) [.int .i64 p1, .int .i64 p2] 30).q ((Q.refl _).alloc (Obj.cells #[.int .i64 q1, .int .i64 q2] 30))
  rw [show (w.alloc (Obj.cells #[.slice B k kc, .slice A n c, .slice S m d] 28)).heap.size = w.heap.size + 1 by simp] at hbp
  have HBp := Lib.hid hbp
  have hbq := (Ex.own_new8 ((w.alloc (Obj.cells #[.slice B k kc, .slice A n c, .slice S m d] 28)).alloc (Obj.cells #[.int .i64 p1, .int .i64 p2] 30)) [.int .i64 q1, .int .i64 q2] 30).q (Q.refl _)
  rw [show ((w.alloc (Obj.cells #[.slice B k kc, .slice A n c, .slice S m d] 28)).alloc (Obj.cells #[.int .i64 p1, .int .i64 p2] 30)).heap.size = w.heap.size + 1 + 1 by simp] at hbq
  have HBq := Lib.hid hbq
  have HRw := Lib.hid (h.q HQ.out)
  clear hbw hbp hbq
  have HKK : Hid (k = l.length) := h.hk
  clear h
  go_enter Try.func7, Try.ntmps7
  go_upto_region 1 with fail
  generalize (((w.alloc (Obj.cells #[.slice B k kc, .slice A n c, .slice S m d] 28)).alloc (Obj.cells #[.int .i64 p1, .int .i64 p2] 30)).alloc (Obj.cells #[.int .i64 q1, .int .i64 q2] 30)) = y0 at *
  go_upto_region 2 with (go_at_call 8; refine (shown11_any _).mono ?_; rintro e y1 ⟨rfl, qs⟩)
  replace HBw := Lib.hid (HBw.out.q qs)
  replace HBp := Lib.hid (HBp.out.q qs)
  replace HBq := Lib.hid (HBq.out.q qs)
  replace HRw := Lib.hid (HRw.out.q qs)
  replace HQ := Lib.hid (HQ.out.trans qs)
  clear qs
  have CF := refFew11_any B A S k kc n c m d ks y1 HRw.out.hn HRw.out.keys hl hs (by rw [HRw.out.hm]; exact hsl)
  have c_w_0 := (HBw.out.2 0 _ rfl).1
  have c_w_1 := (HBw.out.2 1 _ rfl).1
  have c_w_2 := (HBw.out.2 2 _ rfl).1
  cases hf : (Hs.fewB ks m && decide (k ≤ 300))
  · rw [hf] at CF
    have CF := Lib.hid CF
    clear hf
    go_wp2_with (go_at_call 9; refine CF.out.mono ?_; rintro e z1 ⟨rfl, r1⟩)
    go_ret
    exact ⟨rfl, HQ.out.trans r1⟩
  rw [hf] at CF
  have CF := Lib.hid CF
  rw [Bool.and_eq_true, decide_eq_true_eq] at hf
  obtain ⟨hf, h300⟩ := hf
  have hfs := Hs.few_sum hf
  have hfl := Hs.few_lens hf
  have hll : l.length ≤ 300 := by have := HKK.out; omega
  have hkl : ks.length ≤ 2000 := by omega
  clear hf h300 hfs
  have CG := fun (U : World) (q : Q y1 U) => refRight11_any B A S k kc n c m d l ks sl U (HRw.out.q q) (by omega) (by omega) hfl (by unfold maxLen; omega)
  cases hr : rightQB l ks sl
  · rw [hr] at CG
    have CG := Lib.hid CG
    clear hr
    go_wp2_with (first
      | (go_at_call 9; refine CF.out.mono ?_; rintro e z1 ⟨rfl, r1⟩; have w0 := ((HBw.out.q r1).2 0 _ rfl).1; have w1 := ((HBw.out.q r1).2 1 _ rfl).1; have w2 := ((HBw.out.q r1).2 2 _ rfl).1)
      | (go_at_call 10; refine (CG.out _ r1).mono ?_; rintro e z2 ⟨rfl, r2⟩))
    go_ret
    exact ⟨rfl, (HQ.out.trans r1).trans r2⟩
  rw [hr] at CG
  have CG := Lib.hid CG
  have ok := rightQ_iff.1 hr
  clear hr
  have hsl0 := ok.lay
  subst hsl0
  by_cases h40 : l.length ≤ 40
  rotate_left
  · have g40 : (40 : Int) < (k : Int) := by have := HKK.out; omega
    clear h40
    go_wp2_with (first
      | (go_at_call 9; refine CF.out.mono ?_; rintro e z1 ⟨rfl, r1⟩; have w0 := ((HBw.out.q r1).2 0 _ rfl).1; have w1 := ((HBw.out.q r1).2 1 _ rfl).1; have w2 := ((HBw.out.q r1).2 2 _ rfl).1)
      | (go_at_call 10; refine (CG.out _ r1).mono ?_; rintro e z2 ⟨rfl, r2⟩; have v0 := ((HBw.out.q (r1.trans r2)).2 0 _ rfl).1))
    go_ret
    exact ⟨rfl, (HQ.out.trans r1).trans r2⟩
  have g40 : ¬ (40 : Int) < (k : Int) := by have := HKK.out; omega
  go_upto_region 4 with (first
    | (go_at_call 9; refine CF.out.mono ?_; rintro e z1 ⟨rfl, r1⟩; have w0 := ((HBw.out.q r1).2 0 _ rfl).1; have w1 := ((HBw.out.q r1).2 1 _ rfl).1; have w2 := ((HBw.out.q r1).2 2 _ rfl).1)
    | (go_at_call 10; refine (CG.out _ r1).mono ?_; rintro e z2 ⟨rfl, r2⟩; have v0 := ((HBw.out.q (r1.trans r2)).2 0 _ rfl).1))
  clear c_w_0 c_w_1 c_w_2 w0 w1 w2 v0 g40
  have qs := r1.trans r2
  replace HBw := Lib.hid (HBw.out.q qs)
  replace HBp := Lib.hid (HBp.out.q qs)
  replace HBq := Lib.hid (HBq.out.q qs)
  replace HRw := Lib.hid (HRw.out.q qs)
  replace HQ := Lib.hid (HQ.out.trans qs)
  clear qs r1 r2 CF CG
  have g1 := (putQ_len l ks (p1, p2))
  have g2 := (putQ_len l ks (q1, q2))
  have g3 := (putQ_len (putQ l ks (p1, p2)) (putK ks (p1, p2)) (q1, q2))
  have g4 := (putQ_len (putQ l ks (q1, q2)) (putK ks (q1, q2)) (p1, p2))
  have g5 := (putK_len ks (p1, p2))
  have g6 := (putK_len ks (q1, q2))
  have g7 := (putK_len (putK ks (p1, p2)) (q1, q2))
  have g8 := (putK_len (putK ks (q1, q2)) (p1, p2))
  have m1 : (putQ l ks (p1, p2)).length ≤ 41 := by rw [g1]; split <;> omega
  have m2 : (putQ l ks (q1, q2)).length ≤ 41 := by rw [g2]; split <;> omega
  have m3 : (putQ (putQ l ks (p1, p2)) (putK ks (p1, p2)) (q1, q2)).length ≤ 42 := by rw [g3]; split <;> omega
  have m4 : (putQ (putQ l ks (q1, q2)) (putK ks (q1, q2)) (p1, p2)).length ≤ 42 := by rw [g4]; split <;> omega
  have m5 : (putK ks (p1, p2)).length ≤ 2001 := by rw [g5]; split <;> omega
  have m6 : (putK ks (q1, q2)).length ≤ 2001 := by rw [g6]; split <;> omega
  have m7 : (putK (putK ks (p1, p2)) (q1, q2)).length ≤ 2002 := by rw [g7]; split <;> omega
  have m8 : (putK (putK ks (q1, q2)) (p1, p2)).length ≤ 2002 := by rw [g8]; split <;> omega
  clear g1 g2 g3 g4 g5 g6 g7 g8
  have ok1 := ok.putQ (p1, p2)
  have ok2 := ok.putQ (q1, q2)
  have HBo := Lib.hid (both_put ok (p1, p2) (q1, q2))
  have c_w_0 := (HBw.out.2 0 _ rfl).1
  have c_w_1 := (HBw.out.2 1 _ rfl).1
  have c_w_2 := (HBw.out.2 2 _ rfl).1
  have c_p_0 := (HBp.out.2 0 _ rfl).1
  have c_p_1 := (HBp.out.2 1 _ rfl).1
  have CP := Lib.hid (putF_all _ _ _ _ _ _ _ _ _ l ks p1 p2 z2 HRw.out ok (by omega) (by omega))
  go_upto_region 5 with (go_at_call 11; refine CP.out.mono ?_; rintro e z3 ⟨Ba, ka, kca, Aa, na, ca, Sa, ma, da, rfl, hr, qs⟩; have HRa := Lib.hid hr.self; have HQs := Lib.hid qs; clear hr qs)
  clear c_w_0 c_w_1 c_w_2 c_p_0 c_p_1
  have hba : w.heap.size + 1 + 1 < z3.heap.size := Nat.lt_of_lt_of_le HBq.out.1 HQs.out.size
  have qs := HQs.out.trans ((Q.refl z3).alloc (Obj.cells #[.slice Ba ka kca, .slice Aa na ca, .slice Sa ma da] 28))
  replace HBw := Lib.hid (HBw.out.q qs)
  replace HBp := Lib.hid (HBp.out.q qs)
  replace HBq := Lib.hid (HBq.out.q qs)
  replace HRw := Lib.hid (HRw.out.q qs)
  replace HQ := Lib.hid (HQ.out.trans qs)
  replace HRa := Lib.hid (HRa.out.q ((Q.refl z3).alloc (Obj.cells #[.slice Ba ka kca, .slice Aa na ca, .slice Sa ma da] 28)))
  have HBa := Lib.hid (Ex.own_new8 z3 [.slice Ba ka kca, .slice Aa na ca, .slice Sa ma da] 28)
  clear qs HQs CP
  generalize hY : z3.alloc (Obj.cells #[.slice Ba ka kca, .slice Aa na ca, .slice Sa ma da] 28) = yz3 at *
  clear hY
  have c_a_0 := (HBa.out.2 0 _ rfl).1
  have c_a_1 := (HBa.out.2 1 _ rfl).1
  have c_a_2 := (HBa.out.2 2 _ rfl).1
  have c_q_0 := (HBq.out.2 0 _ rfl).1
  have c_q_1 := (HBq.out.2 1 _ rfl).1
  have CP := Lib.hid (putF_all _ _ _ _ _ _ _ _ _ (putQ l ks (p1, p2)) (putK ks (p1, p2)) q1 q2 yz3 HRa.out ok1 (by omega) (by omega))
  go_upto_region 6 with (go_at_call 11; refine CP.out.mono ?_; rintro e z4 ⟨Bf, kf, kcf, Af, nf, cf, Sf, mf, df, rfl, hr, qs⟩; have HFs := Lib.hid hr; have HQs := Lib.hid qs; have a0 := ((HBa.out.q qs).2 0 _ rfl).1; have a1 := ((HBa.out.q qs).2 1 _ rfl).1; have a2 := ((HBa.out.q qs).2 2 _ rfl).1; have b0 := ((HBa.out.q qs).2 0 _ rfl).2; have b1 := ((HBa.out.q qs).2 1 _ rfl).2; have b2 := ((HBa.out.q qs).2 2 _ rfl).2; clear hr qs)
  clear c_a_0 c_a_1 c_a_2 c_q_0 c_q_1
  have HBf := Lib.hid (own_three (HBa.out.q HQs.out) (.slice Bf kf kcf) (.slice Af nf cf) (.slice Sf mf df))
  replace HBw := Lib.hid (OwnC.far3 (HBw.out.q HQs.out) (b := z3.heap.size) (by omega) (.slice Bf kf kcf) (.slice Af nf cf) (.slice Sf mf df))
  replace HBp := Lib.hid (OwnC.far3 (HBp.out.q HQs.out) (b := z3.heap.size) (by omega) (.slice Bf kf kcf) (.slice Af nf cf) (.slice Sf mf df))
  replace HBq := Lib.hid (OwnC.far3 (HBq.out.q HQs.out) (b := z3.heap.size) (by omega) (.slice Bf kf kcf) (.slice Af nf cf) (.slice Sf mf df))
  have HQn : Hid (Q w (((z4.setCell ⟨z3.heap.size, 0, none⟩ (.slice Bf kf kcf)).setCell ⟨z3.heap.size, 1, none⟩ (.slice Af nf cf)).setCell ⟨z3.heap.size, 2, none⟩ (.slice Sf mf df))) := (((HQ.out.trans HQs.out).setCell (p := ⟨z3.heap.size, 0, none⟩) (by show w.heap.size ≤ z3.heap.size; omega) _).setCell (p := ⟨z3.heap.size, 1, none⟩) (by show w.heap.size ≤ z3.heap.size; omega) _).setCell (p := ⟨z3.heap.size, 2, none⟩) (by show w.heap.size ≤ z3.heap.size; omega) _
  replace HRw := Lib.hid (HR0.out.q HQn.out)
  have HFa := HFs
  have HTg : Hid (∀ g, Two z3.heap.size g z4 (((z4.setCell ⟨z3.heap.size, 0, none⟩ (.slice Bf kf kcf)).setCell ⟨z3.heap.size, 1, none⟩ (.slice Af nf cf)).setCell ⟨z3.heap.size, 2, none⟩ (.slice Sf mf df))) := fun g => Two.set3 (Two.refl _ _ _) _ _ _
  have hya : z3.heap.size < yz3.heap.size := HBa.out.1
  clear HQ HQs HFs CP a0 a1 a2 b0 b1 b2 HBa HRa
  have HQ := HQn
  clear HQn
  generalize hY : ((z4.setCell ⟨z3.heap.size, 0, none⟩ (.slice Bf kf kcf)).setCell ⟨z3.heap.size, 1, none⟩ (.slice Af nf cf)).setCell ⟨z3.heap.size, 2, none⟩ (.slice Sf mf df) = yz4 at *
  clear hY
  have c_w_0 := (HBw.out.2 0 _ rfl).1
  have c_w_1 := (HBw.out.2 1 _ rfl).1
  have c_w_2 := (HBw.out.2 2 _ rfl).1
  have c_q_0 := (HBq.out.2 0 _ rfl).1
  have c_q_1 := (HBq.out.2 1 _ rfl).1
  have CP := Lib.hid (putF_all _ _ _ _ _ _ _ _ _ l ks q1 q2 yz4 HRw.out ok (by omega) (by omega))
  go_upto_region 7 with (go_at_call 11; refine CP.out.mono ?_; rintro e z5 ⟨Bb, kb, kcb, Ab, nb, cb, Sb, mb, db, rfl, hr, qs⟩; have HRb := Lib.hid hr.self; have HQs := Lib.hid qs; clear hr qs)
  clear c_w_0 c_w_1 c_w_2 c_q_0 c_q_1
  have hbb : w.heap.size + 1 + 1 < z5.heap.size := Nat.lt_of_lt_of_le HBq.out.1 HQs.out.size
  have hab : z3.heap.size < z5.heap.size := Nat.lt_of_lt_of_le HBf.out.1 HQs.out.size
  have hz5 : z4.heap.size ≤ z5.heap.size := Nat.le_trans (HTg.out 0).size HQs.out.size
  have qs := HQs.out.trans ((Q.refl z5).alloc (Obj.cells #[.slice Bb kb kcb, .slice Ab nb cb, .slice Sb mb db] 28))
  replace HBw := Lib.hid (HBw.out.q qs)
  replace HBp := Lib.hid (HBp.out.q qs)
  replace HBq := Lib.hid (HBq.out.q qs)
  replace HBf := Lib.hid (HBf.out.q qs)
  replace HRw := Lib.hid (HRw.out.q qs)
  replace HQ := Lib.hid (HQ.out.trans qs)
  have HTa := Lib.hid (Two.q' (HTg.out z5.heap.size) qs)
  clear HTg
  replace HRb := Lib.hid (HRb.out.q ((Q.refl z5).alloc (Obj.cells #[.slice Bb kb kcb, .slice Ab nb cb, .slice Sb mb db] 28)))
  have HBb := Lib.hid (Ex.own_new8 z5 [.slice Bb kb kcb, .slice Ab nb cb, .slice Sb mb db] 28)
  clear qs HQs CP
  generalize hY : z5.alloc (Obj.cells #[.slice Bb kb kcb, .slice Ab nb cb, .slice Sb mb db] 28) = yz5 at *
  clear hY
  have c_b_0 := (HBb.out.2 0 _ rfl).1
  have c_b_1 := (HBb.out.2 1 _ rfl).1
  have c_b_2 := (HBb.out.2 2 _ rfl).1
  have c_p_0 := (HBp.out.2 0 _ rfl).1
  have c_p_1 := (HBp.out.2 1 _ rfl).1
  have CP := Lib.hid (putF_all _ _ _ _ _ _ _ _ _ (putQ l ks (q1, q2)) (putK ks (q1, q2)) p1 p2 yz5 HRb.out ok2 (by omega) (by omega))
  go_upto_region 8 with (go_at_call 11; refine CP.out.mono ?_; rintro e z6 ⟨Bh, kh, kch, Ah, nh, ch, Sh, mh, dh, rfl, hr, qs⟩; have HFs := Lib.hid hr; have HQs := Lib.hid qs; have a0 := ((HBb.out.q qs).2 0 _ rfl).1; have a1 := ((HBb.out.q qs).2 1 _ rfl).1; have a2 := ((HBb.out.q qs).2 2 _ rfl).1; have b0 := ((HBb.out.q qs).2 0 _ rfl).2; have b1 := ((HBb.out.q qs).2 1 _ rfl).2; have b2 := ((HBb.out.q qs).2 2 _ rfl).2; clear hr qs)
  clear c_b_0 c_b_1 c_b_2 c_p_0 c_p_1
  have HBh := Lib.hid (own_three (HBb.out.q HQs.out) (.slice Bh kh kch) (.slice Ah nh ch) (.slice Sh mh dh))
  replace HBw := Lib.hid (OwnC.far3 (HBw.out.q HQs.out) (b := z5.heap.size) (by omega) (.slice Bh kh kch) (.slice Ah nh ch) (.slice Sh mh dh))
  replace HBp := Lib.hid (OwnC.far3 (HBp.out.q HQs.out) (b := z5.heap.size) (by omega) (.slice Bh kh kch) (.slice Ah nh ch) (.slice Sh mh dh))
  replace HBq := Lib.hid (OwnC.far3 (HBq.out.q HQs.out) (b := z5.heap.size) (by omega) (.slice Bh kh kch) (.slice Ah nh ch) (.slice Sh mh dh))
  replace HBf := Lib.hid (OwnC.far3 (HBf.out.q HQs.out) (b := z5.heap.size) (by omega) (.slice Bh kh kch) (.slice Ah nh ch) (.slice Sh mh dh))
  have HQn : Hid (Q w (((z6.setCell ⟨z5.heap.size, 0, none⟩ (.slice Bh kh kch)).setCell ⟨z5.heap.size, 1, none⟩ (.slice Ah nh ch)).setCell ⟨z5.heap.size, 2, none⟩ (.slice Sh mh dh))) := (((HQ.out.trans HQs.out).setCell (p := ⟨z5.heap.size, 0, none⟩) (by show w.heap.size ≤ z5.heap.size; omega) _).setCell (p := ⟨z5.heap.size, 1, none⟩) (by show w.heap.size ≤ z5.heap.size; omega) _).setCell (p := ⟨z5.heap.size, 2, none⟩) (by show w.heap.size ≤ z5.heap.size; omega) _
  replace HRw := Lib.hid (HR0.out.q HQn.out)
  have HTb : Hid (Two z5.heap.size z3.heap.size z6 (((z6.setCell ⟨z5.heap.size, 0, none⟩ (.slice Bh kh kch)).setCell ⟨z5.heap.size, 1, none⟩ (.slice Ah nh ch)).setCell ⟨z5.heap.size, 2, none⟩ (.slice Sh mh dh))) := Two.set3 (Two.refl _ _ _) _ _ _
  have hyb : z5.heap.size < yz5.heap.size := HBb.out.1
  have HFb := HFs
  replace HTa := Lib.hid (Two.set3g (Two.q' HTa.out HQs.out) (.slice Bh kh kch) (.slice Ah nh ch) (.slice Sh mh dh))
  clear HQ HQs HFs CP a0 a1 a2 b0 b1 b2 HBb HRb
  have HQ := HQn
  clear HQn
  generalize hY : ((z6.setCell ⟨z5.heap.size, 0, none⟩ (.slice Bh kh kch)).setCell ⟨z5.heap.size, 1, none⟩ (.slice Ah nh ch)).setCell ⟨z5.heap.size, 2, none⟩ (.slice Sh mh dh) = yz6 at *
  clear hY
  have HRf := Lib.hid (QFr.two HFa.out HTa.out (.inl (by omega)) (.inr hz5))
  have HRh := Lib.hid (QFr.two HFb.out HTb.out (.inl (by omega)) (.inl (by omega)))
  have hke : kf = kh := by rw [HRf.out.hk, HRh.out.hk, HBo.out.perm.length_eq]
  subst hke
  have HL0 : Hid ((putQ (putQ l ks (p1, p2)) (putK ks (p1, p2)) (q1, q2)).length ≤ 42 - 0) := m3
  clear HTa HTb HFa HFb HRw HBw HBp HBq m1 m2 m3 m4 m5 m6 ok1 ok2 ok hz5
  have c_f_0 := (HBf.out.2 0 _ rfl).1
  have c_h_0 := (HBh.out.2 0 _ rfl).1
  go_upto_region 10 with fail
  clear c_f_0 c_h_0
  generalize (putQ (putQ l ks (p1, p2)) (putK ks (p1, p2)) (q1, q2)) = L0 at *
  generalize (putQ (putQ l ks (q1, q2)) (putK ks (q1, q2)) (p1, p2)) = M0 at *
  generalize (putK (putK ks (p1, p2)) (q1, q2)) = KA at *
  generalize (putK (putK ks (q1, q2)) (p1, p2)) = KB at *
  generalize z3.heap.size = ba at *
  generalize z5.heap.size = bb at *
  have hbn : ba ≠ bb := by omega
  go_wp2_with fail
  go_loopw [12] (fun v wr => ∃ (i : Nat) (L M : List PI) (B1 A1 S1 : Option Addr) (k1 kc1 n1 c1 m1 d1 : Nat) (B2 A2 S2 : Option Addr) (k2 kc2 n2 c2 m2 d2 : Nat), v = .int .i64 (i : Int) ∧ i ≤ 43 ∧ Hid (Both L M KA KB) ∧ Hid (L.length ≤ 42 - i) ∧ Hid (OwnC wr ba [.slice B1 k1 kc1, .slice A1 n1 c1, .slice S1 m1 d1]) ∧ Hid (OwnC wr bb [.slice B2 k2 kc2, .slice A2 n2 c2, .slice S2 m2 d2]) ∧ Hid (QRd wr B1 A1 S1 k1 kc1 n1 c1 m1 d1 L KA (layI KA)) ∧ Hid (QRd wr B2 A2 S2 k2 kc2 n2 c2 m2 d2 M KB (layI KB)) ∧ Hid (Q w wr)) (fun v _ => 43 - (intOf v).toNat)
  case atStart => exact ⟨0, L0, M0, Bf, Af, Sf, kf, kcf, nf, cf, mf, df, Bh, Ah, Sh, kf, kch, nh, ch, mh, dh, by go_num, by omega, HBo, HL0, HBf, HBh, HRf, HRh, HQ⟩
  case round =>
    clear HBo HL0 HBf HBh HRf HRh HQ
    obtain ⟨i, L, M, B1, A1, S1, k1, kc1, n1, c1, m1, d1, B2, A2, S2, k2, kc2, n2, c2, m2, d2, rfl, hi, HBo, HLl, HB1, HB2, HR1, HR2, HQ⟩ := hrel
    have hl1 : L.length ≤ 42 := by have := HLl.out; omega
    have hl2 : M.length ≤ 42 := by rw [← HBo.out.perm.length_eq]; exact hl1
    by_cases hlt : i < 43
    · have hik : (i : Int) < 43 := by omega
      obtain ⟨hx, hnb⟩ := HBo.out.next
      have HNb := Lib.hid hnb
      have CN1 := Lib.hid (nextF_all _ _ _ _ _ _ _ _ _ L KA wr HR1.out HBo.out.okL (by omega) (by omega))
      have CN2 := fun (U : World) (q : Q wr U) => nextF_all _ _ _ _ _ _ _ _ _ M KB U (HR2.out.q q) HBo.out.okM (by omega) (by omega)
      rw [← hx, ← HBo.out.perm.length_eq] at CN2
      have CN2 := Lib.hid CN2
      have HLn : Hid ((nextQ L).length ≤ 42 - (i + 1)) := by
        unfold Hid
        by_cases h0 : 0 < L.length
        · have h5 := next_len h0; have h6 := HLl.out; omega
        · have h5 := nextQ_le L; omega
      clear hx hnb
      generalize decide (0 < L.length) = bl at *
      generalize nextX L = x at *
      obtain ⟨x1, x2⟩ := x
      have x0 := (HB1.out.2 0 _ rfl).1
      have x1' := (HB1.out.2 1 _ rfl).1
      have x2' := (HB1.out.2 2 _ rfl).1
      have hsa := HB1.out.1
      have hsb := HB2.out.1
      have hwa : w.heap.size ≤ ba := by omega
      have hwb : w.heap.size ≤ bb := by omega
      go_upto_region 14 with (go_at_call 12; refine CN1.out.mono ?_; rintro e w5 ⟨Bc, kc, kcc, Ac, nc, cc, Sc, mc, dc, rfl, hr, qs⟩; have HFc := Lib.hid hr; have HQc := Lib.hid qs; clear hr qs)
      clear x0 x1' x2'
      have qs := HQc.out.trans (((Q.refl w5).alloc (Obj.cells #[.slice Bc kc kcc, .slice Ac nc cc, .slice Sc mc dc] 28)).alloc (Obj.cells #[.int .i64 x1, .int .i64 x2] 30))
      have HBc := Lib.hid ((Ex.own_new8 w5 [.slice Bc kc kcc, .slice Ac nc cc, .slice Sc mc dc] 28).q ((Q.refl _).alloc (Obj.cells #[.int .i64 x1, .int .i64 x2] 30)))
      have hx := Ex.own_new8 (w5.alloc (Obj.cells #[.slice Bc kc kcc, .slice Ac nc cc, .slice Sc mc dc] 28)) [.int .i64 x1, .int .i64 x2] 30
      rw [show (w5.alloc (Obj.cells #[.slice Bc kc kcc, .slice Ac nc cc, .slice Sc mc dc] 28)).heap.size = w5.heap.size + 1 by simp] at hx
      have HX := Lib.hid hx
      have Hq5 := Lib.hid (((Q.refl w5).alloc (Obj.cells #[.slice Bc kc kcc, .slice Ac nc cc, .slice Sc mc dc] 28)).alloc (Obj.cells #[.int .i64 x1, .int .i64 x2] 30))
      have Hqs := Lib.hid qs
      clear qs hx
      generalize (w5.alloc (Obj.cells #[.slice Bc kc kcc, .slice Ac nc cc, .slice Sc mc dc] 28)).alloc (Obj.cells #[.int .i64 x1, .int .i64 x2] 30) = y5 at *
      have x0 := ((HB2.out.q Hqs.out).2 0 _ rfl).1
      have x1' := ((HB2.out.q Hqs.out).2 1 _ rfl).1
      have x2' := ((HB2.out.q Hqs.out).2 2 _ rfl).1
      go_upto_region 15 with (go_at_call 12; refine (CN2.out _ Hqs.out).mono ?_; rintro e w6 ⟨Bd, kd, kcd, Ad, nd, cd, Sd, md, dd, rfl, hr, qs⟩; have HFd := Lib.hid hr; have HQd := Lib.hid qs; clear hr qs)
      clear x0 x1' x2'
      have hbd := (Ex.own_new8 w6 [.slice Bd kd kcd, .slice Ad nd cd, .slice Sd md dd] 28).q ((Q.refl _).alloc (Obj.cells #[.int .i64 x1, .int .i64 x2] 30))
      have HBd := Lib.hid hbd
      have hx := Ex.own_new8 (w6.alloc (Obj.cells #[.slice Bd kd kcd, .slice Ad nd cd, .slice Sd md dd] 28)) [.int .i64 x1, .int .i64 x2] 30
      rw [show (w6.alloc (Obj.cells #[.slice Bd kd kcd, .slice Ad nd cd, .slice Sd md dd] 28)).heap.size = w6.heap.size + 1 by simp] at hx
      have HY := Lib.hid hx
      have Hq6 := Lib.hid (((Q.refl w6).alloc (Obj.cells #[.slice Bd kd kcd, .slice Ad nd cd, .slice Sd md dd] 28)).alloc (Obj.cells #[.int .i64 x1, .int .i64 x2] 30))
      have HX6 := Lib.hid ((HX.out.q HQd.out).q Hq6.out)
      have HBc6 := Lib.hid ((HBc.out.q HQd.out).q Hq6.out)
      have HB16 := Lib.hid (((HB1.out.q Hqs.out).q HQd.out).q Hq6.out)
      have HB26 := Lib.hid (((HB2.out.q Hqs.out).q HQd.out).q Hq6.out)
      clear hbd hx
      generalize (w6.alloc (Obj.cells #[.slice Bd kd kcd, .slice Ad nd cd, .slice Sd md dd] 28)).alloc (Obj.cells #[.int .i64 x1, .int .i64 x2] 30) = y6 at *
      have v0 := (HX6.out.2 0 _ rfl).1
      have v1 := (HX6.out.2 1 _ rfl).1
      have v2 := (HY.out.2 0 _ rfl).1
      have v3 := (HY.out.2 1 _ rfl).1
      have hne : ∀ u, (binOp .neq 30 (.agg #[.int .i64 x1, .int .i64 x2]) (.agg #[.int .i64 x1, .int .i64 x2])).run Try.prog u = .ok (.bool false) u := fun u => by
        have := run_neq_pair u (x1, x2) (x1, x2)
        rwa [(eqP_iff (x1, x2) (x1, x2)).2 rfl] at this
      have t0 := (HBc6.out.2 0 _ rfl).1
      have t1 := (HBc6.out.2 1 _ rfl).1
      have t2 := (HBc6.out.2 2 _ rfl).1
      have s0 := (HB16.out.2 0 _ rfl).1
      have s1 := (HB16.out.2 1 _ rfl).1
      have s2 := (HB16.out.2 2 _ rfl).1
      have s3 := (HB16.out.2 0 _ rfl).2
      have s4 := (HB16.out.2 1 _ rfl).2
      have s5 := (HB16.out.2 2 _ rfl).2
      go_upto_region 18 with fail
      clear v0 v1 v2 v3 hne t0 t1 t2 s0 s1 s2 s3 s4 s5
      have hs5 := Hqs.out.size
      have hs6 := HQd.out.size
      have hsd := HQc.out.size
      have HBa7 := Lib.hid (own_three HB16.out (.slice Bc kc kcc) (.slice Ac nc cc) (.slice Sc mc dc))
      have HBd7 := Lib.hid (OwnC.far3 HBd.out (b := ba) (by omega) (.slice Bc kc kcc) (.slice Ac nc cc) (.slice Sc mc dc))
      have HB27 := Lib.hid (OwnC.far3 HB26.out (b := ba) hbn (.slice Bc kc kcc) (.slice Ac nc cc) (.slice Sc mc dc))
      have HT6 : Hid (Two ba bb y6 (((y6.setCell ⟨ba, 0, none⟩ (.slice Bc kc kcc)).setCell ⟨ba, 1, none⟩ (.slice Ac nc cc)).setCell ⟨ba, 2, none⟩ (.slice Sc mc dc))) := Two.set3 (Two.refl _ _ _) _ _ _
      have HQ7 : Hid (Q w (((y6.setCell ⟨ba, 0, none⟩ (.slice Bc kc kcc)).setCell ⟨ba, 1, none⟩ (.slice Ac nc cc)).setCell ⟨ba, 2, none⟩ (.slice Sc mc dc))) := Two.below (b := ba) (g := bb) (((HQ.out.trans Hqs.out).trans HQd.out).trans Hq6.out) HT6.out hwa hwb
      generalize hY : ((y6.setCell ⟨ba, 0, none⟩ (.slice Bc kc kcc)).setCell ⟨ba, 1, none⟩ (.slice Ac nc cc)).setCell ⟨ba, 2, none⟩ (.slice Sc mc dc) = W7 at *
      clear hY
      have t0 := (HBd7.out.2 0 _ rfl).1
      have t1 := (HBd7.out.2 1 _ rfl).1
      have t2 := (HBd7.out.2 2 _ rfl).1
      have s0 := (HB27.out.2 0 _ rfl).1
      have s1 := (HB27.out.2 1 _ rfl).1
      have s2 := (HB27.out.2 2 _ rfl).1
      have s3 := (HB27.out.2 0 _ rfl).2
      have s4 := (HB27.out.2 1 _ rfl).2
      have s5 := (HB27.out.2 2 _ rfl).2
      have HBb8 := Lib.hid (own_three HB27.out (.slice Bd kd kcd) (.slice Ad nd cd) (.slice Sd md dd))
      have HBa8 := Lib.hid (OwnC.far3 HBa7.out (b := bb) (fun e => hbn e.symm) (.slice Bd kd kcd) (.slice Ad nd cd) (.slice Sd md dd))
      have HT8 := Lib.hid (Two.set3g (b := ba) (g := bb) HT6.out (.slice Bd kd kcd) (.slice Ad nd cd) (.slice Sd md dd))
      have HQ8 : Hid (Q w (((W7.setCell ⟨bb, 0, none⟩ (.slice Bd kd kcd)).setCell ⟨bb, 1, none⟩ (.slice Ad nd cd)).setCell ⟨bb, 2, none⟩ (.slice Sd md dd))) := Two.below (b := ba) (g := bb) HQ7.out (Two.set3g (Two.refl _ _ _) (.slice Bd kd kcd) (.slice Ad nd cd) (.slice Sd md dd)) hwa hwb
      have HRc := Lib.hid (QFr.two HFc.out ((Two.of_q ((Hq5.out.trans HQd.out).trans Hq6.out)).trans HT8.out) (.inl hsa) (.inl hsb))
      have HRd := Lib.hid (QFr.two HFd.out ((Two.of_q Hq6.out).trans HT8.out) (.inl (by omega)) (.inl (by omega)))
      clear HBa7 HB27 HBd7 HT6 HT8 HQ7 HB16 HB26 HBd HBc6 HX6 HY HX HBc HFc HFd CN1 CN2
      go_wp2_with fail
      go_roundw
      case rel => exact ⟨i + 1, nextQ L, nextQ M, Bc, Ac, Sc, kc, kcc, nc, cc, mc, dc, Bd, Ad, Sd, kd, kcd, nd, cd, md, dd, by go_num, by omega, HNb, HLn, HBa8, HBb8, HRc, HRd, HQ8⟩
      case measure => simp [intOf]; omega
    · have hik : ¬ (i : Int) < 43 := by omega
      have h00 : L.length = 0 := by have := HLl.out; omega
      have h01 : M.length = 0 := by rw [← HBo.out.perm.length_eq]; exact h00
      have hk1 : k1 = 0 := by rw [HR1.out.hk]; exact h00
      have hk2 : ((k1 : Int) == 0) = true := by rw [hk1]; rfl
      have CE := refPairsEq_any B1 B2 k1 kc1 k2 kc2 L M wr HR1.out.hk HR2.out.hk HR1.out.rd HR2.out.rd (by omega)
      rw [show sameQ L M = true from (sameQ_iff L M).2 (by rw [List.length_eq_zero_iff.1 h00, List.length_eq_zero_iff.1 h01])] at CE
      have HCE := Lib.hid CE
      clear CE h00 h01 hk1 hl1 hl2
      have x0 := (HB1.out.2 0 _ rfl).1
      have x1 := (HB2.out.2 0 _ rfl).1
      go_wp2_with (go_at_call 20; refine HCE.out.mono ?_; rintro e w5 ⟨rfl, q5⟩)
      go_ret
      exact ⟨rfl, HQ.out.trans q5⟩

set_option maxRecDepth 100000 in
theorem lifted (os : Os) (started : os.Started) (H : Type) (enc : TypeId × Value → H) :
    ReturnsInHanded {} Try.checked os 7 .any (Rows.workOrderSpec.pre6 enc Try.prog Try.f7 Rows.workOrderRow.domain false) (Rows.workOrderSpec.post enc Try.prog Try.f7 false true false false) := by
  refine returnsInHanded_of_change_sized (C := Try.checked) own started (by kernel_rfl) Try.func7
    (ChangeSpec.witness6 (enc := enc) (C := Try.checked) false ⟨#[], #[.agg #[.slice none 0 0, .slice none 0 0, .slice none 0 0], .agg #[.int .i64 0, .int .i64 0], .agg #[.int .i64 0, .int .i64 0]], []⟩ 8 (by kernel_rfl) (by kernel_rfl) (by kernel_rfl) (by kernel_rfl)) ?_
  intro W base args ds gs before hval0 hW hcnd hsz0 _
  have hval : ∀ (j : Nat) t v, Try.f7.params[j]? = some t → args[j]? = some v → Value.okWide Try.prog W .any base t v := hval0
  have hW' := hW
  obtain ⟨p, q, hA0, hV, rfl, hfz, hnd⟩ := hW
  have hA : DataW.TrodAll enc Try.prog W 0 (fun _ => true) true Try.f7.params.toList args.toList ds p := hA0
  rw [Try.params7] at hA hval
  obtain ⟨v0, vs0, d0, ds0, p0, q0, hargs, rfl, rfl, h0, r0⟩ := trodAll_cons hA
  obtain ⟨v1, vs1, d1, ds1, p1, q1, rfl, rfl, rfl, h1, r1⟩ := trodAll_cons r0
  obtain ⟨v2, vs2, d2, ds2, p2, q2, rfl, rfl, rfl, h2, r2⟩ := trodAll_cons r1
  obtain ⟨rfl, rfl, rfl⟩ := trodAll_nil r2
  obtain rfl : args = #[v0, v1, v2] := by cases args; simp_all
  obtain ⟨rfl, rfl⟩ := trodVars_none hV
  have z0 : ∀ n ∈ d0.weights Try.prog 28, n ≤ reachBytes := fun n hn => by
    have := List.all_eq_true.1 hsz0 n (DataW.weights_mem_each (j := 0) (t := 28) (d := d0) (by rw [Try.params7]; rfl) rfl n hn)
    simpa using this
  have z1 : ∀ n ∈ d1.weights Try.prog 30, n ≤ reachBytes := fun n hn => by
    have := List.all_eq_true.1 hsz0 n (DataW.weights_mem_each (j := 1) (t := 30) (d := d1) (by rw [Try.params7]; rfl) rfl n hn)
    simpa using this
  have z2 : ∀ n ∈ d2.weights Try.prog 30, n ≤ reachBytes := fun n hn => by
    have := List.all_eq_true.1 hsz0 n (DataW.weights_mem_each (j := 2) (t := 30) (d := d2) (by rw [Try.params7]; rfl) rfl n hn)
    simpa using this
  obtain ⟨B, A, S, k, kc, n, c, m, e, l, ks, sl, rfl, hq, _, hl, hs, hsl⟩ := open_queue (hval 0 28 v0 rfl rfl) h0 z0
  obtain ⟨⟨x1, x2⟩, rfl⟩ := open_pair11 (hval 1 30 v1 rfl rfl) h1
  obtain ⟨⟨u1, u2⟩, rfl⟩ := open_pair11 (hval 2 30 v2 rfl rfl) h2
  clear hA0 hval0
  refine (walk x1 x2 u1 u2 W hq hl hs hsl).mono fun e W' ⟨he, hg⟩ => ?_
  subst he
  exact ⟨_, rfl, post_law laid (by rw [Try.params7]; decide +kernel) rfl rfl (by kernel_rfl) Try.underlying4 hW' hg⟩

/-- THE STATEMENT -/
theorem proved : Rows.WorkOrderSaid :=
  OpenClaim.holds_of_wide 7 Try.f7 rfl rfl rfl rfl rfl rfl rfl ⟨rfl, rfl, rfl, rfl, rfl⟩ rfl rfl rfl rfl rfl (by kernel_rfl) Try.func7 (by kernel_rfl)
    (of_decide_eq_true (by kernel_rfl)) (by unfold Func.isWrapper; first | (rw [if_pos (by decide +kernel)]; kernel_rfl) | (rw [if_neg (by decide +kernel)]; exact ⟨rfl, rfl⟩))
    (fun os started H enc _ => lifted os started H enc)
end Go.Proofs.Ytjgbheidkjgncaa.workOrder
