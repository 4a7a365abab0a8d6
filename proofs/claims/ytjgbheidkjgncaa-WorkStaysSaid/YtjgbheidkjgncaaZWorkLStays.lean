/-
  WorkStays: what comes out is right; what comes is less than none that waits still; it comes no more: for every queue and pair.
-/
import Derived.Test.YtjgbheidkjgncaaPh
import Derived.Test.YtjgbheidkjgncaaPi
import Derived.Test.YtjgbheidkjgncaaRows
import Derived.OpenShut
import Derived.RegionTactic
import Derived.Deep.CutBlock
namespace Go.Proofs.Ytjgbheidkjgncaa.workStays
open Go.ChangeShapes Go.WideShapes Go.RowKit Kit Rw Wk
open Go.Proofs.Ytjgbheidkjgncaa.St
open Go.Proofs.Ytjgbheidkjgncaa.Hs (Keys Ints layI putL placeI newB Dist atI)
theorem least11 {l : List PI} (h : Heap l) : ∀ z ∈ nextQ l, ¬ ltP z (nextX l) := fun z hz => by
  unfold nextQ at hz
  unfold nextX
  by_cases h0 : 0 < l.length
  · rw [if_pos h0] at hz ⊢
    exact heap_least h (nextH_mem h0 hz)
  · rw [if_neg h0] at hz
    exact absurd (List.length_pos_of_mem hz) h0
theorem next_x (l : List PI) : 0 < l.length → nextX l ∈ l := fun h => by
  unfold nextX; rw [if_pos h]; exact first_mem h
theorem next_not {l : List PI} (h : l.Nodup) : 0 < l.length → nextX l ∉ nextQ l := fun h0 => by
  unfold nextX nextQ; rw [if_pos h0, if_pos h0]; exact (nextH_nodup h0 h).2
set_option maxRecDepth 100000 in
set_option maxHeartbeats 4000000 in
theorem walk {B A S : Option Addr} {k kc n c m d : Nat} {l : List PI} {ks : List (List Int)} {sl : List Int} (p1 p2 : Int) (w : World) (h : QRd w B A S k kc n c m d l ks sl) (hl : ks.length ≤ 1152921504606846976) (hs : ∀ k ∈ ks, k.length ≤ 1152921504606846976) (hsl : sl.length ≤ 1152921504606846976) : Calls Try.prog 3 #[.agg #[.slice B k kc, .slice A n c, .slice S m d], .agg #[.int .i64 p1, .int .i64 p2]] w fun e w' => e = .returned (.bool true) ∧ Q w w' := by
  have HQ := Lib.hid (((Q.refl w).alloc (Obj.cells #[.slice B k kc, .slice A n c, .slice S m d] 28)).alloc (Obj.cells #[.int .i64 p1, .int .i64 p2] 30))
  have hbw := (Ex.own_new8 w [.slice B k kc, .slice A n c, .slice S m d] 28).q ((Q.refl _).alloc (Obj.cells #[.int .i64 p1, .int .i64 p2] 30))
  have HBw := Lib.hid hbw
  have hbp := (Ex.own_new8 (w.alloc (Obj.cells #[.slice B k kc, .slice A n c, .slice S m d] 28)) [.int .i64 p1, .int .i64 p2] 30).q (Q.refl _)
  rw [show (w.alloc (Obj.cells #[.slice B k kc, .slice A n c, .slice S m d] 28)).heap.size = w.heap.size + 1 by simp] at hbp
  have HBp := Lib.hid hbp
  have HRw := Lib.hid (h.q HQ.out)
  clear hbw hbp
  have HKK : Hid (k = l.length) := h.hk
  clear h
  go_enter Try.func3, Try.ntmps3
  go_upto_region 1 with fail
  generalize ((w.alloc (Obj.cells #[.slice B k kc, .slice A n c, .slice S m d] 28)).alloc (Obj.cells #[.int .i64 p1, .int .i64 p2] 30)) = y0 at *
  go_upto_region 2 with (go_at_call 8; refine (shown11_any _).mono ?_; rintro e y1 ⟨rfl, qs⟩)
  replace HBw := Lib.hid (HBw.out.q qs)
  replace HBp := Lib.hid (HBp.out.q qs)
  replace HRw := Lib.hid (HRw.out.q qs)
  replace HQ := Lib.hid (HQ.out.trans qs)
  clear qs
  have CF := refFew11_any B A S k kc n c m d ks y1 HRw.out.hn HRw.out.keys hl hs (by rw [HRw.out.hm]; exact hsl)
  have c_w_0 := (HBw.out.2 0 _ rfl).1
  have c_w_1 := (HBw.out.2 1 _ rfl).1
  have c_w_2 := (HBw.out.2 2 _ rfl).1
  cases hf : (Hs.fewB ks m && decide (k ≤ 300))
  · rw [hf] at CF
    have CF := Lib.hid CF
    clear hf
    go_wp2_with (go_at_call 9; refine CF.out.mono ?_; rintro e z1 ⟨rfl, r1⟩)
    go_ret
    exact ⟨rfl, HQ.out.trans r1⟩
  rw [hf] at CF
  have CF := Lib.hid CF
  rw [Bool.and_eq_true, decide_eq_true_eq] at hf
  obtain ⟨hf, h300⟩ := hf
  have hfs := Hs.few_sum hf
  have hfl := Hs.few_lens hf
  have hll : l.length ≤ 300 := by have := HKK.out; omega
  have hkl : ks.length ≤ 2000 := by omega
  clear hf h300 hfs
  have CG := fun (U : World) (q : Q y1 U) => refRight11_any B A S k kc n c m d l ks sl U (HRw.out.q q) (by omega) (by omega) hfl (by unfold maxLen; omega)
  cases hr : rightQB l ks sl
  · rw [hr] at CG
    have CG := Lib.hid CG
    clear hr
    go_wp2_with (first
      | (go_at_call 9; refine CF.out.mono ?_; rintro e z1 ⟨rfl, r1⟩; have w0 := ((HBw.out.q r1).2 0 _ rfl).1; have w1 := ((HBw.out.q r1).2 1 _ rfl).1; have w2 := ((HBw.out.q r1).2 2 _ rfl).1)
      | (go_at_call 10; refine (CG.out _ r1).mono ?_; rintro e z2 ⟨rfl, r2⟩))
    go_ret
    exact ⟨rfl, (HQ.out.trans r1).trans r2⟩
  rw [hr] at CG
  have CG := Lib.hid CG
  have ok := rightQ_iff.1 hr
  clear hr
  have hsl0 := ok.lay
  subst hsl0
  go_upto_region 4 with (first
    | (go_at_call 9; refine CF.out.mono ?_; rintro e z1 ⟨rfl, r1⟩; have w0 := ((HBw.out.q r1).2 0 _ rfl).1; have w1 := ((HBw.out.q r1).2 1 _ rfl).1; have w2 := ((HBw.out.q r1).2 2 _ rfl).1)
    | (go_at_call 10; refine (CG.out _ r1).mono ?_; rintro e z2 ⟨rfl, r2⟩))
  clear c_w_0 c_w_1 c_w_2 w0 w1 w2
  have qs := r1.trans r2
  replace HBw := Lib.hid (HBw.out.q qs)
  replace HBp := Lib.hid (HBp.out.q qs)
  replace HRw := Lib.hid (HRw.out.q qs)
  replace HQ := Lib.hid (HQ.out.trans qs)
  clear qs r1 r2 CF CG
  have c_w_0 := (HBw.out.2 0 _ rfl).1
  have c_w_1 := (HBw.out.2 1 _ rfl).1
  have c_w_2 := (HBw.out.2 2 _ rfl).1
  have c_p_0 := (HBp.out.2 0 _ rfl).1
  have c_p_1 := (HBp.out.2 1 _ rfl).1
  have CP := Lib.hid (putW_all _ _ _ _ _ _ _ _ _ l ks (p1) (p2) z2 HRw.out ok (by omega) (by omega))
  go_upto_region 5 with (go_at_call 11; refine CP.out.mono ?_; rintro e z3 ⟨Ba, ka, kca, Aa, na, ca, Sa, ma, da, rfl, hr, qs⟩; have HRa := Lib.hid hr; have HQs := Lib.hid qs; clear hr qs)
  clear c_w_0 c_w_1 c_w_2 c_p_0 c_p_1
  have qs := HQs.out.trans ((Q.refl z3).alloc (Obj.cells #[.slice Ba ka kca, .slice Aa na ca, .slice Sa ma da] 28))
  replace HBw := Lib.hid (HBw.out.q qs)
  replace HBp := Lib.hid (HBp.out.q qs)
  replace HRw := Lib.hid (HRw.out.q qs)
  replace HQ := Lib.hid (HQ.out.trans qs)
  replace HRa := Lib.hid (HRa.out.q ((Q.refl z3).alloc (Obj.cells #[.slice Ba ka kca, .slice Aa na ca, .slice Sa ma da] 28)))
  have HBa := Lib.hid (Ex.own_new8 z3 [.slice Ba ka kca, .slice Aa na ca, .slice Sa ma da] 28)
  clear qs HQs CP
  generalize hY : z3.alloc (Obj.cells #[.slice Ba ka kca, .slice Aa na ca, .slice Sa ma da] 28) = yz3 at *
  clear hY
  have oka := ok.putQ (p1, p2)
  have hla := putQ_len l ks (p1, p2)
  have hka := putK_len ks (p1, p2)
  have hla5 : (putQ l ks (p1, p2)).length ≤ 301 := by rw [hla]; split <;> omega
  have hka5 : (putK ks (p1, p2)).length ≤ 2001 := by rw [hka]; split <;> omega
  have HLa := Lib.hid hla
  clear hla hka
  have c_a_0 := (HBa.out.2 0 _ rfl).1
  have c_a_1 := (HBa.out.2 1 _ rfl).1
  have c_a_2 := (HBa.out.2 2 _ rfl).1
  have CP := Lib.hid (nextW_all _ _ _ _ _ _ _ _ _ (putQ l ks (p1, p2)) (putK ks (p1, p2)) yz3 HRa.out oka (by omega) (by omega))
  go_upto_region 6 with (go_at_call 12; refine CP.out.mono ?_; rintro e z4 ⟨Bb, kb, kcb, Ab, nb, cb, Sb, mb, db, rfl, hr, qs⟩; have HRb := Lib.hid hr; have HQs := Lib.hid qs; clear hr qs)
  clear c_a_0 c_a_1 c_a_2
  have qs := HQs.out.trans (((Q.refl z4).alloc (Obj.cells #[.slice Bb kb kcb, .slice Ab nb cb, .slice Sb mb db] 28)).alloc (Obj.cells #[.int .i64 (nextX ((putQ l ks (p1, p2)))).1, .int .i64 (nextX ((putQ l ks (p1, p2)))).2] 30))
  replace HBw := Lib.hid (HBw.out.q qs)
  replace HBp := Lib.hid (HBp.out.q qs)
  replace HBa := Lib.hid (HBa.out.q qs)
  replace HRw := Lib.hid (HRw.out.q qs)
  replace HRa := Lib.hid (HRa.out.q qs)
  replace HQ := Lib.hid (HQ.out.trans qs)
  replace HRb := Lib.hid (HRb.out.q (((Q.refl z4).alloc (Obj.cells #[.slice Bb kb kcb, .slice Ab nb cb, .slice Sb mb db] 28)).alloc (Obj.cells #[.int .i64 (nextX ((putQ l ks (p1, p2)))).1, .int .i64 (nextX ((putQ l ks (p1, p2)))).2] 30)))
  have HBb := Lib.hid ((Ex.own_new8 z4 [.slice Bb kb kcb, .slice Ab nb cb, .slice Sb mb db] 28).q ((Q.refl _).alloc (Obj.cells #[.int .i64 (nextX ((putQ l ks (p1, p2)))).1, .int .i64 (nextX ((putQ l ks (p1, p2)))).2] 30)))
  have hx := Ex.own_new8 (z4.alloc (Obj.cells #[.slice Bb kb kcb, .slice Ab nb cb, .slice Sb mb db] 28)) [.int .i64 (nextX ((putQ l ks (p1, p2)))).1, .int .i64 (nextX ((putQ l ks (p1, p2)))).2] 30
  rw [show (z4.alloc (Obj.cells #[.slice Bb kb kcb, .slice Ab nb cb, .slice Sb mb db] 28)).heap.size = z4.heap.size + 1 by simp] at hx
  have HBx := Lib.hid hx
  clear qs HQs CP hx
  generalize hY : (z4.alloc (Obj.cells #[.slice Bb kb kcb, .slice Ab nb cb, .slice Sb mb db] 28)).alloc (Obj.cells #[.int .i64 (nextX ((putQ l ks (p1, p2)))).1, .int .i64 (nextX ((putQ l ks (p1, p2)))).2] 30) = yz4 at *
  clear hY
  have okb := oka.nextQ
  have hlb : (nextQ (putQ l ks (p1, p2))).length ≤ 301 := Nat.le_trans (nextQ_le _) hla5
  have HLe := Lib.hid (least11 oka.heap)
  have HXi := Lib.hid (next_x (putQ l ks (p1, p2)))
  have HXn := Lib.hid (next_not oka.nd)
  generalize hx : nextX (putQ l ks (p1, p2)) = x at *
  obtain ⟨x1, x2⟩ := x
  clear hx
  have C1 := fun (U : World) (q : Q yz4 U) => refRight11_any Ba Aa Sa ka kca na ca ma da (putQ l ks (p1, p2)) (putK ks (p1, p2)) (layI (putK ks (p1, p2))) U (HRa.out.q q) (by omega) (by omega) (fun x hx => by rw [oka.two x hx]; unfold maxLen; omega) (by rw [Hs.layI_length]; have := Hs.sizeN_le (putK ks (p1, p2)).length; unfold maxLen; omega)
  have C2 := fun (U : World) (q : Q yz4 U) => refRight11_any Bb Ab Sb kb kcb nb cb mb db (nextQ (putQ l ks (p1, p2))) (putK ks (p1, p2)) (layI (putK ks (p1, p2))) U (HRb.out.q q) (by omega) (by omega) (fun x hx => by rw [oka.two x hx]; unfold maxLen; omega) (by rw [Hs.layI_length]; have := Hs.sizeN_le (putK ks (p1, p2)).length; unfold maxLen; omega)
  rw [rightQ_iff.2 oka] at C1
  rw [rightQ_iff.2 okb] at C2
  have HC1 := Lib.hid C1
  have HC2 := Lib.hid C2
  clear C1 C2
  have e2 : (ka : Int) = ((putQ l ks (p1, p2)).length : Int) := by rw [HRa.out.hk]
  have e4 : (k : Int) = (l.length : Int) := by rw [HRw.out.hk]
  have b2 : ka ≤ 301 := by omega
  have b3 : k ≤ 300 := by omega
  have hE : newB ks (keyP (p1, p2)) = ((ka : Int) == (k : Int) + 1) := by
    rw [e2, e4, HLa.out]
    cases newB ks (keyP (p1, p2)) <;> simp <;> omega
  clear e2 e4
  have HK2 : Hid (ka = (putQ l ks (p1, p2)).length) := HRa.out.hk
  have c_a_0 := (HBa.out.2 0 _ rfl).1
  have c_a_1 := (HBa.out.2 1 _ rfl).1
  have c_a_2 := (HBa.out.2 2 _ rfl).1
  by_cases h0 : 0 < (putQ l ks (p1, p2)).length
  · have hd := decide_eq_true h0
    have hk0 : (0 : Int) < (ka : Int) := by have := HK2.out; omega
    have hk1 : 0 < ka := by omega
    go_upto_region 8 with (first
      | (go_at_call 10; (with_reducible refine (HC1.out _ (Q.refl _)).mono ?_); rintro e z5 ⟨rfl, q5⟩; have t_b_0 := ((HBb.out.q q5).2 0 _ rfl).1; have t_b_1 := ((HBb.out.q q5).2 1 _ rfl).1; have t_b_2 := ((HBb.out.q q5).2 2 _ rfl).1)
      | (go_at_call 10; (with_reducible refine (HC2.out _ q5).mono ?_); rintro e z6 ⟨rfl, q6⟩; have t_a_0 := ((HBa.out.q (q5.trans q6)).2 0 _ rfl).1; have t_w_0 := ((HBw.out.q (q5.trans q6)).2 0 _ rfl).1))
    clear c_a_0 c_a_1 c_a_2 t_b_0 t_b_1 t_b_2 t_a_0 t_w_0 hE
    have qs := q5.trans q6
    replace HBw := Lib.hid (HBw.out.q qs)
    replace HBp := Lib.hid (HBp.out.q qs)
    replace HBa := Lib.hid (HBa.out.q qs)
    replace HBb := Lib.hid (HBb.out.q qs)
    replace HBx := Lib.hid (HBx.out.q qs)
    replace HRw := Lib.hid (HRw.out.q qs)
    replace HRa := Lib.hid (HRa.out.q qs)
    replace HRb := Lib.hid (HRb.out.q qs)
    replace HQ := Lib.hid (HQ.out.trans qs)
    clear qs q5 q6 HC1 HC2
    go_wp2_with fail
    go_loopw [11] (fun v wr => ∃ i : Nat, v = .int .i64 (i : Int) ∧ i ≤ (nextQ (putQ l ks (p1, p2))).length ∧ Hid (Q z6 wr)) (fun v _ => (nextQ (putQ l ks (p1, p2))).length - (intOf v).toNat)
    case atStart => exact ⟨0, by go_num, Nat.zero_le _, Q.refl _⟩
    case round =>
      obtain ⟨i, rfl, hi, HQz⟩ := hrel
      have hqz := HQz.out
      replace HBw := Lib.hid (HBw.out.q hqz)
      replace HBp := Lib.hid (HBp.out.q hqz)
      replace HBa := Lib.hid (HBa.out.q hqz)
      replace HBb := Lib.hid (HBb.out.q hqz)
      replace HBx := Lib.hid (HBx.out.q hqz)
      replace HRw := Lib.hid (HRw.out.q hqz)
      replace HRa := Lib.hid (HRa.out.q hqz)
      replace HRb := Lib.hid (HRb.out.q hqz)
      replace HQ := Lib.hid (HQ.out.trans hqz)
      clear hqz
      have hkb : kb = (nextQ (putQ l ks (p1, p2))).length := HRb.out.hk
      by_cases hlt : i < (nextQ (putQ l ks (p1, p2))).length
      · obtain ⟨ad, e0, hab, ca, cb⟩ := pair_at HRb.out.rd hlt
        subst e0
        have hlm := HLe.out _ (List.getElem_mem hlt)
        generalize (nextQ (putQ l ks (p1, p2)))[i] = y at *
        obtain ⟨y1, y2⟩ := y
        have CL := fun U => lessW4 y1 y2 x1 x2 U
        rw [decide_eq_false hlm] at CL
        have HCL := Lib.hid CL
        have hlk : (i : Int) < (kb : Int) := by omega
        clear CL hlm hkb
        have c_b_0 := (HBb.out.2 0 _ rfl).1
        have c_b_1 := (HBb.out.2 1 _ rfl).1
        have c_b_2 := (HBb.out.2 2 _ rfl).1
        have c_x_0 := (HBx.out.2 0 _ rfl).1
        have c_x_1 := (HBx.out.2 1 _ rfl).1
        go_upto_region 11 with fail
        go_still_tail 6, (by kernel_rfl)
        change wpList _ _ _ _ _ wr.drew
        have qz : Q wr wr.drew := (Q.refl wr).drew
        generalize wr.drew = wy at *
        go_wp2_with (go_at_call 13; refine (HCL.out _).mono ?_; rintro e z7 ⟨rfl, q7⟩)
        go_roundw
        case rel => exact ⟨i + 1, by go_num, by omega, HQz.out.trans (qz.trans q7)⟩
        case measure => simp [intOf]; omega
      · have hlk : ¬ (i : Int) < (kb : Int) := by omega
        clear hkb hlt
        have c_b_0 := (HBb.out.2 0 _ rfl).1
        have c_b_1 := (HBb.out.2 1 _ rfl).1
        have c_b_2 := (HBb.out.2 2 _ rfl).1
        have c_x_0 := (HBx.out.2 0 _ rfl).1
        have c_x_1 := (HBx.out.2 1 _ rfl).1
        have CP := Lib.hid (putW_all _ _ _ _ _ _ _ _ _ (nextQ (putQ l ks (p1, p2))) (putK ks (p1, p2)) x1 x2 wr HRb.out okb (by omega) (by omega))
        have hxm : (x1, x2) ∈ (putQ l ks (p1, p2)) := HXi.out h0
        have hnx : newB (putK ks (p1, p2)) (keyP (x1, x2)) = false := decide_eq_false (by have := oka.seen _ hxm; omega)
        have hpu : putQ (nextQ (putQ l ks (p1, p2))) (putK ks (p1, p2)) (x1, x2) = (nextQ (putQ l ks (p1, p2))) := by unfold putQ; rw [hnx]; rfl
        have hpk : putK (putK ks (p1, p2)) (x1, x2) = (putK ks (p1, p2)) := by unfold putK putL; rw [if_neg (by have := of_decide_eq_false hnx; exact this)]
        rw [hnx, hpu, hpk] at CP
        have hxb : (x1, x2) ∉ (nextQ (putQ l ks (p1, p2))) := HXn.out h0
        clear hnx hpu hpk
        go_upto_region 14 with (go_at_call 11; refine CP.out.mono ?_; rintro e z8 ⟨Bf, kf, kcf, Af, nf, cf, Sf, mf, df, rfl, hr, qs⟩; have HRf := Lib.hid hr; have HQs := Lib.hid qs; clear hr qs)
        clear c_b_0 c_b_1 c_b_2 c_x_0 c_x_1
        have qs := HQs.out.trans ((Q.refl z8).alloc (Obj.cells #[.slice Bf kf kcf, .slice Af nf cf, .slice Sf mf df] 28))
        replace HBw := Lib.hid (HBw.out.q qs)
        replace HBp := Lib.hid (HBp.out.q qs)
        replace HBa := Lib.hid (HBa.out.q qs)
        replace HBb := Lib.hid (HBb.out.q qs)
        replace HBx := Lib.hid (HBx.out.q qs)
        replace HRw := Lib.hid (HRw.out.q qs)
        replace HRa := Lib.hid (HRa.out.q qs)
        replace HRb := Lib.hid (HRb.out.q qs)
        replace HQ := Lib.hid (HQ.out.trans qs)
        replace HRf := Lib.hid (HRf.out.q ((Q.refl z8).alloc (Obj.cells #[.slice Bf kf kcf, .slice Af nf cf, .slice Sf mf df] 28)))
        have HBf := Lib.hid (Ex.own_new8 z8 [.slice Bf kf kcf, .slice Af nf cf, .slice Sf mf df] 28)
        clear qs HQs CP HQz hlk
        generalize hY : z8.alloc (Obj.cells #[.slice Bf kf kcf, .slice Af nf cf, .slice Sf mf df] 28) = yz8 at *
        clear hY
        have CS := refSame11_any Bb Ab Sb Bf Af Sf kb kcb nb cb mb db kf kcf nf cf mf df (nextQ (putQ l ks (p1, p2))) (nextQ (putQ l ks (p1, p2))) (putK ks (p1, p2)) (putK ks (p1, p2)) (layI (putK ks (p1, p2))) (layI (putK ks (p1, p2))) yz8 HRb.out.hk HRb.out.hn HRb.out.hm HRf.out.hk HRf.out.hn HRf.out.hm HRb.out.rd HRb.out.keys HRb.out.ints HRf.out.rd HRf.out.keys HRf.out.ints (by omega) (by unfold maxLen; omega) (fun x hx => by rw [oka.two x hx]; unfold maxLen; omega) (by rw [Hs.layI_length]; have := Hs.sizeN_le (putK ks (p1, p2)).length; unfold maxLen; omega)
        rw [same_self11, tab_self] at CS
        have HCS := Lib.hid CS
        have CI := fun (U : World) (q : Q yz8 U) => refIn10_any Ba ka kca (putQ l ks (p1, p2)) (x1, x2) U HRa.out.hk (HRa.out.q q).rd (by omega)
        have CJ := fun (U : World) (q : Q yz8 U) => refIn10_any Bb kb kcb (nextQ (putQ l ks (p1, p2))) (x1, x2) U HRb.out.hk (HRb.out.q q).rd (by omega)
        rw [decide_eq_true hxm] at CI
        rw [decide_eq_false hxb] at CJ
        have HCI := Lib.hid CI
        have HCJ := Lib.hid CJ
        have hnl := next_len h0
        have e5 : (kb : Int) = ((nextQ (putQ l ks (p1, p2))).length : Int) := by rw [HRb.out.hk]
        have e6 : (ka : Int) = ((putQ l ks (p1, p2)).length : Int) := by rw [HRa.out.hk]
        have hE5 : ((kb : Int) == (ka : Int) - 1) = true := by rw [beq_iff_eq, e5, e6]; omega
        have hba : ka ≤ 301 := by have := HK2.out; omega
        clear CS CI CJ hxm hxb hnl e5 e6
        have c_b_0 := (HBb.out.2 0 _ rfl).1
        have c_b_1 := (HBb.out.2 1 _ rfl).1
        have c_b_2 := (HBb.out.2 2 _ rfl).1
        have c_f_0 := (HBf.out.2 0 _ rfl).1
        have c_f_1 := (HBf.out.2 1 _ rfl).1
        have c_f_2 := (HBf.out.2 2 _ rfl).1
        go_wp2_with (first
          | (go_at_call 14; refine HCS.out.mono ?_; rintro e z9 ⟨rfl, q9⟩; have t_a_0 := ((HBa.out.q q9).2 0 _ rfl).1; have t_b_0 := ((HBb.out.q q9).2 0 _ rfl).1; have t_x_0 := ((HBx.out.q q9).2 0 _ rfl).1; have t_x_1 := ((HBx.out.q q9).2 1 _ rfl).1)
          | (go_at_call 15; (with_reducible refine (HCI.out _ q9).mono ?_); rintro e za ⟨rfl, qa⟩; have s_b_0 := ((HBb.out.q (q9.trans qa)).2 0 _ rfl).1; have s_x_0 := ((HBx.out.q (q9.trans qa)).2 0 _ rfl).1; have s_x_1 := ((HBx.out.q (q9.trans qa)).2 1 _ rfl).1)
          | (go_at_call 15; (with_reducible refine (HCJ.out _ (q9.trans qa)).mono ?_); rintro e zb ⟨rfl, qb⟩))
        go_ret
        exact ⟨rfl, ((HQ.out.trans q9).trans qa).trans qb⟩
  · have hd := decide_eq_false h0
    have hk0 : ¬ (0 : Int) < (ka : Int) := by have := HK2.out; omega
    have hk1 : ¬ 0 < ka := by omega
    go_upto_region 8 with (first
      | (go_at_call 10; (with_reducible refine (HC1.out _ (Q.refl _)).mono ?_); rintro e z5 ⟨rfl, q5⟩; have t_b_0 := ((HBb.out.q q5).2 0 _ rfl).1; have t_b_1 := ((HBb.out.q q5).2 1 _ rfl).1; have t_b_2 := ((HBb.out.q q5).2 2 _ rfl).1)
      | (go_at_call 10; (with_reducible refine (HC2.out _ q5).mono ?_); rintro e z6 ⟨rfl, q6⟩; have t_a_0 := ((HBa.out.q (q5.trans q6)).2 0 _ rfl).1; have t_w_0 := ((HBw.out.q (q5.trans q6)).2 0 _ rfl).1))
    clear c_a_0 c_a_1 c_a_2 t_b_0 t_b_1 t_b_2 t_a_0 t_w_0 hE
    have qs := q5.trans q6
    replace HBw := Lib.hid (HBw.out.q qs)
    replace HBp := Lib.hid (HBp.out.q qs)
    replace HBa := Lib.hid (HBa.out.q qs)
    replace HBb := Lib.hid (HBb.out.q qs)
    replace HBx := Lib.hid (HBx.out.q qs)
    replace HRw := Lib.hid (HRw.out.q qs)
    replace HRa := Lib.hid (HRa.out.q qs)
    replace HRb := Lib.hid (HRb.out.q qs)
    replace HQ := Lib.hid (HQ.out.trans qs)
    clear qs q5 q6 HC1 HC2
    go_wp2_with fail
    go_loopw [11] (fun v wr => ∃ i : Nat, v = .int .i64 (i : Int) ∧ i ≤ (nextQ (putQ l ks (p1, p2))).length ∧ Hid (Q z6 wr)) (fun v _ => (nextQ (putQ l ks (p1, p2))).length - (intOf v).toNat)
    case atStart => exact ⟨0, by go_num, Nat.zero_le _, Q.refl _⟩
    case round =>
      obtain ⟨i, rfl, hi, HQz⟩ := hrel
      have hqz := HQz.out
      replace HBw := Lib.hid (HBw.out.q hqz)
      replace HBp := Lib.hid (HBp.out.q hqz)
      replace HBa := Lib.hid (HBa.out.q hqz)
      replace HBb := Lib.hid (HBb.out.q hqz)
      replace HBx := Lib.hid (HBx.out.q hqz)
      replace HRw := Lib.hid (HRw.out.q hqz)
      replace HRa := Lib.hid (HRa.out.q hqz)
      replace HRb := Lib.hid (HRb.out.q hqz)
      replace HQ := Lib.hid (HQ.out.trans hqz)
      clear hqz
      have hkb : kb = (nextQ (putQ l ks (p1, p2))).length := HRb.out.hk
      by_cases hlt : i < (nextQ (putQ l ks (p1, p2))).length
      · obtain ⟨ad, e0, hab, ca, cb⟩ := pair_at HRb.out.rd hlt
        subst e0
        have hlm := HLe.out _ (List.getElem_mem hlt)
        generalize (nextQ (putQ l ks (p1, p2)))[i] = y at *
        obtain ⟨y1, y2⟩ := y
        have CL := fun U => lessW4 y1 y2 x1 x2 U
        rw [decide_eq_false hlm] at CL
        have HCL := Lib.hid CL
        have hlk : (i : Int) < (kb : Int) := by omega
        clear CL hlm hkb
        have c_b_0 := (HBb.out.2 0 _ rfl).1
        have c_b_1 := (HBb.out.2 1 _ rfl).1
        have c_b_2 := (HBb.out.2 2 _ rfl).1
        have c_x_0 := (HBx.out.2 0 _ rfl).1
        have c_x_1 := (HBx.out.2 1 _ rfl).1
        go_upto_region 11 with fail
        go_still_tail 6, (by kernel_rfl)
        change wpList _ _ _ _ _ wr.drew
        have qz : Q wr wr.drew := (Q.refl wr).drew
        generalize wr.drew = wy at *
        go_wp2_with (go_at_call 13; refine (HCL.out _).mono ?_; rintro e z7 ⟨rfl, q7⟩)
        go_roundw
        case rel => exact ⟨i + 1, by go_num, by omega, HQz.out.trans (qz.trans q7)⟩
        case measure => simp [intOf]; omega
      · have hlk : ¬ (i : Int) < (kb : Int) := by omega
        clear hkb hlt
        have c_b_0 := (HBb.out.2 0 _ rfl).1
        have c_b_1 := (HBb.out.2 1 _ rfl).1
        have c_b_2 := (HBb.out.2 2 _ rfl).1
        have c_x_0 := (HBx.out.2 0 _ rfl).1
        have c_x_1 := (HBx.out.2 1 _ rfl).1
        have CP := Lib.hid (putW_all _ _ _ _ _ _ _ _ _ (nextQ (putQ l ks (p1, p2))) (putK ks (p1, p2)) x1 x2 wr HRb.out okb (by omega) (by omega))
        clear HXi HXn
        go_upto_region 14 with (go_at_call 11; refine CP.out.mono ?_; rintro e z8 ⟨Bf, kf, kcf, Af, nf, cf, Sf, mf, df, rfl, hr, qs⟩; have HRf := Lib.hid hr; have HQs := Lib.hid qs; clear hr qs)
        clear c_b_0 c_b_1 c_b_2 c_x_0 c_x_1
        have qs := HQs.out.trans ((Q.refl z8).alloc (Obj.cells #[.slice Bf kf kcf, .slice Af nf cf, .slice Sf mf df] 28))
        replace HBw := Lib.hid (HBw.out.q qs)
        replace HBp := Lib.hid (HBp.out.q qs)
        replace HBa := Lib.hid (HBa.out.q qs)
        replace HBb := Lib.hid (HBb.out.q qs)
        replace HBx := Lib.hid (HBx.out.q qs)
        replace HRw := Lib.hid (HRw.out.q qs)
        replace HRa := Lib.hid (HRa.out.q qs)
        replace HRb := Lib.hid (HRb.out.q qs)
        replace HQ := Lib.hid (HQ.out.trans qs)
        replace HRf := Lib.hid (HRf.out.q ((Q.refl z8).alloc (Obj.cells #[.slice Bf kf kcf, .slice Af nf cf, .slice Sf mf df] 28)))
        have HBf := Lib.hid (Ex.own_new8 z8 [.slice Bf kf kcf, .slice Af nf cf, .slice Sf mf df] 28)
        clear qs HQs CP HQz hlk
        generalize hY : z8.alloc (Obj.cells #[.slice Bf kf kcf, .slice Af nf cf, .slice Sf mf df] 28) = yz8 at *
        clear hY
        go_wp2_with fail
        go_ret
        exact ⟨rfl, HQ.out⟩

set_option maxRecDepth 100000 in
theorem lifted (os : Os) (started : os.Started) (H : Type) (enc : TypeId × Value → H) :
    ReturnsInHanded {} Try.checked os 3 .any (Rows.workStaysSpec.pre6 enc Try.prog Try.f3 Rows.workStaysRow.domain false) (Rows.workStaysSpec.post enc Try.prog Try.f3 false true false false) := by
  refine returnsInHanded_of_change_sized (C := Try.checked) own started (by kernel_rfl) Try.func3
    (ChangeSpec.witness6 (enc := enc) (C := Try.checked) false ⟨#[], #[.agg #[.slice none 0 0, .slice none 0 0, .slice none 0 0], .agg #[.int .i64 0, .int .i64 0]], []⟩ 8 (by kernel_rfl) (by kernel_rfl) (by kernel_rfl) (by kernel_rfl)) ?_
  intro W base args ds gs before hval0 hW hcnd hsz0 _
  have hval : ∀ (j : Nat) t v, Try.f3.params[j]? = some t → args[j]? = some v → Value.okWide Try.prog W .any base t v := hval0
  have hW' := hW
  obtain ⟨p, q, hA0, hV, rfl, hfz, hnd⟩ := hW
  have hA : DataW.TrodAll enc Try.prog W 0 (fun _ => true) true Try.f3.params.toList args.toList ds p := hA0
  rw [Try.params3] at hA hval
  obtain ⟨v0, vs0, d0, ds0, p0, q0, hargs, rfl, rfl, h0, r0⟩ := trodAll_cons hA
  obtain ⟨v1, vs1, d1, ds1, p1, q1, rfl, rfl, rfl, h1, r1⟩ := trodAll_cons r0
  obtain ⟨rfl, rfl, rfl⟩ := trodAll_nil r1
  obtain rfl : args = #[v0, v1] := by cases args; simp_all
  obtain ⟨rfl, rfl⟩ := trodVars_none hV
  have z0 : ∀ n ∈ d0.weights Try.prog 28, n ≤ reachBytes := fun n hn => by
    have := List.all_eq_true.1 hsz0 n (DataW.weights_mem_each (j := 0) (t := 28) (d := d0) (by rw [Try.params3]; rfl) rfl n hn)
    simpa using this
  have z1 : ∀ n ∈ d1.weights Try.prog 30, n ≤ reachBytes := fun n hn => by
    have := List.all_eq_true.1 hsz0 n (DataW.weights_mem_each (j := 1) (t := 30) (d := d1) (by rw [Try.params3]; rfl) rfl n hn)
    simpa using this
  obtain ⟨B, A, S, k, kc, n, c, m, e, l, ks, sl, rfl, hq, _, hl, hs, hsl⟩ := open_queue (hval 0 28 v0 rfl rfl) h0 z0
  obtain ⟨⟨x1, x2⟩, rfl⟩ := open_pair11 (hval 1 30 v1 rfl rfl) h1
  clear hA0 hval0
  refine (walk x1 x2 W hq hl hs hsl).mono fun e W' ⟨he, hg⟩ => ?_
  subst he
  exact ⟨_, rfl, post_law laid (by rw [Try.params3]; decide +kernel) rfl rfl (by kernel_rfl) Try.underlying4 hW' hg⟩

/-- THE STATEMENT -/
theorem proved : Rows.WorkStaysSaid :=
  OpenClaim.holds_of_wide 3 Try.f3 rfl rfl rfl rfl rfl rfl rfl ⟨rfl, rfl, rfl, rfl, rfl⟩ rfl rfl rfl rfl rfl (by kernel_rfl) Try.func3 (by kernel_rfl)
    (of_decide_eq_true (by kernel_rfl)) (by unfold Func.isWrapper; first | (rw [if_pos (by decide +kernel)]; kernel_rfl) | (rw [if_neg (by decide +kernel)]; exact ⟨rfl, rfl⟩))
    (fun os started H enc _ => lifted os started H enc)
end Go.Proofs.Ytjgbheidkjgncaa.workStays
