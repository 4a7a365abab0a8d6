/-
  WorkSeen: what was put was seen, for ever; what is next isn't put again; all that waits was seen: for every queue and pair.
-/
import Derived.Test.YtjgbheidkjgncaaPh
import Derived.Test.YtjgbheidkjgncaaPi
import Derived.Test.YtjgbheidkjgncaaRows
import Derived.OpenShut
import Derived.RegionTactic
import Derived.Deep.CutBlock
namespace Go.Proofs.Ytjgbheidkjgncaa.workSeen
open Go.ChangeShapes Go.WideShapes Go.RowKit Kit Rw Wk
open Go.Proofs.Ytjgbheidkjgncaa.St
open Go.Proofs.Ytjgbheidkjgncaa.Hs (Keys Ints layI putL placeI newB Dist atI)
set_option maxRecDepth 100000 in
set_option maxHeartbeats 4000000 in
theorem walk {B A S : Option Addr} {k kc n c m d : Nat} {l : List PI} {ks : List (List Int)} {sl : List Int} (p1 p2 : Int) (w : World) (h : QRd w B A S k kc n c m d l ks sl) (hl : ks.length ≤ 1152921504606846976) (hs : ∀ k ∈ ks, k.length ≤ 1152921504606846976) (hsl : sl.length ≤ 1152921504606846976) : Calls Try.prog 6 #[.agg #[.slice B k kc, .slice A n c, .slice S m d], .agg #[.int .i64 p1, .int .i64 p2]] w fun e w' => e = .returned (.bool true) ∧ Q w w' := by
  have HQ := Lib.hid (((Q.refl w).alloc (Obj.cells #[.slice B k kc, .slice A n c, .slice S m d] 28)).alloc (Obj.cells #[.int .i64 p1, .int .i64 p2] 30))
  have hbw := (Ex.own_new8 w [.slice B k kc, .slice A n c, .slice S m d] 28).q ((Q.refl _).alloc (Obj.cells #[.int .i64 p1, .int .i64 p2] 30))
  have HBw := Lib.hid hbw
  have hbp := (Ex.own_new8 (w.alloc (Obj.cells #[.slice B k kc, .slice A n c, .slice S m d] 28)) [.int .i64 p1, .int .i64 p2] 30).q (Q.refl _)
  rw [show (w.alloc (Obj.cells #[.slice B k kc, .slice A n c, .slice S m d] 28)).heap.size = w.heap.size + 1 by simp] at hbp
  have HBp := Lib.hid hbp
  have HRw := Lib.hid (h.q HQ.out)
  clear hbw hbp
  have HKK : Hid (k = l.length) := h.hk
  clear h
  go_enter Try.func6, Try.ntmps6
  go_upto_region 1 with fail
  generalize ((w.alloc (Obj.cells #[.slice B k kc, .slice A n c, .slice S m d] 28)).alloc (Obj.cells #[.int .i64 p1, .int .i64 p2] 30)) = y0 at *
  go_upto_region 2 with (go_at_call 8; refine (shown11_any _).mono ?_; rintro e y1 ⟨rfl, qs⟩)
  replace HBw := Lib.hid (HBw.out.q qs)
  replace HBp := Lib.hid (HBp.out.q qs)
  replace HRw := Lib.hid (HRw.out.q qs)
  replace HQ := Lib.hid (HQ.out.trans qs)
  clear qs
  have CF := refFew11_any B A S k kc n c m d ks y1 HRw.out.hn HRw.out.keys hl hs (by rw [HRw.out.hm]; exact hsl)
  have c_w_0 := (HBw.out.2 0 _ rfl).1
  have c_w_1 := (HBw.out.2 1 _ rfl).1
  have c_w_2 := (HBw.out.2 2 _ rfl).1
  cases hf : (Hs.fewB ks m && decide (k ≤ 300))
  · rw [hf] at CF
    have CF := Lib.hid CF
    clear hf
    go_wp2_with (go_at_call 9; refine CF.out.mono ?_; rintro e z1 ⟨rfl, r1⟩)
    go_ret
    exact ⟨rfl, HQ.out.trans r1⟩
  rw [hf] at CF
  have CF := Lib.hid CF
  rw [Bool.and_eq_true, decide_eq_true_eq] at hf
  obtain ⟨hf, h300⟩ := hf
  have hfs := Hs.few_sum hf
  have hfl := Hs.few_lens hf
  have hll : l.length ≤ 300 := by have := HKK.out; omega
  have hkl : ks.length ≤ 2000 := by omega
  clear hf h300 hfs
  have CG := fun (U : World) (q : Q y1 U) => refRight11_any B A S k kc n c m d l ks sl U (HRw.out.q q) (by omega) (by omega) hfl (by unfold maxLen; omega)
  cases hr : rightQB l ks sl
  · rw [hr] at CG
    have CG := Lib.hid CG
    clear hr
    go_wp2_with (first
      | (go_at_call 9; refine CF.out.mono ?_; rintro e z1 ⟨rfl, r1⟩; have w0 := ((HBw.out.q r1).2 0 _ rfl).1; have w1 := ((HBw.out.q r1).2 1 _ rfl).1; have w2 := ((HBw.out.q r1).2 2 _ rfl).1)
      | (go_at_call 10; refine (CG.out _ r1).mono ?_; rintro e z2 ⟨rfl, r2⟩))
    go_ret
    exact ⟨rfl, (HQ.out.trans r1).trans r2⟩
  rw [hr] at CG
  have CG := Lib.hid CG
  have ok := rightQ_iff.1 hr
  clear hr
  have hsl0 := ok.lay
  subst hsl0
  go_upto_region 4 with (first
    | (go_at_call 9; refine CF.out.mono ?_; rintro e z1 ⟨rfl, r1⟩; have w0 := ((HBw.out.q r1).2 0 _ rfl).1; have w1 := ((HBw.out.q r1).2 1 _ rfl).1; have w2 := ((HBw.out.q r1).2 2 _ rfl).1)
    | (go_at_call 10; refine (CG.out _ r1).mono ?_; rintro e z2 ⟨rfl, r2⟩))
  clear c_w_0 c_w_1 c_w_2 w0 w1 w2
  have qs := r1.trans r2
  replace HBw := Lib.hid (HBw.out.q qs)
  replace HBp := Lib.hid (HBp.out.q qs)
  replace HRw := Lib.hid (HRw.out.q qs)
  replace HQ := Lib.hid (HQ.out.trans qs)
  clear qs r1 r2 CF CG
  have c_w_0 := (HBw.out.2 0 _ rfl).1
  have c_w_1 := (HBw.out.2 1 _ rfl).1
  have c_w_2 := (HBw.out.2 2 _ rfl).1
  have c_p_0 := (HBp.out.2 0 _ rfl).1
  have c_p_1 := (HBp.out.2 1 _ rfl).1
  have CP := Lib.hid (putW_all _ _ _ _ _ _ _ _ _ l ks (p1) (p2) z2 HRw.out ok (by omega) (by omega))
  go_upto_region 5 with (go_at_call 11; refine CP.out.mono ?_; rintro e z3 ⟨Ba, ka, kca, Aa, na, ca, Sa, ma, da, rfl, hr, qs⟩; have HRa := Lib.hid hr; have HQs := Lib.hid qs; clear hr qs)
  clear c_w_0 c_w_1 c_w_2 c_p_0 c_p_1
  have qs := HQs.out.trans ((Q.refl z3).alloc (Obj.cells #[.slice Ba ka kca, .slice Aa na ca, .slice Sa ma da] 28))
  replace HBw := Lib.hid (HBw.out.q qs)
  replace HBp := Lib.hid (HBp.out.q qs)
  replace HRw := Lib.hid (HRw.out.q qs)
  replace HQ := Lib.hid (HQ.out.trans qs)
  replace HRa := Lib.hid (HRa.out.q ((Q.refl z3).alloc (Obj.cells #[.slice Ba ka kca, .slice Aa na ca, .slice Sa ma da] 28)))
  have HBa := Lib.hid (Ex.own_new8 z3 [.slice Ba ka kca, .slice Aa na ca, .slice Sa ma da] 28)
  clear qs HQs CP
  generalize hY : z3.alloc (Obj.cells #[.slice Ba ka kca, .slice Aa na ca, .slice Sa ma da] 28) = yz3 at *
  clear hY
  have oka := ok.putQ (p1, p2)
  have hla := putQ_len l ks (p1, p2)
  have hka := putK_len ks (p1, p2)
  have hla5 : (putQ l ks (p1, p2)).length ≤ 301 := by rw [hla]; split <;> omega
  have hka5 : (putK ks (p1, p2)).length ≤ 2001 := by rw [hka]; split <;> omega
  have c_a_0 := (HBa.out.2 0 _ rfl).1
  have c_a_1 := (HBa.out.2 1 _ rfl).1
  have c_a_2 := (HBa.out.2 2 _ rfl).1
  have CP := Lib.hid (nextW_all _ _ _ _ _ _ _ _ _ (putQ l ks (p1, p2)) (putK ks (p1, p2)) yz3 HRa.out oka (by omega) (by omega))
  go_upto_region 6 with (go_at_call 12; refine CP.out.mono ?_; rintro e z4 ⟨Bb, kb, kcb, Ab, nb, cb, Sb, mb, db, rfl, hr, qs⟩; have HRb := Lib.hid hr; have HQs := Lib.hid qs; clear hr qs)
  clear c_a_0 c_a_1 c_a_2
  have qs := HQs.out.trans (((Q.refl z4).alloc (Obj.cells #[.slice Bb kb kcb, .slice Ab nb cb, .slice Sb mb db] 28)).alloc (Obj.cells #[.int .i64 (nextX ((putQ l ks (p1, p2)))).1, .int .i64 (nextX ((putQ l ks (p1, p2)))).2] 30))
  replace HBw := Lib.hid (HBw.out.q qs)
  replace HBp := Lib.hid (HBp.out.q qs)
  replace HBa := Lib.hid (HBa.out.q qs)
  replace HRw := Lib.hid (HRw.out.q qs)
  replace HRa := Lib.hid (HRa.out.q qs)
  replace HQ := Lib.hid (HQ.out.trans qs)
  replace HRb := Lib.hid (HRb.out.q (((Q.refl z4).alloc (Obj.cells #[.slice Bb kb kcb, .slice Ab nb cb, .slice Sb mb db] 28)).alloc (Obj.cells #[.int .i64 (nextX ((putQ l ks (p1, p2)))).1, .int .i64 (nextX ((putQ l ks (p1, p2)))).2] 30)))
  have HBb := Lib.hid ((Ex.own_new8 z4 [.slice Bb kb kcb, .slice Ab nb cb, .slice Sb mb db] 28).q ((Q.refl _).alloc (Obj.cells #[.int .i64 (nextX ((putQ l ks (p1, p2)))).1, .int .i64 (nextX ((putQ l ks (p1, p2)))).2] 30)))
  have hx := Ex.own_new8 (z4.alloc (Obj.cells #[.slice Bb kb kcb, .slice Ab nb cb, .slice Sb mb db] 28)) [.int .i64 (nextX ((putQ l ks (p1, p2)))).1, .int .i64 (nextX ((putQ l ks (p1, p2)))).2] 30
  rw [show (z4.alloc (Obj.cells #[.slice Bb kb kcb, .slice Ab nb cb, .slice Sb mb db] 28)).heap.size = z4.heap.size + 1 by simp] at hx
  have HBx := Lib.hid hx
  clear qs HQs CP hx
  generalize hY : (z4.alloc (Obj.cells #[.slice Bb kb kcb, .slice Ab nb cb, .slice Sb mb db] 28)).alloc (Obj.cells #[.int .i64 (nextX ((putQ l ks (p1, p2)))).1, .int .i64 (nextX ((putQ l ks (p1, p2)))).2] 30) = yz4 at *
  clear hY
  have okb := oka.nextQ
  have hlb : (nextQ (putQ l ks (p1, p2))).length ≤ 301 := Nat.le_trans (nextQ_le _) hla5
  have c_b_0 := (HBb.out.2 0 _ rfl).1
  have c_b_1 := (HBb.out.2 1 _ rfl).1
  have c_b_2 := (HBb.out.2 2 _ rfl).1
  have c_p_0 := (HBp.out.2 0 _ rfl).1
  have c_p_1 := (HBp.out.2 1 _ rfl).1
  have CP := Lib.hid (putW_all _ _ _ _ _ _ _ _ _ (nextQ (putQ l ks (p1, p2))) (putK ks (p1, p2)) (p1) (p2) yz4 HRb.out okb (by omega) (by omega))
  go_upto_region 7 with (go_at_call 11; refine CP.out.mono ?_; rintro e z5 ⟨Bf, kf, kcf, Af, nf, cf, Sf, mf, df, rfl, hr, qs⟩; have HRf := Lib.hid hr; have HQs := Lib.hid qs; clear hr qs)
  clear c_b_0 c_b_1 c_b_2 c_p_0 c_p_1
  have qs := HQs.out.trans ((Q.refl z5).alloc (Obj.cells #[.slice Bf kf kcf, .slice Af nf cf, .slice Sf mf df] 28))
  replace HBw := Lib.hid (HBw.out.q qs)
  replace HBp := Lib.hid (HBp.out.q qs)
  replace HBa := Lib.hid (HBa.out.q qs)
  replace HBb := Lib.hid (HBb.out.q qs)
  replace HBx := Lib.hid (HBx.out.q qs)
  replace HRw := Lib.hid (HRw.out.q qs)
  replace HRa := Lib.hid (HRa.out.q qs)
  replace HRb := Lib.hid (HRb.out.q qs)
  replace HQ := Lib.hid (HQ.out.trans qs)
  replace HRf := Lib.hid (HRf.out.q ((Q.refl z5).alloc (Obj.cells #[.slice Bf kf kcf, .slice Af nf cf, .slice Sf mf df] 28)))
  have HBf := Lib.hid (Ex.own_new8 z5 [.slice Bf kf kcf, .slice Af nf cf, .slice Sf mf df] 28)
  clear qs HQs CP
  generalize hY : z5.alloc (Obj.cells #[.slice Bf kf kcf, .slice Af nf cf, .slice Sf mf df] 28) = yz5 at *
  clear hY
  have okf := okb.putQ (p1, p2)
  have hag := again11 ok (p1, p2)
  have hse := seen11 ok (p1, p2)
  have ca0 := at11 A n c ks p1 p2 yz5 HRw.out.hn HRw.out.keys (by omega) ok.two
  have CB := fun (U : World) (q : Q yz5 U) => at11 Aa na ca (putK ks (p1, p2)) p1 p2 U (HRa.out.q q).hn (HRa.out.q q).keys (by omega) oka.two
  have CS := fun (U : World) (q : Q yz5 U) => Hs.refSame_any Aa Sa Ab Sb na ca ma da nb cb mb db (putK ks (p1, p2)) (putK ks (p1, p2)) (layI (putK ks (p1, p2))) (layI (putK ks (p1, p2))) U HRa.out.hn HRa.out.hm HRb.out.hn HRb.out.hm (HRa.out.q q).keys (HRa.out.q q).ints (HRb.out.q q).keys (HRb.out.q q).ints (by unfold maxLen; omega) (fun x hx => by rw [oka.two x hx]; unfold maxLen; omega) (by rw [Hs.layI_length]; have := Hs.sizeN_le (putK ks (p1, p2)).length; unfold maxLen; omega)
  simp only [tab_self] at CS
  have e1 : (na : Int) = ((putK ks (p1, p2)).length : Int) := by rw [HRa.out.hn]
  have e2 : (ka : Int) = ((putQ l ks (p1, p2)).length : Int) := by rw [HRa.out.hk]
  have e3 : (n : Int) = (ks.length : Int) := by rw [HRw.out.hn]
  have e4 : (k : Int) = (l.length : Int) := by rw [HRw.out.hk]
  have hE : ((na : Int) == (n : Int) + (ka : Int) - (k : Int)) = true := by rw [beq_iff_eq, e1, e2, e3, e4, hla, hka]; split <;> omega
  have b1 : n ≤ 2000 := by omega
  have b2 : ka ≤ 301 := by omega
  have b3 : k ≤ 300 := by omega
  generalize atI (putK ks (p1, p2)) (keyP (p1, p2)) = a1 at *
  have HCB := Lib.hid CB
  have HCS := Lib.hid CS
  have HCA := Lib.hid ca0
  clear CB CS ca0 e1 e2 e3 e4
  have c_w_0 := (HBw.out.2 0 _ rfl).1
  have c_w_1 := (HBw.out.2 1 _ rfl).1
  have c_w_2 := (HBw.out.2 2 _ rfl).1
  have c_p_0 := (HBp.out.2 0 _ rfl).1
  have c_p_1 := (HBp.out.2 1 _ rfl).1
  by_cases hn0 : atI ks (keyP (p1, p2)) < 0
  · have hN : newB ks (keyP (p1, p2)) = true := decide_eq_true hn0
    have hA0 : decide ((0 : Int) ≤ atI ks (keyP (p1, p2))) = false := by simp; omega
    generalize atI ks (keyP (p1, p2)) = a0 at *
    go_upto_region 8 with (go_at_call 18; refine HCA.out.mono ?_; rintro e z6 ⟨rfl, q6⟩)
    clear c_w_0 c_w_1 c_w_2 c_p_0 c_p_1
    have HXw := Lib.hid (HBw.out.q q6)
    have HXp := Lib.hid (HBp.out.q q6)
    have HXa := Lib.hid (HBa.out.q q6)
    have HXb := Lib.hid (HBb.out.q q6)
    have x_w_0 := (HXw.out.2 0 _ rfl).1
    have x_w_1 := (HXw.out.2 1 _ rfl).1
    have x_w_2 := (HXw.out.2 2 _ rfl).1
    have x_p_0 := (HXp.out.2 0 _ rfl).1
    have x_p_1 := (HXp.out.2 1 _ rfl).1
    have x_a_0 := (HXa.out.2 0 _ rfl).1
    have x_a_1 := (HXa.out.2 1 _ rfl).1
    have x_a_2 := (HXa.out.2 2 _ rfl).1
    go_wp2_with (first
      | (go_at_call 18; refine (HCB.out _ q6).mono ?_; rintro e z7 ⟨rfl, q7⟩; have t_a_0 := ((HXa.out.q q7).2 0 _ rfl).1; have t_a_1 := ((HXa.out.q q7).2 1 _ rfl).1; have t_a_2 := ((HXa.out.q q7).2 2 _ rfl).1; have t_b_0 := ((HXb.out.q q7).2 0 _ rfl).1; have t_b_1 := ((HXb.out.q q7).2 1 _ rfl).1; have t_b_2 := ((HXb.out.q q7).2 2 _ rfl).1)
      | (go_at_call 19; refine (HCS.out _ (q6.trans q7)).mono ?_; rintro e z8 ⟨rfl, q8⟩; have s_a_0 := ((HXa.out.q (q7.trans q8)).2 0 _ rfl).1; have s_a_1 := ((HXa.out.q (q7.trans q8)).2 1 _ rfl).1; have s_w_0 := ((HXw.out.q (q7.trans q8)).2 0 _ rfl).1; have s_w_1 := ((HXw.out.q (q7.trans q8)).2 1 _ rfl).1))
    go_ret
    exact ⟨rfl, ((HQ.out.trans q6).trans q7).trans q8⟩
  · have hN : newB ks (keyP (p1, p2)) = false := decide_eq_false hn0
    have hA0 : decide ((0 : Int) ≤ atI ks (keyP (p1, p2))) = true := by simp; omega
    generalize atI ks (keyP (p1, p2)) = a0 at *
    go_upto_region 8 with (go_at_call 18; refine HCA.out.mono ?_; rintro e z6 ⟨rfl, q6⟩)
    clear c_w_0 c_w_1 c_w_2 c_p_0 c_p_1
    have HXw := Lib.hid (HBw.out.q q6)
    have HXp := Lib.hid (HBp.out.q q6)
    have HXa := Lib.hid (HBa.out.q q6)
    have HXb := Lib.hid (HBb.out.q q6)
    have x_w_0 := (HXw.out.2 0 _ rfl).1
    have x_w_1 := (HXw.out.2 1 _ rfl).1
    have x_w_2 := (HXw.out.2 2 _ rfl).1
    have x_p_0 := (HXp.out.2 0 _ rfl).1
    have x_p_1 := (HXp.out.2 1 _ rfl).1
    have x_a_0 := (HXa.out.2 0 _ rfl).1
    have x_a_1 := (HXa.out.2 1 _ rfl).1
    have x_a_2 := (HXa.out.2 2 _ rfl).1
    go_wp2_with (first
      | (go_at_call 18; refine (HCB.out _ q6).mono ?_; rintro e z7 ⟨rfl, q7⟩; have t_a_0 := ((HXa.out.q q7).2 0 _ rfl).1; have t_a_1 := ((HXa.out.q q7).2 1 _ rfl).1; have t_a_2 := ((HXa.out.q q7).2 2 _ rfl).1; have t_b_0 := ((HXb.out.q q7).2 0 _ rfl).1; have t_b_1 := ((HXb.out.q q7).2 1 _ rfl).1; have t_b_2 := ((HXb.out.q q7).2 2 _ rfl).1)
      | (go_at_call 19; refine (HCS.out _ (q6.trans q7)).mono ?_; rintro e z8 ⟨rfl, q8⟩; have s_a_0 := ((HXa.out.q (q7.trans q8)).2 0 _ rfl).1; have s_a_1 := ((HXa.out.q (q7.trans q8)).2 1 _ rfl).1; have s_w_0 := ((HXw.out.q (q7.trans q8)).2 0 _ rfl).1; have s_w_1 := ((HXw.out.q (q7.trans q8)).2 1 _ rfl).1))
    go_ret
    exact ⟨rfl, ((HQ.out.trans q6).trans q7).trans q8⟩

set_option maxRecDepth 100000 in
theorem lifted (os : Os) (started : os.Started) (H : Type) (enc : TypeId × Value → H) :
    ReturnsInHanded {} Try.checked os 6 .any (Rows.workSeenSpec.pre6 enc Try.prog Try.f6 Rows.workSeenRow.domain false) (Rows.workSeenSpec.post enc Try.prog Try.f6 false true false false) := by
  refine returnsInHanded_of_change_sized (C := Try.checked) own started (by kernel_rfl) Try.func6
    (ChangeSpec.witness6 (enc := enc) (C := Try.checked) false ⟨#[], #[.agg #[.slice none 0 0, .slice none 0 0, .slice none 0 0], .agg #[.int .i64 0, .int .i64 0]], []⟩ 8 (by kernel_rfl) (by kernel_rfl) (by kernel_rfl) (by kernel_rfl)) ?_
  intro W base args ds gs before hval0 hW hcnd hsz0 _
  have hval : ∀ (j : Nat) t v, Try.f6.params[j]? = some t → args[j]? = some v → Value.okWide Try.prog W .any base t v := hval0
  have hW' := hW
  obtain ⟨p, q, hA0, hV, rfl, hfz, hnd⟩ := hW
  have hA : DataW.TrodAll enc Try.prog W 0 (fun _ => true) true Try.f6.params.toList args.toList ds p := hA0
  rw [Try.params6] at hA hval
  obtain ⟨v0, vs0, d0, ds0, p0, q0, hargs, rfl, rfl, h0, r0⟩ := trodAll_cons hA
  obtain ⟨v1, vs1, d1, ds1, p1, q1, rfl, rfl, rfl, h1, r1⟩ := trodAll_cons r0
  obtain ⟨rfl, rfl, rfl⟩ := trodAll_nil r1
  obtain rfl : args = #[v0, v1] := by cases args; simp_all
  obtain ⟨rfl, rfl⟩ := trodVars_none hV
  have z0 : ∀ n ∈ d0.weights Try.prog 28, n ≤ reachBytes := fun n hn => by
    have := List.all_eq_true.1 hsz0 n (DataW.weights_mem_each (j := 0) (t := 28) (d := d0) (by rw [Try.params6]; rfl) rfl n hn)
    simpa using this
  have z1 : ∀ n ∈ d1.weights Try.prog 30, n ≤ reachBytes := fun n hn => by
    have := List.all_eq_true.1 hsz0 n (DataW.weights_mem_each (j := 1) (t := 30) (d := d1) (by rw [Try.params6]; rfl) rfl n hn)
    simpa using this
  obtain ⟨B, A, S, k, kc, n, c, m, e, l, ks, sl, rfl, hq, _, hl, hs, hsl⟩ := open_queue (hval 0 28 v0 rfl rfl) h0 z0
  obtain ⟨⟨x1, x2⟩, rfl⟩ := open_pair11 (hval 1 30 v1 rfl rfl) h1
  clear hA0 hval0
  refine (walk x1 x2 W hq hl hs hsl).mono fun e W' ⟨he, hg⟩ => ?_
  subst he
  exact ⟨_, rfl, post_law laid (by rw [Try.params6]; decide +kernel) rfl rfl (by kernel_rfl) Try.underlying4 hW' hg⟩

/-- THE STATEMENT -/
theorem proved : Rows.WorkSeenSaid :=
  OpenClaim.holds_of_wide 6 Try.f6 rfl rfl rfl rfl rfl rfl rfl ⟨rfl, rfl, rfl, rfl, rfl⟩ rfl rfl rfl rfl rfl (by kernel_rfl) Try.func6 (by kernel_rfl)
    (of_decide_eq_true (by kernel_rfl)) (by unfold Func.isWrapper; first | (rw [if_pos (by decide +kernel)]; kernel_rfl) | (rw [if_neg (by decide +kernel)]; exact ⟨rfl, rfl⟩))
    (fun os started H enc _ => lifted os started H enc)
end Go.Proofs.Ytjgbheidkjgncaa.workSeen
