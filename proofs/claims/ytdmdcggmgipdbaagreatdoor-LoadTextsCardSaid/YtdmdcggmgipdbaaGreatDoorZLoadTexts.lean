/-
  LoadTexts holds: two places of a store have two texts, if they have texts at all. No conditions.
-/
import Derived.Test.YtdmdcggmgipdbaaGreatDoorPx
import Derived.Test.YtdmdcggmgipdbaaGreatDoorPy
import Derived.Test.YtdmdcggmgipdbaaGreatDoorRows
import Derived.OpenShut
import Derived.RegionTactic
namespace Go.Proofs.YtdmdcggmgipdbaaGreatDoor.loadTexts
open Go.ChangeShapes Go.WideShapes Go.ChangeAt Go.RowKit Kit Rw Ld
open Go.Proofs.YtdmdcggmgipdbaaGreatDoor.Sg (Sig Row Sized)
open Go.Proofs.YtdmdcggmgipdbaaGreatDoor.Hs (Keys Ints BoxT layI)
open Go.Proofs.YtdmdcggmgipdbaaGreatDoor.Ex (cellsS total7 rightB mayN runS right_tree)
theorem same9 (A A' : Option Addr) (c c' : Nat) (l : List Tg) (w : World) (hr : Rds w w.heap.size A (cellsG l)) (hr' : Rds w w.heap.size A' (cellsG l)) (hl : l.length ≤ 1000000) :
    Calls Tryz.prog 15 #[.slice A l.length c, .slice A' l.length c'] w fun e w' => e = .returned (.bool true) ∧ Q w w' := by
  have h := Ex.same7_any A A' l.length c l.length c' l l w rfl rfl hr hr' hl
  rw [(sameB_iff l l).2 rfl] at h
  refine h.mono ?_
  rintro e w' ⟨rfl, n, rfl⟩
  exact ⟨rfl, (Q.refl w).drewN n⟩
theorem pl_bad {L : List Sig} {names : List ByteArray} {ks : List (List Int)} {id : Int} (h : nodesE L names ks id ≠ 0) : nodesV L names ks id = [] ∧ textV L names ks id = [] := by
  unfold nodesV textV
  rw [if_neg h, if_neg h]
  exact ⟨rfl, rfl⟩
theorem pl_good {L : List Sig} {names : List ByteArray} {ks : List (List Int)} {id : Int} {i : Nat} (h : nodesE L names ks id = 0) (ha : At0 L names ks id i) : nodesV L names ks id = (exP L names ks i).nodes ∧ textV L names ks id = (exP L names ks i).text := by
  unfold nodesV textV
  rw [if_pos h, if_pos h, ha.id, Int.toNat_natCast]
  exact ⟨rfl, rfl⟩
theorem ne_list {T : List UInt8} (h : T ≠ []) : (bs T).toList ≠ [] := fun e => by
  apply h
  rw [ByteArray.toList_eq, bs_list] at e
  exact e
set_option maxRecDepth 100000 in
set_option maxHeartbeats 8000000 in
theorem walk (R A S B : Option Addr) (nl cl n c m d nb cb : Nat) (L : List Sig) (ks : List (List Int)) (sl : List Int) (names : List ByteArray) (x y : Int) (w : World) (hnl : nl = L.length) (hr : Row w w.heap.size R L) (hll : L.length ≤ maxLen) (hsz : Sized L) (hn : n = ks.length) (hm : m = sl.length) (hk : Keys w w.heap.size A ks) (hS : Ints w w.heap.size S sl)
    (hl : ks.length ≤ 1152921504606846976) (hs : ∀ k ∈ ks, k.length ≤ 1152921504606846976) (hsl : sl.length ≤ 1152921504606846976) (hnb : nb = names.length) (hN : Rds w w.heap.size B (cellsS names)) :
    Calls Tryz.prog 8 #[.agg #[.slice R nl cl, .slice A n c, .slice S m d, .slice B nb cb, .int .i64 x, .int .i64 y]] w fun e w' => e = .returned (.bool true) ∧ Q w w' := by
  subst hnl hn hm hnb
  have q0 := ((Q.refl w).alloc (Obj.cells #[.slice R L.length cl, .slice A ks.length c, .slice S sl.length d, .slice B names.length cb, .int .i64 x, .int .i64 y] 62)).alloc (Obj.cells #[.slice A ks.length c, .slice S sl.length d] 26)
  have hT := BoxT.new (w.alloc (Obj.cells #[.slice R L.length cl, .slice A ks.length c, .slice S sl.length d, .slice B names.length cb, .int .i64 x, .int .i64 y] 62)) (Value.slice A ks.length c) (Value.slice S sl.length d) 26
  rw [show (w.alloc (Obj.cells #[.slice R L.length cl, .slice A ks.length c, .slice S sl.length d, .slice B names.length cb, .int .i64 x, .int .i64 y] 62)).heap.size = w.heap.size + 1 by simp] at hT
  have HT := Lib.hid hT
  have HR := Lib.hid ((hr.q (Nat.le_refl _) q0).more q0.size)
  have HK := Lib.hid ((hk.q (Nat.le_refl _) q0).more q0.size)
  have HS := Lib.hid ((hS.q (Nat.le_refl _) q0).more q0.size)
  have HN := Lib.hid (hN.q q0)
  have HQ0 := Lib.hid q0
  have HSz := Lib.hid hsz
  have HX := Lib.hid hs
  clear hr hk hS hN q0 hT hsz hs
  go_enter Tryz.func8, Tryz.ntmps8
  go_wp2_with fail
  generalize (w.alloc (Obj.cells #[.slice R L.length cl, .slice A ks.length c, .slice S sl.length d, .slice B names.length cb, .int .i64 x, .int .i64 y] 62)).alloc (Obj.cells #[.slice A ks.length c, .slice S sl.length d] 26) = W0 at *
  refine (shown9_any _).mono ?_
  rintro e w1 ⟨rfl, q1⟩
  have Q1 := Lib.hid q1
  clear q1
  have CO := Lib.hid (fun (W : World) (q : Q W0 W) => of9_any R A S B L.length cl ks.length c sl.length d names.length cb L ks sl names W rfl ((HR.out.q (Nat.le_refl _) q).more q.size) rfl rfl ((HK.out.q (Nat.le_refl _) q).more q.size) ((HS.out.q (Nat.le_refl _) q).more q.size) rfl (HN.out.q q) hll HSz.out hl HX.out hsl)
  have b0 := (HT.out.q Q1.out).c0
  have b1 := (HT.out.q Q1.out).c1
  go_wp2_with fail
  refine (CO.out _ Q1.out).mono ?_
  rintro e w2 ⟨rfl, q2⟩
  have Q2 := Lib.hid (Q1.out.trans q2)
  clear q2 b0 b1
  cases hof : of9B L ks sl names
  · clear hof
    go_wp2_with fail
    go_ret
    exact ⟨rfl, HQ0.out.trans Q2.out⟩
  · obtain ⟨hok, rfl⟩ := of9_sto hof
    have hst : Sto W0 R A S B L ks names := ⟨HR.out, HK.out, HS.out, HN.out⟩
    have CX := Lib.hid (fun (W : World) (q : Q W0 W) => nodes9_any R A S B L.length cl ks.length c (layI ks).length d names.length cb L ks names x 0 W rfl rfl rfl rfl (hst.q q) hok (by omega))
    have CY := Lib.hid (fun (W : World) (q : Q W0 W) => nodes9_any R A S B L.length cl ks.length c (layI ks).length d names.length cb L ks names y 0 W rfl rfl rfl rfl (hst.q q) hok (by omega))
    have TX := Lib.hid (fun (W : World) (q : Q W0 W) => ltext_any R A S B L.length cl ks.length c (layI ks).length d names.length cb L ks names x 0 W rfl rfl rfl rfl (hst.q q) hok (by omega))
    have TY := Lib.hid (fun (W : World) (q : Q W0 W) => ltext_any R A S B L.length cl ks.length c (layI ks).length d names.length cb L ks names y 0 W rfl rfl rfl rfl (hst.q q) hok (by omega))
    clear hof hst HR HK HS HN hll hl hsl HSz HX CO Q1
    by_cases h1 : nodesE L names ks x = 0
    · obtain ⟨i, ha⟩ := at0 hok.store hok.dstL hok.l20 hok.n20 h1
      obtain ⟨v1, s1⟩ := pl_good h1 ha
      have t1 := ne_list (text_ne ⟨ha.wf, ha.may⟩)
      rw [h1, v1] at CX
      rw [s1] at TX

      by_cases h2 : nodesE L names ks y = 0
      · skip
        obtain ⟨j, hb⟩ := at0 hok.store hok.dstL hok.l20 hok.n20 h2
        obtain ⟨v2, s2⟩ := pl_good h2 hb
        have t2 := ne_list (text_ne ⟨hb.wf, hb.may⟩)
        rw [h2, v2] at CY
        rw [s2] at TY
        obtain ⟨p1, p2⟩ := places_texts hok.store hok.dstL hok.dst ha hb
        have l1 := ha.few
        have l2 := hb.few
        clear h1 h2 v1 v2 s1 s2 ha hb hok
        generalize (exP L names ks i).text = Z1 at *
        generalize (exP L names ks j).text = Z2 at *
        generalize (exP L names ks i).nodes = V1 at *
        generalize (exP L names ks j).nodes = V2 at *
        have t1a : decide ((bs Z1).toList = []) = false := decide_eq_false t1
        have t1b : (bs Z1).toList.isEmpty = false := by rw [List.isEmpty_eq_false_iff]; exact t1
        have t2a : decide ((bs Z2).toList = []) = false := decide_eq_false t2
        have t2b : (bs Z2).toList.isEmpty = false := by rw [List.isEmpty_eq_false_iff]; exact t2
        by_cases hxy : x = y
        · have g1 := p1.2 hxy
          have g2 := p2.2 hxy
          subst hxy g1 g2
          clear p1 p2
          have CS := Lib.hid (fun (A A' : Option Addr) (c c' : Nat) (W : World) (hr : Rds W W.heap.size A (cellsG V1)) (hr' : Rds W W.heap.size A' (cellsG V1)) => same9 A A' c c' V1 W hr hr' (by omega))
          generalize bs Z1 = z1 at *
          have b0 := (HT.out.q Q2.out).c0
          have b1 := (HT.out.q Q2.out).c1
          go_wp2_with fail
          refine (CX.out _ Q2.out).mono ?_
          rintro e w3 ⟨A3, c3, rfl, hr3, q3⟩
          have Q3 := Lib.hid (Q2.out.trans q3)
          have HR3 := Lib.hid hr3
          clear q3 b0 b1 hr3
          have b0 := (HT.out.q Q3.out).c0
          have b1 := (HT.out.q Q3.out).c1
          go_wp2_with fail
          refine (CY.out _ Q3.out).mono ?_
          rintro e w4 ⟨A4, c4, rfl, hr4, q4⟩
          have Q4 := Lib.hid (Q3.out.trans q4)
          replace HR3 := Lib.hid (HR3.out.q q4)
          have HR4 := Lib.hid hr4
          clear q4 b0 b1 hr4
          have b0 := (HT.out.q Q4.out).c0
          have b1 := (HT.out.q Q4.out).c1
          go_wp2_with fail
          refine (TX.out _ Q4.out).mono ?_
          rintro e w5 ⟨rfl, q5⟩
          have Q5 := Lib.hid (Q4.out.trans q5)
          replace HR3 := Lib.hid (HR3.out.q q5)
          replace HR4 := Lib.hid (HR4.out.q q5)
          clear q5 b0 b1
          have b0 := (HT.out.q Q5.out).c0
          have b1 := (HT.out.q Q5.out).c1
          go_wp2_with fail
          refine (TY.out _ Q5.out).mono ?_
          rintro e w6 ⟨rfl, q6⟩
          have Q6 := Lib.hid (Q5.out.trans q6)
          replace HR3 := Lib.hid (HR3.out.q q6)
          replace HR4 := Lib.hid (HR4.out.q q6)
          clear q6 b0 b1
          go_wp2_with fail
          refine (CS.out A3 A4 c3 c4 w6 HR3.out HR4.out).mono ?_
          rintro e w7 ⟨rfl, q7⟩
          go_wp2_with fail
          go_ret
          exact ⟨by first | rfl | simp, HQ0.out.trans (Q6.out.trans q7)⟩
        · have hz : bs Z1 ≠ bs Z2 := fun e => hxy (p1.1 (by rw [← bs_list Z1, ← bs_list Z2, e]))
          have hv : sameB V1 V2 = false := by
            cases hh : sameB V1 V2
            · rfl
            · exact absurd (p2.1 ((sameB_iff _ _).1 hh)) hxy
          have CS : Hid (∀ (A A' : Option Addr) (c c' : Nat) (W : World), Rds W W.heap.size A (cellsG V1) → Rds W W.heap.size A' (cellsG V2) → Calls Tryz.prog 15 #[.slice A V1.length c, .slice A' V2.length c'] W fun e w' => e = .returned (.bool false) ∧ Q W w') := fun A A' c c' W hr hr' => by
            have h := Ex.same7_any A A' V1.length c V2.length c' V1 V2 W rfl rfl hr hr' (by omega)
            rw [hv] at h
            refine h.mono ?_
            rintro e w' ⟨rfl, n, rfl⟩
            exact ⟨rfl, (Q.refl W).drewN n⟩
          have x1 : (x == y) = false := beq_eq_false_iff_ne.2 hxy
          have x2 : decide (x = y) = false := decide_eq_false hxy
          have y1 : ((bs Z1).toList == (bs Z2).toList) = false := by
            cases hh : ((bs Z1).toList == (bs Z2).toList)
            · rfl
            · exact absurd ((eqS_iff _ _).1 hh) hz
          have y2 : decide ((bs Z1).toList = (bs Z2).toList) = false := by
            rw [decide_eq_false_iff_not]
            intro e
            rw [e] at y1
            simp at y1
          clear hxy p1 p2 hv hz t1 t2
          generalize bs Z1 = z1 at *
          generalize bs Z2 = z2 at *
          have b0 := (HT.out.q Q2.out).c0
          have b1 := (HT.out.q Q2.out).c1
          go_wp2_with fail
          refine (CX.out _ Q2.out).mono ?_
          rintro e w3 ⟨A3, c3, rfl, hr3, q3⟩
          have Q3 := Lib.hid (Q2.out.trans q3)
          have HR3 := Lib.hid hr3
          clear q3 b0 b1 hr3
          have b0 := (HT.out.q Q3.out).c0
          have b1 := (HT.out.q Q3.out).c1
          go_wp2_with fail
          refine (CY.out _ Q3.out).mono ?_
          rintro e w4 ⟨A4, c4, rfl, hr4, q4⟩
          have Q4 := Lib.hid (Q3.out.trans q4)
          replace HR3 := Lib.hid (HR3.out.q q4)
          have HR4 := Lib.hid hr4
          clear q4 b0 b1 hr4
          have b0 := (HT.out.q Q4.out).c0
          have b1 := (HT.out.q Q4.out).c1
          go_wp2_with fail
          refine (TX.out _ Q4.out).mono ?_
          rintro e w5 ⟨rfl, q5⟩
          have Q5 := Lib.hid (Q4.out.trans q5)
          replace HR3 := Lib.hid (HR3.out.q q5)
          replace HR4 := Lib.hid (HR4.out.q q5)
          clear q5 b0 b1
          have b0 := (HT.out.q Q5.out).c0
          have b1 := (HT.out.q Q5.out).c1
          go_wp2_with fail
          refine (TY.out _ Q5.out).mono ?_
          rintro e w6 ⟨rfl, q6⟩
          have Q6 := Lib.hid (Q5.out.trans q6)
          replace HR3 := Lib.hid (HR3.out.q q6)
          replace HR4 := Lib.hid (HR4.out.q q6)
          clear q6 b0 b1
          go_wp2_with fail
          refine (CS.out A3 A4 c3 c4 w6 HR3.out HR4.out).mono ?_
          rintro e w7 ⟨rfl, q7⟩
          go_wp2_with fail
          go_ret
          exact ⟨by first | rfl | simp, HQ0.out.trans (Q6.out.trans q7)⟩
      · skip
        obtain ⟨v2, s2⟩ := pl_bad h2
        rw [v2] at CY
        rw [s2, show bs [] = ⟨#[]⟩ from rfl] at TY
        have g2 : (nodesE L names ks y != 0) = true := bne_iff_ne.2 h2
        generalize nodesE L names ks y = E2 at *
        clear h2 v2 s2
        have l1 := ha.few
        clear h1 v1 s1 ha
        generalize (exP L names ks i).text = Z1 at *
        generalize (exP L names ks i).nodes = V1 at *
        have t1a : decide ((bs Z1).toList = []) = false := decide_eq_false t1
        have t1b : (bs Z1).toList.isEmpty = false := by rw [List.isEmpty_eq_false_iff]; exact t1
        generalize bs Z1 = z1 at *
        clear hok t1
        have b0 := (HT.out.q Q2.out).c0
        have b1 := (HT.out.q Q2.out).c1
        go_wp2_with fail
        refine (CX.out _ Q2.out).mono ?_
        rintro e w3 ⟨A3, c3, rfl, hr3, q3⟩
        have Q3 := Lib.hid (Q2.out.trans q3)
        have HR3 := Lib.hid hr3
        clear q3 b0 b1 hr3
        have b0 := (HT.out.q Q3.out).c0
        have b1 := (HT.out.q Q3.out).c1
        go_wp2_with fail
        refine (CY.out _ Q3.out).mono ?_
        rintro e w4 ⟨A4, c4, rfl, hr4, q4⟩
        have Q4 := Lib.hid (Q3.out.trans q4)
        replace HR3 := Lib.hid (HR3.out.q q4)
        have HR4 := Lib.hid hr4
        clear q4 b0 b1 hr4
        have b0 := (HT.out.q Q4.out).c0
        have b1 := (HT.out.q Q4.out).c1
        go_wp2_with fail
        refine (TX.out _ Q4.out).mono ?_
        rintro e w5 ⟨rfl, q5⟩
        have Q5 := Lib.hid (Q4.out.trans q5)
        replace HR3 := Lib.hid (HR3.out.q q5)
        replace HR4 := Lib.hid (HR4.out.q q5)
        clear q5 b0 b1
        have b0 := (HT.out.q Q5.out).c0
        have b1 := (HT.out.q Q5.out).c1
        go_wp2_with fail
        refine (TY.out _ Q5.out).mono ?_
        rintro e w6 ⟨rfl, q6⟩
        have Q6 := Lib.hid (Q5.out.trans q6)
        replace HR3 := Lib.hid (HR3.out.q q6)
        replace HR4 := Lib.hid (HR4.out.q q6)
        clear q6 b0 b1
        go_wp2_with fail
        go_ret
        exact ⟨by first | rfl | simp, HQ0.out.trans Q6.out⟩
    · skip
      obtain ⟨v1, s1⟩ := pl_bad h1
      rw [v1] at CX
      rw [s1, show bs [] = ⟨#[]⟩ from rfl] at TX
      have g1 : (nodesE L names ks x != 0) = true := bne_iff_ne.2 h1
      generalize nodesE L names ks x = E1 at *
      clear h1 v1 s1
      by_cases h2 : nodesE L names ks y = 0
      · skip
        obtain ⟨j, hb⟩ := at0 hok.store hok.dstL hok.l20 hok.n20 h2
        obtain ⟨v2, s2⟩ := pl_good h2 hb
        have t2 := ne_list (text_ne ⟨hb.wf, hb.may⟩)
        rw [h2, v2] at CY
        rw [s2] at TY
        have l2 := hb.few
        clear h2 v2 s2 hb
        generalize (exP L names ks j).text = Z2 at *
        generalize (exP L names ks j).nodes = V2 at *
        have t2a : decide ((bs Z2).toList = []) = false := decide_eq_false t2
        have t2b : (bs Z2).toList.isEmpty = false := by rw [List.isEmpty_eq_false_iff]; exact t2
        generalize bs Z2 = z2 at *
        clear hok t2
        have b0 := (HT.out.q Q2.out).c0
        have b1 := (HT.out.q Q2.out).c1
        go_wp2_with fail
        refine (CX.out _ Q2.out).mono ?_
        rintro e w3 ⟨A3, c3, rfl, hr3, q3⟩
        have Q3 := Lib.hid (Q2.out.trans q3)
        have HR3 := Lib.hid hr3
        clear q3 b0 b1 hr3
        have b0 := (HT.out.q Q3.out).c0
        have b1 := (HT.out.q Q3.out).c1
        go_wp2_with fail
        refine (CY.out _ Q3.out).mono ?_
        rintro e w4 ⟨A4, c4, rfl, hr4, q4⟩
        have Q4 := Lib.hid (Q3.out.trans q4)
        replace HR3 := Lib.hid (HR3.out.q q4)
        have HR4 := Lib.hid hr4
        clear q4 b0 b1 hr4
        have b0 := (HT.out.q Q4.out).c0
        have b1 := (HT.out.q Q4.out).c1
        go_wp2_with fail
        refine (TX.out _ Q4.out).mono ?_
        rintro e w5 ⟨rfl, q5⟩
        have Q5 := Lib.hid (Q4.out.trans q5)
        replace HR3 := Lib.hid (HR3.out.q q5)
        replace HR4 := Lib.hid (HR4.out.q q5)
        clear q5 b0 b1
        have b0 := (HT.out.q Q5.out).c0
        have b1 := (HT.out.q Q5.out).c1
        go_wp2_with fail
        refine (TY.out _ Q5.out).mono ?_
        rintro e w6 ⟨rfl, q6⟩
        have Q6 := Lib.hid (Q5.out.trans q6)
        replace HR3 := Lib.hid (HR3.out.q q6)
        replace HR4 := Lib.hid (HR4.out.q q6)
        clear q6 b0 b1
        go_wp2_with fail
        go_ret
        exact ⟨by first | rfl | simp, HQ0.out.trans Q6.out⟩
      · skip
        obtain ⟨v2, s2⟩ := pl_bad h2
        rw [v2] at CY
        rw [s2, show bs [] = ⟨#[]⟩ from rfl] at TY
        have g2 : (nodesE L names ks y != 0) = true := bne_iff_ne.2 h2
        generalize nodesE L names ks y = E2 at *
        clear h2 v2 s2
        clear hok
        have b0 := (HT.out.q Q2.out).c0
        have b1 := (HT.out.q Q2.out).c1
        go_wp2_with fail
        refine (CX.out _ Q2.out).mono ?_
        rintro e w3 ⟨A3, c3, rfl, hr3, q3⟩
        have Q3 := Lib.hid (Q2.out.trans q3)
        have HR3 := Lib.hid hr3
        clear q3 b0 b1 hr3
        have b0 := (HT.out.q Q3.out).c0
        have b1 := (HT.out.q Q3.out).c1
        go_wp2_with fail
        refine (CY.out _ Q3.out).mono ?_
        rintro e w4 ⟨A4, c4, rfl, hr4, q4⟩
        have Q4 := Lib.hid (Q3.out.trans q4)
        replace HR3 := Lib.hid (HR3.out.q q4)
        have HR4 := Lib.hid hr4
        clear q4 b0 b1 hr4
        have b0 := (HT.out.q Q4.out).c0
        have b1 := (HT.out.q Q4.out).c1
        go_wp2_with fail
        refine (TX.out _ Q4.out).mono ?_
        rintro e w5 ⟨rfl, q5⟩
        have Q5 := Lib.hid (Q4.out.trans q5)
        replace HR3 := Lib.hid (HR3.out.q q5)
        replace HR4 := Lib.hid (HR4.out.q q5)
        clear q5 b0 b1
        have b0 := (HT.out.q Q5.out).c0
        have b1 := (HT.out.q Q5.out).c1
        go_wp2_with fail
        refine (TY.out _ Q5.out).mono ?_
        rintro e w6 ⟨rfl, q6⟩
        have Q6 := Lib.hid (Q5.out.trans q6)
        replace HR3 := Lib.hid (HR3.out.q q6)
        replace HR4 := Lib.hid (HR4.out.q q6)
        clear q6 b0 b1
        go_wp2_with fail
        go_ret
        exact ⟨by first | rfl | simp, HQ0.out.trans Q6.out⟩
theorem reads (os : Os) {H : Type} (enc : TypeId × Value → H) : ∃ places, DataW.whole enc Tryz.prog ((laidWorld os).forCall (fun _ _ => 0) ⟨#[], #[.agg #[.slice none 0 0, .slice none 0 0, .slice none 0 0, .slice none 0 0, .int .i64 0, .int .i64 0]], []⟩).memory Tryz.f8.params.toList Rows.loadTextsSpec.vars false (#[.agg #[.slice none 0 0, .slice none 0 0, .slice none 0 0, .slice none 0 0, .int .i64 0, .int .i64 0]] : Array Value).toList 8 = some ([.agg [.nil, .agg [.nil, .nil], .nil, .lit (.int .i64 0), .lit (.int .i64 0)]], [], places) :=
  ⟨[], by kernel_rfl⟩

set_option maxRecDepth 100000 in
theorem contract (H : Type) (enc : TypeId × Value → H) (W : World) (base : Nat) (args : Array Value) (ds gs : List (DataW H)) (before : List MemPlace)
    (hval : ∀ (j : Nat) t v, Tryz.f8.params[j]? = some t → args[j]? = some v → Value.okWide Tryz.prog W .any base t v)
    (hW : DataW.Whole enc Tryz.prog Tryz.f8.params.toList Rows.loadTextsSpec.vars false W args.toList ds gs before)
    (hsz0 : (DataW.weightsEach Tryz.prog (Tryz.f8.params.toList ++ Rows.loadTextsSpec.plain.varTypes Tryz.prog) (ds ++ gs)).all (· ≤ reachBytes) = true) :
    Calls Tryz.prog 8 args W fun e W' => ∃ v, e = .returned v ∧ Rows.loadTextsSpec.post enc Tryz.prog Tryz.f8 false true false false W args v W' := by
  have hW' := hW
  obtain ⟨p, q, hA0, hV, rfl, hfz, hnd⟩ := hW
  have hA : DataW.TrodAll enc Tryz.prog W 0 (fun _ => true) true Tryz.f8.params.toList args.toList ds p := hA0
  rw [Tryz.params8] at hA hval
  obtain ⟨v0, vs0, d0, ds0, p0, q0, hargs, rfl, rfl, h0, r0⟩ := trodAll_cons hA
  obtain ⟨rfl, rfl, rfl⟩ := trodAll_nil r0
  obtain rfl : args = #[v0] := by cases args; simp_all
  obtain ⟨rfl, rfl⟩ := trodVars_none hV
  have z0 : ∀ n ∈ d0.weights Tryz.prog 62, n ≤ reachBytes := fun n hn => by
    have := List.all_eq_true.1 hsz0 n (DataW.weights_mem_each (j := 0) (t := 62) (d := d0) (by rw [Tryz.params8]; rfl) rfl n hn)
    simpa using this
  clear hsz0
  obtain ⟨R, nl, cl, L, A, n, c, S, m, d, ks, sl, B, nb, cb, names, x0, x1, rfl, a1, a2, a3, a4, b1, b2, b3, b4, b5, b6, b7, e1, e2⟩ := Ex.open_LoadTextsIn (hval 0 62 v0 rfl rfl) h0 z0
  clear hA0
  refine (walk R A S B nl cl n c m d nb cb L ks sl names x0 x1 W a1 a2 a3 a4 b1 b2 b3 b4 b5 b6 b7 e1 e2).mono fun e W' ⟨he, hg⟩ => ?_
  subst he
  exact ⟨_, rfl, post_law laid (by rw [Tryz.params8]; decide +kernel) rfl rfl (by kernel_rfl) Tryz.underlying4 hW' hg⟩

set_option maxRecDepth 100000 in
theorem lifted (os : Os) (started : os.Started) (H : Type) (enc : TypeId × Value → H) (F : Stop.Interp) :
    ReturnsInHanded {} Tryz.checked os 8 .any ((OpenSpec.ofChange Rows.loadTextsSpec).preRow enc Tryz.prog Tryz.f8 Rows.loadTextsRow.domain false Rows.loadTextsRow.laid) (((OpenSpec.ofChange Rows.loadTextsSpec).at F).post enc Tryz.prog Tryz.f8 false true false false) := by
  obtain ⟨places, hx⟩ := reads os enc
  refine returnsInHanded_of_row (C := Tryz.checked) (s := OpenSpec.ofChange Rows.loadTextsSpec) own started (by kernel_rfl) Tryz.func8
    (witness_row_at (enc := enc) (C := Tryz.checked) false (laidWorld os) #[.agg #[.slice none 0 0, .slice none 0 0, .slice none 0 0, .slice none 0 0, .int .i64 0, .int .i64 0]] rfl (laid_vars os _) (by kernel_rfl) (by kernel_rfl)
      (OpenSpec.preRow_of_cond 8 hx (by kernel_rfl) (fun k hk => by cases hk) (by kernel_rfl) (laid_met os _))) ?_
  intro W base args ds gs before hval hW _ _ hsz _ _ _
  exact contract H enc W base args ds gs before hval hW hsz

theorem said : Rows.LoadTextsSaid :=
  OpenClaim.holds_of_cond 8 Tryz.f8 rfl rfl rfl rfl rfl rfl rfl ⟨rfl, rfl, rfl, rfl, rfl⟩ rfl rfl rfl rfl rfl (by kernel_rfl) Tryz.func8 (by kernel_rfl)
    (of_decide_eq_true (by kernel_rfl)) (by unfold Func.isWrapper; first | (rw [if_pos (by decide +kernel)]; kernel_rfl) | (rw [if_neg (by decide +kernel)]; exact ⟨rfl, rfl⟩))
    (fun os started H enc _ F => by rw [OpenClaim.pre_eq_preRow]; exact lifted os started H enc F)

theorem plain (f : FuncId) (fn : Func) (hf : Tryz.pinned.checked.prog.funcNamed "tammy/tammylaw09.LoadTexts" = some f) (hfn : Tryz.pinned.checked.prog.funcs[f]? = some fn) :
    false = Tryz.pinned.checked.prog.looks [] ∧ ∀ (j : Nat) t, fn.params[j]? = some t → Tryz.pinned.checked.prog.wantsStandIn t = false := by
  obtain rfl : f = 8 := Option.some.inj ((show Tryz.prog.funcNamed "tammy/tammylaw09.LoadTexts" = some 8 by kernel_rfl).symm.trans hf) |>.symm
  obtain rfl : fn = Tryz.f8 := (Option.some.inj (Tryz.func8.symm.trans hfn)).symm
  refine ⟨by kernel_rfl, fun j t ht => ?_⟩
  rw [Tryz.params8] at ht
  have hm := Array.mem_of_getElem? ht
  simp only [List.mem_toArray, List.mem_cons, List.not_mem_nil, or_false] at hm
  rcases hm with rfl
  · exact (show Tryz.prog.wantsStandIn 62 = false by kernel_rfl)

/-- THE STATEMENT: the tied card -/
theorem card : Rows.LoadTextsCardSaid :=
  Claim7.holds_tied_plain_at .later [] _ _ _ _ said (fun _ h => by cases h) (by kernel_rfl) (fun _ h => by cases h) loadTexts_row_tie rfl ⟨rfl, rfl⟩ (by kernel_rfl) rfl plain (by kernel_rfl)
end Go.Proofs.YtdmdcggmgipdbaaGreatDoor.loadTexts
