/-
  LoadBack holds: the nodes of an expression's term are the expression; its text is its own; loaded again nothing is new. No conditions.
-/
import Derived.Test.YtdmdcggmgipdbaaGreatDoorPx
import Derived.Test.YtdmdcggmgipdbaaGreatDoorPy
import Derived.Test.YtdmdcggmgipdbaaGreatDoorRows
import Derived.OpenShut
import Derived.RegionTactic
namespace Go.Proofs.YtdmdcggmgipdbaaGreatDoor.loadBack
open Go.ChangeShapes Go.WideShapes Go.ChangeAt Go.RowKit Kit Rw Ld
open Go.Proofs.YtdmdcggmgipdbaaGreatDoor.Sg (Sig Row Sized)
open Go.Proofs.YtdmdcggmgipdbaaGreatDoor.Hs (Keys Ints BoxT layI)
open Go.Proofs.YtdmdcggmgipdbaaGreatDoor.Ex (cellsS total7 rightB mayN runS right_tree)
theorem same9 (A A' : Option Addr) (c c' : Nat) (l : List Tg) (w : World) (hr : Rds w w.heap.size A (cellsG l)) (hr' : Rds w w.heap.size A' (cellsG l)) (hl : l.length ≤ 1000000) :
    Calls Tryz.prog 15 #[.slice A l.length c, .slice A' l.length c'] w fun e w' => e = .returned (.bool true) ∧ Q w w' := by
  have h := Ex.same7_any A A' l.length c l.length c' l l w rfl rfl hr hr' hl
  rw [(sameB_iff l l).2 rfl] at h
  refine h.mono ?_
  rintro e w' ⟨rfl, n, rfl⟩
  exact ⟨rfl, (Q.refl w).drewN n⟩
theorem lay_max (K : List (List Int)) (h : K.length ≤ 5000) : (layI K).length ≤ Go.maxLen := by
  have := Hs.sizeN_le K.length
  rw [Hs.layI_length]
  unfold Go.maxLen
  omega
theorem same_tab (A S A' S' : Option Addr) (c d c' d' : Nat) (K : List (List Int)) (w : World) (hk : Keys w w.heap.size A K) (hS : Ints w w.heap.size S (layI K)) (hk' : Keys w w.heap.size A' K) (hS' : Ints w w.heap.size S' (layI K)) (hl : K.length ≤ 5000) (hs : ∀ k ∈ K, k.length ≤ 100000) :
    Calls Tryz.prog 21 #[.agg #[.slice A K.length c, .slice S (layI K).length d], .agg #[.slice A' K.length c', .slice S' (layI K).length d']] w fun e w' => e = .returned (.bool true) ∧ Q w w' := by
  have h := Hs.refSame_any A S A' S' K.length c (layI K).length d K.length c' (layI K).length d' K K (layI K) (layI K) w rfl rfl rfl rfl hk hS hk' hS' (by unfold Go.maxLen; omega) (fun k hk => by have := hs k hk; unfold Go.maxLen; omega) (lay_max K hl)
  rw [tab_same] at h
  exact h
theorem same_names (A A' : Option Addr) (c c' : Nat) (N : List ByteArray) (w : World) (hr : Rds w w.heap.size A (cellsS N)) (hr' : Rds w w.heap.size A' (cellsS N)) (hl : N.length ≤ 1000000) :
    Calls Tryz.prog 22 #[.slice A N.length c, .slice A' N.length c'] w fun e w' => e = .returned (.bool true) ∧ Q w w' := by
  have h := Ex.texts8_any A A' N.length c N.length c' N N w rfl rfl hr hr' hl
  rw [(Ex.eqT_iff N N).2 rfl] at h
  exact h
set_option maxRecDepth 100000 in
set_option maxHeartbeats 8000000 in
theorem walk (R A S B : Option Addr) (nl cl n c m d nb cb : Nat) (L : List Sig) (ks : List (List Int)) (sl : List Int) (names : List ByteArray) (T : Option Addr) (ne ce : Nat) (l : List Tg) (w : World) (hnl : nl = L.length) (hr : Row w w.heap.size R L) (hll : L.length ≤ maxLen) (hsz : Sized L) (hn : n = ks.length) (hm : m = sl.length) (hk : Keys w w.heap.size A ks) (hS : Ints w w.heap.size S sl)
    (hl : ks.length ≤ 1152921504606846976) (hs : ∀ k ∈ ks, k.length ≤ 1152921504606846976) (hsl : sl.length ≤ 1152921504606846976) (hnb : nb = names.length) (hN : Rds w w.heap.size B (cellsS names)) (hne : ne = l.length) (hE : Rds w w.heap.size T (cellsG l)) (hll2 : l.length ≤ 140737488355328) (hnc : ne ≤ ce) (hz : ∀ t ∈ l, t.2.1.size ≤ 140737488355328) :
    Calls Tryz.prog 4 #[.agg #[.slice R nl cl, .slice A n c, .slice S m d, .slice B nb cb, .slice T ne ce]] w fun e w' => e = .returned (.bool true) ∧ Q w w' := by
  subst hnl hn hm hnb hne
  have q0 := ((Q.refl w).alloc (Obj.cells #[.slice R L.length cl, .slice A ks.length c, .slice S sl.length d, .slice B names.length cb, .slice T l.length ce] 43)).alloc (Obj.cells #[.slice A ks.length c, .slice S sl.length d] 26)
  have hT := BoxT.new (w.alloc (Obj.cells #[.slice R L.length cl, .slice A ks.length c, .slice S sl.length d, .slice B names.length cb, .slice T l.length ce] 43)) (Value.slice A ks.length c) (Value.slice S sl.length d) 26
  rw [show (w.alloc (Obj.cells #[.slice R L.length cl, .slice A ks.length c, .slice S sl.length d, .slice B names.length cb, .slice T l.length ce] 43)).heap.size = w.heap.size + 1 by simp] at hT
  have HT := Lib.hid hT
  have HR := Lib.hid ((hr.q (Nat.le_refl _) q0).more q0.size)
  have HK := Lib.hid ((hk.q (Nat.le_refl _) q0).more q0.size)
  have HS := Lib.hid ((hS.q (Nat.le_refl _) q0).more q0.size)
  have HN := Lib.hid (hN.q q0)
  have HL := Lib.hid (hE.q q0)
  have HQ0 := Lib.hid q0
  have HSz := Lib.hid hsz
  have HX := Lib.hid hs
  have HZ := Lib.hid hz
  clear hr hk hS hN q0 hT hsz hs hE hz
  go_enter Tryz.func4, Tryz.ntmps4
  go_wp2_with fail
  generalize (w.alloc (Obj.cells #[.slice R L.length cl, .slice A ks.length c, .slice S sl.length d, .slice B names.length cb, .slice T l.length ce] 43)).alloc (Obj.cells #[.slice A ks.length c, .slice S sl.length d] 26) = W0 at *
  refine (shown9_any _).mono ?_
  rintro e w1 ⟨rfl, q1⟩
  have Q1 := Lib.hid q1
  clear q1
  have CO := Lib.hid (of9_any R A S B L.length cl ks.length c sl.length d names.length cb L ks sl names w1 rfl ((HR.out.q (Nat.le_refl _) Q1.out).more Q1.out.size) rfl rfl ((HK.out.q (Nat.le_refl _) Q1.out).more Q1.out.size) ((HS.out.q (Nat.le_refl _) Q1.out).more Q1.out.size) rfl (HN.out.q Q1.out) hll HSz.out hl HX.out hsl)
  have b0 := (HT.out.q Q1.out).c0
  have b1 := (HT.out.q Q1.out).c1
  go_wp2_with fail
  refine CO.out.mono ?_
  rintro e w2 ⟨rfl, q2⟩
  have Q2 := Lib.hid (Q1.out.trans q2)
  clear q2 CO b0 b1 Q1
  cases hof : of9B L ks sl names
  · clear hof
    go_wp2_with fail
    go_ret
    exact ⟨rfl, HQ0.out.trans Q2.out⟩
  · obtain ⟨hok, rfl⟩ := of9_sto hof
    have hst : Sto W0 R A S B L ks names := ⟨HR.out, HK.out, HS.out, HN.out⟩
    have HOK := Lib.hid hok
    have HST := Lib.hid hst
    have CF := Lib.hid (Ex.few7_any T l.length ce l w2 rfl (HL.out.q Q2.out) hll2 HZ.out)
    clear hof hok hst HR HK HS HN hll hl hsl HSz HX
    go_wp2_with fail
    refine CF.out.mono ?_
    rintro e w3 ⟨rfl, q3⟩
    have Q3 := Lib.hid (Q2.out.trans q3)
    clear q3 Q2 CF
    by_cases hf : total7 l ≤ 600
    · have d6 : decide (total7 l ≤ 600) = true := decide_eq_true hf
      rw [d6]
      have CR := Lib.hid (Ex.right7_any T l.length ce l w3 rfl (HL.out.q Q3.out) hf)
      go_wp2_with fail
      refine CR.out.mono ?_
      rintro e w4 ⟨rfl, q4⟩
      have Q4 := Lib.hid (Q3.out.trans q4)
      clear q4 Q3 CR
      cases hrb : rightB l
      · clear hrb
        go_wp2_with fail
        go_ret
        exact ⟨rfl, HQ0.out.trans Q4.out⟩
      · obtain ⟨hmay, x, hrun, hwf, hnd, hdp, htx, hpos⟩ := right_tree hrb
        have h600 : l.length ≤ 600 := Nat.le_trans (Ex.total7_ge l) hf
        have HM := Lib.hid hmay
        have HRun := Lib.hid hrun
        have HWf := Lib.hid hwf
        have HND := Lib.hid hnd
        have HRB := Lib.hid hrb
        have HTX := Lib.hid htx
        have HG := Lib.hid (Ex.good_of hf hpos hmay hrun)
        clear hmay hrun hwf hnd hrb hll2 HZ hdp htx
        by_cases h3 : 300 < l.length
        · have d3 : decide ((300 : Int) < (l.length : Int)) = true := decide_eq_true (by omega)
          clear h3
          go_wp2_with fail
          go_ret
          exact ⟨rfl, HQ0.out.trans Q4.out⟩
        · have d3 : decide ((300 : Int) < (l.length : Int)) = false := decide_eq_false (by omega)
          have h300 : l.length ≤ 300 := by omega
          have CL := Lib.hid (load_any R A S B T L.length cl ks.length c (layI ks).length d names.length cb l.length ce L ks names l x 5000 0 w4 rfl rfl rfl rfl rfl (HST.out.q Q4.out) HOK.out (by omega) (HL.out.q Q4.out) HM.out HRun.out h600)
          have b0 := (HT.out.q Q4.out).c0
          have b1 := (HT.out.q Q4.out).c1
          have hns : names.length ≤ 100 := by have := HOK.out.nlen; omega
          have hks : ks.length ≤ 2000 := by have := HOK.out.klen; omega
          clear h3 hf hpos
          by_cases h0 : loadE L 5000 ks names l = 0
          · have hld := loaded HOK.out.store HOK.out.dst HOK.out.nms HM.out HRun.out h0
            have hok2 := hld.sto HOK.out
            have hnr := nodes_rep hok2.store HWf.out (fun t ht => HM.out t (by rw [← HND.out]; exact ht)) (by rw [HND.out]; exact h300) (by rw [HND.out]; exact HRB.out) hld.rep
            have he2 := hld.e2
            rw [h0] at CL
            clear h0 hld
            generalize loadK L 5000 ks names l = K at *
            generalize loadN L 5000 ks names l = N at *
            generalize loadI L 5000 ks names l = I at *
            have HOK2 := Lib.hid hok2
            have HNR := Lib.hid hnr
            have HE2 := Lib.hid he2
            have hKl : K.length ≤ 5000 := by have := hok2.klen; omega
            have hNl : N.length ≤ 1000000 := by have := hok2.nlen; omega
            clear hok2 hnr he2
            go_wp2_with fail
            refine CL.out.mono ?_
            rintro e w5 ⟨A5, c5, S5, d5, B5, e5, rfl, hk5, hs5, hn5, q5⟩
            have q56 := (Q.refl w5).alloc (Obj.cells #[.slice A5 K.length c5, .slice S5 (layI K).length d5] 26)
            have HT2 := Lib.hid (BoxT.new w5 (.slice A5 K.length c5) (.slice S5 (layI K).length d5) 26)
            have HST2 : Hid (Sto (w5.alloc (Obj.cells #[.slice A5 K.length c5, .slice S5 (layI K).length d5] 26)) R A5 S5 B5 L K N) := (⟨((HST.out.q (Q4.out.trans q5)).row), hk5, hs5, hn5⟩ : Sto w5 R A5 S5 B5 L K N).q q56
            have HL6 := Lib.hid (HL.out.q (Q4.out.trans (q5.trans q56)))
            have Q6 := Lib.hid (HQ0.out.trans (Q4.out.trans (q5.trans q56)))
            clear hk5 hs5 hn5 q5 q56 b0 b1 CL HT HST HL Q4
            have CR := Lib.hid (fun (W : World) (q : Q (w5.alloc (Obj.cells #[.slice A5 K.length c5, .slice S5 (layI K).length d5] 26)) W) => Tm.refRight3_any R A5 S5 L.length cl K.length c5 (layI K).length d5 L K (layI K) W rfl (HST2.out.q q).row rfl rfl (HST2.out.q q).keys (HST2.out.q q).slots (fun k hk => by have := HOK2.out.kx (by omega) k hk; unfold Go.maxLen; omega) hKl (lay_max K hKl))
            have CM := Lib.hid (fun (W : World) (q : Q (w5.alloc (Obj.cells #[.slice A5 K.length c5, .slice S5 (layI K).length d5] 26)) W) => refNamed_any B5 N.length e5 N W rfl (HST2.out.q q).nms hNl)
            have CN := Lib.hid (fun (W : World) (q : Q (w5.alloc (Obj.cells #[.slice A5 K.length c5, .slice S5 (layI K).length d5] 26)) W) => nodes9_any R A5 S5 B5 L.length cl K.length c5 (layI K).length d5 N.length e5 L K N I _ W rfl rfl rfl rfl (HST2.out.q q) HOK2.out (by omega))
            have C2 := Lib.hid (fun (W : World) (q : Q (w5.alloc (Obj.cells #[.slice A5 K.length c5, .slice S5 (layI K).length d5] 26)) W) => load_any R A5 S5 B5 T L.length cl K.length c5 (layI K).length d5 N.length e5 l.length ce L K N l x 0 _ W rfl rfl rfl rfl rfl (HST2.out.q q) HOK2.out (by omega) (HL6.out.q q) HM.out HRun.out h600)
            have CT := Lib.hid (fun (W : World) (q : Q (w5.alloc (Obj.cells #[.slice A5 K.length c5, .slice S5 (layI K).length d5] 26)) W) => ltext_any R A5 S5 B5 L.length cl K.length c5 (layI K).length d5 N.length e5 L K N I _ W rfl rfl rfl rfl (HST2.out.q q) HOK2.out (by omega))
            have CX := Lib.hid (fun (W : World) (q : Q (w5.alloc (Obj.cells #[.slice A5 K.length c5, .slice S5 (layI K).length d5] 26)) W) => Ex.text7_any T l.length ce l _ W rfl (HL6.out.q q) HG.out)
            rw [HOK2.out.storeB] at CR
            rw [HOK2.out.named] at CM
            rw [HNR.out.1, HNR.out.2.2.1, HND.out] at CN
            rw [HE2.out.1, HE2.out.2.1, HE2.out.2.2.1, HE2.out.2.2.2] at C2
            rw [HNR.out.2.2.2] at CT
            rw [HTX.out] at CX
            have hsx : ∀ k ∈ K, k.length ≤ 100000 := HOK2.out.kx (by omega)
            have HSX := Lib.hid hsx
            have b0 := HT2.out.c0
            have b1 := HT2.out.c1
            clear HNR HE2 hsx
            go_wp2_with fail
            generalize w5.alloc (Obj.cells #[.slice A5 K.length c5, .slice S5 (layI K).length d5] 26) = w6 at *
            refine (CR.out _ (Q.refl w6)).mono ?_
            rintro e w7 ⟨rfl, q7⟩
            have P7 := Lib.hid q7
            clear q7 b0 b1
            go_wp2_with fail
            refine (CM.out _ P7.out).mono ?_
            rintro e w8 ⟨rfl, q8⟩
            have P8 := Lib.hid (P7.out.trans q8)
            clear q8 P7
            have b0 := (HT2.out.q P8.out).c0
            have b1 := (HT2.out.q P8.out).c1
            go_wp2_with fail
            refine (CN.out _ P8.out).mono ?_
            rintro e w9 ⟨A9, c9, rfl, hr9, q9⟩
            have P9 := Lib.hid (P8.out.trans q9)
            have HR9 := Lib.hid hr9
            clear q9 P8 hr9 b0 b1
            have b0 := (HT2.out.q P9.out).c0
            have b1 := (HT2.out.q P9.out).c1
            go_wp2_with fail
            refine (C2.out _ P9.out).mono ?_
            rintro e wa ⟨A8, c8, S8, d8, B8, e8, rfl, hk8, hs8, hn8, qa⟩
            have qab := (Q.refl wa).alloc (Obj.cells #[.slice A8 K.length c8, .slice S8 (layI K).length d8] 26)
            have HT8 := Lib.hid (BoxT.new wa (.slice A8 K.length c8) (.slice S8 (layI K).length d8) 26)
            have HST8 : Hid (Sto (wa.alloc (Obj.cells #[.slice A8 K.length c8, .slice S8 (layI K).length d8] 26)) R A8 S8 B8 L K N) := (⟨(HST2.out.q (P9.out.trans qa)).row, hk8, hs8, hn8⟩ : Sto wa R A8 S8 B8 L K N).q qab
            have Pb := Lib.hid (P9.out.trans (qa.trans qab))
            have HRb := Lib.hid (HR9.out.q (qa.trans qab))
            clear hk8 hs8 hn8 qa qab b0 b1 P9 HR9
            go_wp2_with fail
            generalize wa.alloc (Obj.cells #[.slice A8 K.length c8, .slice S8 (layI K).length d8] 26) = wb at *
            refine (same9 A9 T c9 ce l wb HRb.out (HL6.out.q Pb.out) (by omega)).mono ?_
            rintro e wd ⟨rfl, qd⟩
            have Pd := Lib.hid (Pb.out.trans qd)
            have Qd := Lib.hid qd
            clear qd
            have b0 := (HT2.out.q Pd.out).c0
            have b1 := (HT2.out.q Pd.out).c1
            go_wp2_with fail
            refine (CT.out _ Pd.out).mono ?_
            rintro e we ⟨rfl, qe⟩
            have Pe := Lib.hid (Pd.out.trans qe)
            have Qe := Lib.hid (Qd.out.trans qe)
            clear qe b0 b1
            go_wp2_with fail
            refine (CX.out _ Pe.out).mono ?_
            rintro e wf ⟨rfl, qf⟩
            have Pf := Lib.hid (Pe.out.trans qf)
            have Qf := Lib.hid (Qe.out.trans qf)
            clear qf
            have b0 := (HT2.out.q Pf.out).c0
            have b1 := (HT2.out.q Pf.out).c1
            have b2 := (HT8.out.q Qf.out).c0
            have b3 := (HT8.out.q Qf.out).c1
            go_wp2_with fail
            refine (same_tab A5 S5 A8 S8 c5 d5 c8 d8 K wf (HST2.out.q Pf.out).keys (HST2.out.q Pf.out).slots (HST8.out.q Qf.out).keys (HST8.out.q Qf.out).slots hKl HSX.out).mono ?_
            rintro e wg ⟨rfl, qg⟩
            have Pg := Lib.hid (Pf.out.trans qg)
            have Qg := Lib.hid (Qf.out.trans qg)
            clear qg b0 b1 b2 b3
            go_wp2_with fail
            refine (same_names B5 B8 e5 e8 N wg (HST2.out.q Pg.out).nms (HST8.out.q Qg.out).nms hNl).mono ?_
            rintro e wh ⟨rfl, qh⟩
            go_wp2_with fail
            go_ret
            exact ⟨by first | rfl | simp, Q6.out.trans (Pg.out.trans qh)⟩
          · obtain ⟨e1, e2, e3⟩ := load_bad h0
            rw [e1, e2, e3] at CL
            have g0 : (loadE L 5000 ks names l != 0) = true := bne_iff_ne.2 h0
            generalize loadE L 5000 ks names l = E at *
            have hkx := Lib.hid (HOK.out.kx (by omega))
            clear h0 e1 e2 e3
            go_wp2_with fail
            refine CL.out.mono ?_
            rintro e w5 ⟨A5, c5, S5, d5, B5, e5, rfl, hk5, hs5, hn5, q5⟩
            have q56 := (Q.refl w5).alloc (Obj.cells #[.slice A5 ks.length c5, .slice S5 (layI ks).length d5] 26)
            have HT2 := Lib.hid (BoxT.new w5 (.slice A5 ks.length c5) (.slice S5 (layI ks).length d5) 26)
            have HST2 : Hid (Sto (w5.alloc (Obj.cells #[.slice A5 ks.length c5, .slice S5 (layI ks).length d5] 26)) R A5 S5 B5 L ks names) := (⟨((HST.out.q (Q4.out.trans q5)).row), hk5, hs5, hn5⟩ : Sto w5 R A5 S5 B5 L ks names).q q56
            have P6 := Lib.hid (Q4.out.trans (q5.trans q56))
            clear hk5 hs5 hn5 q5 q56 b0 b1 CL Q4
            have b0 := (HT.out.q P6.out).c0
            have b1 := (HT.out.q P6.out).c1
            have b2 := HT2.out.c0
            have b3 := HT2.out.c1
            go_wp2_with fail
            generalize w5.alloc (Obj.cells #[.slice A5 ks.length c5, .slice S5 (layI ks).length d5] 26) = w6 at *
            refine (same_tab A S A5 S5 c d c5 d5 ks w6 (HST.out.q P6.out).keys (HST.out.q P6.out).slots HST2.out.keys HST2.out.slots (by omega) hkx.out).mono ?_
            rintro e w7 ⟨rfl, q7⟩
            have Q7 := Lib.hid q7
            clear q7 b0 b1 b2 b3
            go_wp2_with fail
            refine (same_names B5 B e5 cb names w7 (HST2.out.q Q7.out).nms (HST.out.q (P6.out.trans Q7.out)).nms (by omega)).mono ?_
            rintro e w8 ⟨rfl, q8⟩
            go_wp2_with fail
            go_ret
            exact ⟨by first | rfl | simp, HQ0.out.trans (P6.out.trans (Q7.out.trans q8))⟩
    · have d6 : decide (total7 l ≤ 600) = false := decide_eq_false hf
      rw [d6]
      clear hf
      go_wp2_with fail
      go_ret
      exact ⟨rfl, HQ0.out.trans Q3.out⟩
theorem reads (os : Os) {H : Type} (enc : TypeId × Value → H) : ∃ places, DataW.whole enc Tryz.prog ((laidWorld os).forCall (fun _ _ => 0) ⟨#[], #[.agg #[.slice none 0 0, .slice none 0 0, .slice none 0 0, .slice none 0 0, .slice none 0 0]], []⟩).memory Tryz.f4.params.toList Rows.loadBackSpec.vars false (#[.agg #[.slice none 0 0, .slice none 0 0, .slice none 0 0, .slice none 0 0, .slice none 0 0]] : Array Value).toList 8 = some ([.agg [.nil, .agg [.nil, .nil], .nil, .nil]], [], places) :=
  ⟨[], by kernel_rfl⟩

set_option maxRecDepth 100000 in
theorem contract (H : Type) (enc : TypeId × Value → H) (W : World) (base : Nat) (args : Array Value) (ds gs : List (DataW H)) (before : List MemPlace)
    (hval : ∀ (j : Nat) t v, Tryz.f4.params[j]? = some t → args[j]? = some v → Value.okWide Tryz.prog W .any base t v)
    (hW : DataW.Whole enc Tryz.prog Tryz.f4.params.toList Rows.loadBackSpec.vars false W args.toList ds gs before)
    (hsz0 : (DataW.weightsEach Tryz.prog (Tryz.f4.params.toList ++ Rows.loadBackSpec.plain.varTypes Tryz.prog) (ds ++ gs)).all (· ≤ reachBytes) = true) :
    Calls Tryz.prog 4 args W fun e W' => ∃ v, e = .returned v ∧ Rows.loadBackSpec.post enc Tryz.prog Tryz.f4 false true false false W args v W' := by
  have hW' := hW
  obtain ⟨p, q, hA0, hV, rfl, hfz, hnd⟩ := hW
  have hA : DataW.TrodAll enc Tryz.prog W 0 (fun _ => true) true Tryz.f4.params.toList args.toList ds p := hA0
  rw [Tryz.params4] at hA hval
  obtain ⟨v0, vs0, d0, ds0, p0, q0, hargs, rfl, rfl, h0, r0⟩ := trodAll_cons hA
  obtain ⟨rfl, rfl, rfl⟩ := trodAll_nil r0
  obtain rfl : args = #[v0] := by cases args; simp_all
  obtain ⟨rfl, rfl⟩ := trodVars_none hV
  have z0 : ∀ n ∈ d0.weights Tryz.prog 43, n ≤ reachBytes := fun n hn => by
    have := List.all_eq_true.1 hsz0 n (DataW.weights_mem_each (j := 0) (t := 43) (d := d0) (by rw [Tryz.params4]; rfl) rfl n hn)
    simpa using this
  clear hsz0
  obtain ⟨R, nl, cl, L, A, n, c, S, m, d, ks, sl, B, nb, cb, names, E, ne, ce, l, rfl, a1, a2, a3, a4, b1, b2, b3, b4, b5, b6, b7, e1, e2, f1, f2, f3, f4, f5⟩ := Ex.open_LoadBackIn (hval 0 43 v0 rfl rfl) h0 z0
  clear hA0
  refine (walk R A S B nl cl n c m d nb cb L ks sl names E ne ce l W a1 a2 a3 a4 b1 b2 b3 b4 b5 b6 b7 e1 e2 f1 f2 f3 f4 f5).mono fun e W' ⟨he, hg⟩ => ?_
  subst he
  exact ⟨_, rfl, post_law laid (by rw [Tryz.params4]; decide +kernel) rfl rfl (by kernel_rfl) Tryz.underlying4 hW' hg⟩

set_option maxRecDepth 100000 in
theorem lifted (os : Os) (started : os.Started) (H : Type) (enc : TypeId × Value → H) (F : Stop.Interp) :
    ReturnsInHanded {} Tryz.checked os 4 .any ((OpenSpec.ofChange Rows.loadBackSpec).preRow enc Tryz.prog Tryz.f4 Rows.loadBackRow.domain false Rows.loadBackRow.laid) (((OpenSpec.ofChange Rows.loadBackSpec).at F).post enc Tryz.prog Tryz.f4 false true false false) := by
  obtain ⟨places, hx⟩ := reads os enc
  refine returnsInHanded_of_row (C := Tryz.checked) (s := OpenSpec.ofChange Rows.loadBackSpec) own started (by kernel_rfl) Tryz.func4
    (witness_row_at (enc := enc) (C := Tryz.checked) false (laidWorld os) #[.agg #[.slice none 0 0, .slice none 0 0, .slice none 0 0, .slice none 0 0, .slice none 0 0]] rfl (laid_vars os _) (by kernel_rfl) (by kernel_rfl)
      (OpenSpec.preRow_of_cond 8 hx (by kernel_rfl) (fun k hk => by cases hk) (by kernel_rfl) (laid_met os _))) ?_
  intro W base args ds gs before hval hW _ _ hsz _ _ _
  exact contract H enc W base args ds gs before hval hW hsz

theorem said : Rows.LoadBackSaid :=
  OpenClaim.holds_of_cond 4 Tryz.f4 rfl rfl rfl rfl rfl rfl rfl ⟨rfl, rfl, rfl, rfl, rfl⟩ rfl rfl rfl rfl rfl (by kernel_rfl) Tryz.func4 (by kernel_rfl)
    (of_decide_eq_true (by kernel_rfl)) (by unfold Func.isWrapper; first | (rw [if_pos (by decide +kernel)]; kernel_rfl) | (rw [if_neg (by decide +kernel)]; exact ⟨rfl, rfl⟩))
    (fun os started H enc _ F => by rw [OpenClaim.pre_eq_preRow]; exact lifted os started H enc F)

theorem plain (f : FuncId) (fn : Func) (hf : Tryz.pinned.checked.prog.funcNamed "tammy/tammylaw09.LoadBack" = some f) (hfn : Tryz.pinned.checked.prog.funcs[f]? = some fn) :
    false = Tryz.pinned.checked.prog.looks [] ∧ ∀ (j : Nat) t, fn.params[j]? = some t → Tryz.pinned.checked.prog.wantsStandIn t = false := by
  obtain rfl : f = 4 := Option.some.inj ((show Tryz.prog.funcNamed "tammy/tammylaw09.LoadBack" = some 4 by kernel_rfl).symm.trans hf) |>.symm
  obtain rfl : fn = Tryz.f4 := (Option.some.inj (Tryz.func4.symm.trans hfn)).symm
  refine ⟨by kernel_rfl, fun j t ht => ?_⟩
  rw [Tryz.params4] at ht
  have hm := Array.mem_of_getElem? ht
  simp only [List.mem_toArray, List.mem_cons, List.not_mem_nil, or_false] at hm
  rcases hm with rfl
  · exact (show Tryz.prog.wantsStandIn 43 = false by kernel_rfl)

/-- THE STATEMENT: the tied card -/
theorem card : Rows.LoadBackCardSaid :=
  Claim7.holds_tied_plain_at .later [] _ _ _ _ said (fun _ h => by cases h) (by kernel_rfl) (fun _ h => by cases h) loadBack_row_tie rfl ⟨rfl, rfl⟩ (by kernel_rfl) rfl plain (by kernel_rfl)
end Go.Proofs.YtdmdcggmgipdbaaGreatDoor.loadBack
