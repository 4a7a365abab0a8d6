/-
  What the proofs lean on, part 21 of 25.
-/
import Derived.Test.YtdmdcggmgipdbaaGreatDoorPg
import Derived.Test.YtdmdcggmgipdbaaGreatDoorPh
import Derived.Test.YtdmdcggmgipdbaaGreatDoorPk
import Derived.Test.YtdmdcggmgipdbaaGreatDoorPn
import Derived.Test.YtdmdcggmgipdbaaGreatDoorPq
import Derived.Test.YtdmdcggmgipdbaaGreatDoorPt
namespace Go.Proofs.YtdmdcggmgipdbaaGreatDoor.Ld
open Go.RowKit Kit Rw
open Go.Proofs.YtdmdcggmgipdbaaGreatDoor.Sg (Sig Row)
open Go.Proofs.YtdmdcggmgipdbaaGreatDoor.Hs (Keys Ints BoxT layI)
open Go.Proofs.YtdmdcggmgipdbaaGreatDoor.Tm (Tm Store Made castL of_any RowPost below_any belowI belowL isPl isPl_iff Box4)
open Go.Proofs.YtdmdcggmgipdbaaGreatDoor.Ex (Ex cellsS rightB rightP_any text_any own_new)
theorem tell_var (names : List ByteArray) (ks : List (List Int)) (y : Nat) : tellB names (tmP ks y) = varB names ks (y : Int) := by unfold tellB varB; rw [Int.toNat_natCast]
theorem deep_post {L : List Sig} {names : List ByteArray} {ks : List (List Int)} {i : Nat} (h : szP ks i ≤ 300) : unfV L names ks i = (exP L names ks i).nodes := un_some h
set_option maxRecDepth 100000 in
set_option maxHeartbeats 8000000 in
theorem nodes9_any (R A S B : Option Addr) (nl cl n c m d nb cb : Nat) (L : List Sig) (ks : List (List Int)) (names : List ByteArray) (id : Int) (b : Nat) (w : World) (hnl : nl = L.length) (hn : n = ks.length) (_hm : m = (layI ks).length) (hnb : nb = names.length) (hst : Sto w R A S B L ks names) (hok : StoOk L ks names b) (hb : b ≤ 1800) :
    Calls Tryz.prog 13 #[.slice R nl cl, .agg #[.slice A n c, .slice S m d], .slice B nb cb, .int .i64 id] w (NodesPost (nodesV L names ks id) (nodesE L names ks id) w) := by
  clear _hm
  subst hnl hn hnb
  have q0 := (Q.refl w).alloc (Obj.cells #[Value.slice A ks.length c, Value.slice S m d] 26)
  have HT := Lib.hid (BoxT.new w (Value.slice A ks.length c) (Value.slice S m d) 26)
  have HST := Lib.hid (hst.q q0)
  have HOK := Lib.hid hok
  have HX := Lib.hid (hok.kx (by omega))
  have hkl : ks.length ≤ 5000 := by have := hok.klen; omega
  have HQ0 := Lib.hid q0
  have CB := Lib.hid (below_any A S ks.length c m d ks id _ rfl HST.out.keys hkl HX.out)
  clear hst hok q0
  by_cases hp : isPl id ks.length = true
  · obtain ⟨p0, p1⟩ := (isPl_iff _ _).1 hp
    obtain ⟨i, rfl⟩ := Int.eq_ofNat_of_zero_le p0
    have hil : i < ks.length := by omega
    unfold belowI at CB
    rw [hp, if_pos rfl, Int.toNat_natCast] at CB
    obtain ⟨bl, hbl, hso, hmem⟩ := below_sorted ks i
    rw [hbl] at CB
    have hself : i ∈ bl := (hmem i).2 .self
    have hpos : 0 < bl.length := List.length_pos_of_mem hself
    have HV : Hid (varsB names ks i = (castL bl).all (varB names ks)) := by unfold Hid varsB; rw [hbl]
    have HSO := Lib.hid hso
    have HM := Lib.hid hmem
    have HE : Hid (nodesE L names ks (i : Int) = if varsB names ks i = true then if 300 < (exP L names ks i).size then 7 else if rightB (exP L names ks i).nodes = true then 0 else 7 else 1) := by
      unfold Hid nodesE
      rw [if_pos hp, Int.toNat_natCast]
    have n0 : ((bl.length : Int) == 0) = false := beq_eq_false_iff_ne.2 (by omega)
    have hblen : bl.length ≤ 5000 := by
      have h1 := List.Pairwise.imp (S := fun a b : Nat => a ≠ b) (fun h => by omega) hso
      have h2 : bl ⊆ List.range (i + 1) := fun y hy => List.mem_range.2 (by have := Made.le ((hmem y).1 hy); omega)
      have h3 := (List.nodup_iff_pairwise_ne.2 h1).length_le_of_subset h2
      rw [List.length_range] at h3
      omega
    clear hbl hso hmem p0 p1 hp
    go_enter Tryz.func13, Tryz.ntmps13
    go_wp2_with fail
    generalize w.alloc (Obj.cells #[Value.slice A ks.length c, Value.slice S m d] 26) = W0 at *
    refine CB.out.mono ?_
    rintro e w1 ⟨A1, c1, rfl, hi1, q1⟩
    rw [castL_len]
    have HI1 := Lib.hid hi1
    have HQ1 := Lib.hid q1
    have HT1 := Lib.hid (HT.out.q q1)
    have HST1 := Lib.hid (HST.out.q q1)
    clear hi1 q1 CB HT HST
    go_wp2_with fail
    refine (teller_any R B L.length cl names.length cb w1).mono ?_
    rintro e w2 ⟨rfl, rfl⟩
    have q2 := ((Q.refl w1).alloc (.cells #[.slice R L.length cl] 22)).alloc (.cells #[.slice B names.length cb] 27)
    have HQ2 := Lib.hid (HQ1.out.trans q2)
    have HT2 := Lib.hid (HT1.out.q q2)
    have HST2 := Lib.hid (HST1.out.q q2)
    have HI2 := Lib.hid ((HI1.out.q (Nat.le_refl _) q2).more q2.size)
    have HCa : Hid (w1.heap.size + 1 < ((w1.alloc (.cells #[.slice R L.length cl] 22)).alloc (.cells #[.slice B names.length cb] 27)).heap.size ∧ ((w1.alloc (.cells #[.slice R L.length cl] 22)).alloc (.cells #[.slice B names.length cb] 27)).cell? ⟨w1.heap.size + 1, 0, none⟩ = some (.slice B names.length cb) ∧
        ((w1.alloc (.cells #[.slice R L.length cl] 22)).alloc (.cells #[.slice B names.length cb] 27)).cell? ⟨w1.heap.size, 0, none⟩ = some (.slice R L.length cl)) := by
      refine Lib.hid ⟨by simp, by simp, ?_⟩
      have := ((Q.refl (w1.alloc (.cells #[.slice R L.length cl] 22))).alloc (.cells #[.slice B names.length cb] 27)).cell (p := ⟨w1.heap.size, 0, none⟩) (by simp)
      rw [this]
      simp
    clear q2 HT1 HST1 HI1
    go_wp2_with fail
    generalize (w1.alloc (.cells #[.slice R L.length cl] 22)).alloc (.cells #[.slice B names.length cb] 27) = W2 at *
    have HCn : Hid (∀ W, Q W2 W → w1.heap.size + 1 < W.heap.size ∧ w1.heap.size < W.heap.size ∧ W.cell? ⟨w1.heap.size + 1, 0, none⟩ = some (.slice B names.length cb) ∧ W.cell? ⟨w1.heap.size, 0, none⟩ = some (.slice R L.length cl)) := fun W q => by
      obtain ⟨a1, a2, a3⟩ := HCa.out
      exact ⟨Nat.lt_of_lt_of_le a1 q.size, Nat.lt_of_lt_of_le (by omega) q.size, (q.cell (p := ⟨w1.heap.size + 1, 0, none⟩) a1).trans a2, (q.cell (p := ⟨w1.heap.size, 0, none⟩) (by show w1.heap.size < _; omega)).trans a3⟩
    clear HCa
    go_loopw [30] (fun iv wr => ∃ k : Nat, k ≤ bl.length ∧ iv = .int .i64 k ∧ Hid (varsB names ks i = ((castL bl).drop k).all (varB names ks)) ∧ Hid (Q W2 wr)) (fun iv _ => bl.length - (intOf iv).toNat)
    case atStart => exact ⟨0, Nat.zero_le _, rfl, Lib.hid (by rw [HV.out]; simp), Q.refl _⟩
    case round =>
      obtain ⟨k, hk, rfl, HD, HQ⟩ := hrel
      by_cases hlt : k < bl.length
      · obtain ⟨ad, rfl, hadb, hy0⟩ := (HI2.out.q (Nat.le_refl _) HQ.out).at_ (k := k) (by rw [castL_len]; exact hlt)
        rw [castL_at hlt] at hy0
        have hyM := (HM.out bl[k]).1 (List.getElem_mem hlt)
        have hyl := hyM.le
        have hyk : bl[k] < ks.length := by omega
        have HTn := Lib.hid (termAt_ok HOK.out.store hyk)
        have HTo := Lib.hid (told_store HOK.out.store HOK.out.l8 hyk).1
        have HD2 : Hid (varsB names ks i = (tellB names (tmP ks bl[k]) && ((castL bl).drop (k + 1)).all (varB names ks))) := by
          have e := List.drop_eq_getElem_cons (l := castL bl) (i := k) (by rw [castL_len]; exact hlt)
          have := HD.out
          rw [e, castL_at hlt, List.all_cons, ← tell_var] at this
          exact this
        generalize bl[k] = y at *
        generalize tmP ks y = t at *
        have b0 := (HT2.out.q HQ.out).c0
        have b1 := (HT2.out.q HQ.out).c1
        have CO := Lib.hid (of_any A S ks.length c m d ks (y : Int) wr rfl (HST2.out.q HQ.out).keys HX.out)
        clear hyM hyl hyk HD
        go_wp2_with fail
        refine CO.out.mono ?_
        rintro e w3 ⟨A3, N, c3, rfl, hN, hA3, q3⟩
        rw [HTn.out] at hN hA3 ⊢
        simp only [Option.getD_some, Option.isSome_some] at hN hA3 ⊢
        subst hN
        have HB4 := Lib.hid (Box4.new w3 (.int .i64 t.k) (.int .i64 t.s) (.int .i64 t.p) (.slice A3 t.xs.length c3) 77)
        have HQc := Lib.hid (HQ.out.trans (q3.alloc (Obj.cells #[.int .i64 t.k, .int .i64 t.s, .int .i64 t.p, .slice A3 t.xs.length c3] 77)))
        clear q3 CO b0 b1 hy0 HTn hA3
        have x0 := HB4.out.c0
        have x1 := HB4.out.c1
        have x2 := HB4.out.c2
        have x3 := HB4.out.c3
        obtain ⟨h1, h2, h3, h4⟩ := HCn.out _ HQc.out
        have hs3 := HST2.out.q HQc.out
        have CT := Lib.hid (tell_any (w1.heap.size + 1) w1.heap.size R B A3 cl cb t.xs.length c3 L names t _ rfl h1 h2 h3 h4 hs3.row hs3.nms HTo.out)
        clear h1 h2 h3 h4 hs3
        cases htb : tellB names t
        · rw [htb, Bool.false_and] at HD2
          rw [htb] at CT
          have HE1 : Hid (nodesE L names ks (i : Int) = 1) := by
            unfold Hid
            rw [HE.out, HD2.out]; rfl
          have HV1 : Hid (nodesV L names ks (i : Int) = []) := by
            unfold Hid nodesV
            rw [HE1.out, if_neg (by omega)]
          generalize tellN L names t = o at *
          clear htb
          go_wp2_with fail
          refine CT.out.mono ?_
          rintro e w4 ⟨rfl, q4⟩
          go_wp2_with fail
          go_ret2
          exact ⟨none, 0, by rw [HE1.out, HV1.out]; rfl, by rw [HV1.out]; exact Rds.nil _ _ _, HQ0.out.trans (HQ2.out.trans (HQc.out.trans (q4.alloc _)))⟩
        · rw [htb, Bool.true_and] at HD2
          rw [htb] at CT
          generalize tellN L names t = o at *
          clear htb
          go_wp2_with fail
          refine CT.out.mono ?_
          rintro e w4 ⟨rfl, q4⟩
          have HQ4 := Lib.hid (HQc.out.trans (q4.alloc (Obj.cells #[.int .i64 o.1, .string o.2.1, .int .i64 o.2.2] 67)))
          clear q4 x0 x1 x2 x3
          go_wp2_with fail
          go_roundw
          case rel => exact ⟨k + 1, by omega, by go_num, HD2, HQ4⟩
          case measure => simp [intOf]; omega
      · have hkx : k = bl.length := by omega
        have hv : varsB names ks i = true := by
          have := HD.out
          rw [List.drop_of_length_le (by rw [castL_len]; omega)] at this
          simpa using this
        have hVI := varsB_iff.1 hv
        have HE2 : Hid (nodesE L names ks (i : Int) = if 300 < szP ks i then 7 else if rightB (exP L names ks i).nodes = true then 0 else 7) := by
          unfold Hid
          rw [HE.out, if_pos hv, size_any]
        have b0 := (HT2.out.q HQ.out).c0
        have b1 := (HT2.out.q HQ.out).c1
        obtain ⟨h1, h2, h3, h4⟩ := HCn.out _ HQ.out
        have hs3 := HST2.out.q HQ.out
        have CU := Lib.hid (unfold_any A S A1 B R c m d c1 cl cb (w1.heap.size + 1) w1.heap.size b i bl L ks names wr hs3.keys ((HI2.out.q (Nat.le_refl _) HQ.out).more HQ.out.size) HOK.out hb hil hVI HSO.out HM.out h1 h2 h3 h4 hs3.row hs3.nms)
        have HQw := Lib.hid (HQ0.out.trans (HQ2.out.trans HQ.out))
        clear h1 h2 h3 h4 hs3 HD HE hv hkx HV
        by_cases h300 : szP ks i ≤ 300
        · have hw := (exP_rep HOK.out.store HOK.out.dstL i hil hVI).2
          have hm9 := nodes_may HOK.out i hil hVI
          have hrun := Ex.run_tree (exP L names ks i) [] hw
          have hrb := right_place HOK.out hil hVI
          have hll : (exP L names ks i).nodes.length ≤ 300 := by have := ndV_len L names ks i; unfold ndV at this; omega
          have HVX : Hid (nodesV L names ks (i : Int) = if nodesE L names ks (i : Int) = 0 then (exP L names ks i).nodes else []) := by
            unfold Hid nodesV
            rw [Int.toNat_natCast]
          rw [deep_post h300] at CU
          rw [if_neg (by omega)] at HE2
          have CR := Lib.hid (fun (A9 : Option Addr) (c9 : Nat) (W : World) (hr : Rds W W.heap.size A9 (cellsG (exP L names ks i).nodes)) => rightP_any A9 _ c9 (exP L names ks i).nodes (exP L names ks i) W rfl hr (by omega) hm9 hrun)
          rw [← hrb] at CR
          clear hw hm9 hrun hrb hll hVI h300
          generalize (exP L names ks i).nodes = X at *
          go_wp2_with fail
          refine CU.out.mono ?_
          rintro e w5 ⟨A9, c9, rfl, hr9, q5⟩
          have CR9 := Lib.hid (CR.out A9 c9 w5 hr9)
          have HR9 := Lib.hid hr9
          have HQ5 := Lib.hid (HQw.out.trans q5)
          clear hr9 q5 CR CU b0 b1
          cases hrb : rightB X
          · rw [hrb] at HE2 CR9
            have hE : nodesE L names ks (i : Int) = 7 := HE2.out
            have HE1 := Lib.hid hE
            have HV1 : Hid (nodesV L names ks (i : Int) = []) := by
              unfold Hid
              rw [HVX.out, hE]; rfl
            clear hE hrb
            go_wp2_with fail
            refine CR9.out.mono ?_
            rintro e w6 ⟨rfl, q6⟩
            go_wp2_with fail
            go_ret2
            exact ⟨none, 0, by rw [HE1.out, HV1.out]; rfl, by rw [HV1.out]; exact Rds.nil _ _ _, HQ5.out.trans q6⟩
          · rw [hrb] at HE2 CR9
            have hE : nodesE L names ks (i : Int) = 0 := HE2.out
            have HE1 := Lib.hid hE
            have HV1 : Hid (nodesV L names ks (i : Int) = X) := by
              unfold Hid
              rw [HVX.out, hE]; rfl
            clear hE hrb
            go_wp2_with fail
            refine CR9.out.mono ?_
            rintro e w6 ⟨rfl, q6⟩
            go_wp2_with fail
            go_ret2
            exact ⟨A9, c9, by rw [HE1.out, HV1.out]; rfl, by rw [HV1.out]; exact HR9.out.q q6, HQ5.out.trans q6⟩
        · rw [un_none (by omega)] at CU
          rw [if_pos (by omega)] at HE2
          have HV1 : Hid (nodesV L names ks (i : Int) = []) := by
            unfold Hid nodesV
            rw [HE2.out, if_neg (by omega)]
          clear hVI h300
          go_wp2_with fail
          refine CU.out.mono ?_
          rintro e w5 ⟨A9, c9, rfl, _, q5⟩
          have HQ5 := Lib.hid (HQw.out.trans q5)
          clear q5 CU b0 b1
          go_wp2_with fail
          refine (right_nil9 A9 c9 w5).mono ?_
          rintro e w6 ⟨rfl, q6⟩
          go_wp2_with fail
          go_ret2
          exact ⟨none, 0, by rw [HE2.out, HV1.out]; rfl, by rw [HV1.out]; exact Rds.nil _ _ _, HQ5.out.trans q6⟩
  · have hp' : isPl id ks.length = false := by simpa using hp
    unfold belowI at CB
    rw [hp', if_neg (by simp)] at CB
    have HE1 : Hid (nodesE L names ks id = 1) := by
      unfold Hid nodesE
      rw [hp', if_neg (by simp)]
    have HV1 : Hid (nodesV L names ks id = []) := by
      unfold Hid nodesV
      rw [HE1.out, if_neg (by omega)]
    clear hp hp'
    go_enter Tryz.func13, Tryz.ntmps13
    go_wp2_with fail
    refine CB.out.mono ?_
    rintro e w1 ⟨A1, c1, rfl, hi1, q1⟩
    rw [show ([] : List Int).length = 0 from rfl]
    have HQ1 := Lib.hid (HQ0.out.trans q1)
    clear q1 hi1 CB HT HST HX hkl HQ0
    go_wp2_with fail
    refine (teller_any R B L.length cl names.length cb w1).mono ?_
    rintro e w2 ⟨rfl, rfl⟩
    go_wp2_with fail
    go_ret2
    exact ⟨none, 0, by rw [HE1.out, HV1.out]; rfl, by rw [HV1.out]; exact Rds.nil _ _ _, (HQ1.out.alloc _).alloc _⟩
set_option maxRecDepth 100000 in
set_option maxHeartbeats 2000000 in
theorem ltext_any (R A S B : Option Addr) (nl cl n c m d nb cb : Nat) (L : List Sig) (ks : List (List Int)) (names : List ByteArray) (id : Int) (b : Nat) (w : World) (hnl : nl = L.length) (hn : n = ks.length) (hm : m = (layI ks).length) (hnb : nb = names.length) (hst : Sto w R A S B L ks names) (hok : StoOk L ks names b) (hb : b ≤ 1800) :
    Calls Tryz.prog 16 #[.slice R nl cl, .agg #[.slice A n c, .slice S m d], .slice B nb cb, .int .i64 id] w fun e w' => e = .returned (.string (bs (textV L names ks id))) ∧ Q w w' := by
  have q0 := (Q.refl w).alloc (Obj.cells #[Value.slice A n c, Value.slice S m d] 26)
  have CN := Lib.hid (nodes9_any R A S B nl cl n c m d nb cb L ks names id b _ hnl hn hm hnb (hst.q q0) hok hb)
  by_cases h0 : nodesE L names ks id = 0
  · obtain ⟨i, hat⟩ := at0 hok.store hok.dstL hok.l20 hok.n20 h0
    have HV : Hid (nodesV L names ks id = (exP L names ks i).nodes) := by
      unfold Hid nodesV
      rw [if_pos h0, hat.id, Int.toNat_natCast]
    have HT : Hid (textV L names ks id = (exP L names ks i).text) := by
      unfold Hid textV
      rw [if_pos h0, hat.id, Int.toNat_natCast]
    have htl : (exP L names ks i).text.length ≤ 20000 := by
      have h1 := Ex.text_len (exP L names ks i) hat.wf hat.may
      have h2 := total_small _ hat.small
      have h3 := hat.few
      omega
    have HA := Lib.hid hat
    have HE := Lib.hid h0
    have CT := Lib.hid (fun (A9 : Option Addr) (c9 : Nat) (W : World) (hr : Rds W W.heap.size A9 (cellsG (exP L names ks i).nodes)) => text_any A9 _ c9 (exP L names ks i).nodes (exP L names ks i) W rfl hr (by have := HA.out.few; omega) HA.out.may (Ex.run_tree (exP L names ks i) [] HA.out.wf) htl)
    rw [HT.out]
    clear hat hst hok h0 hnl hn hnb hm htl HA
    go_enter Tryz.func16, Tryz.ntmps16
    go_wp2_with fail
    refine CN.out.mono ?_
    rintro e w1 ⟨A1, c1, rfl, hr1, q1⟩
    rw [HV.out] at hr1
    rw [HV.out, HE.out]
    have CT1 := Lib.hid (CT.out A1 c1 w1 hr1)
    have Q1 := Lib.hid (q0.trans q1)
    clear hr1 q1 CT
    generalize (exP L names ks i).nodes = X at *
    generalize hTT : (exP L names ks i).text = T at *
    have HTT := Lib.hid hTT
    clear hTT
    go_wp2_with fail
    refine CT1.out.mono ?_
    rintro e w2 ⟨rfl, q2⟩
    go_wp2_with fail
    go_ret
    exact ⟨by rw [HTT.out]; rfl, Q1.out.trans q2⟩
  · have HV : Hid (nodesV L names ks id = []) := by
      unfold Hid nodesV
      rw [if_neg h0]
    have HT : Hid (textV L names ks id = []) := by
      unfold Hid textV
      rw [if_neg h0]
    have e0 : (nodesE L names ks id != 0) = true := by simpa using h0
    rw [HT.out]
    clear hst hok hnl hn hnb hm
    go_enter Tryz.func16, Tryz.ntmps16
    go_wp2_with fail
    refine CN.out.mono ?_
    rintro e w1 ⟨A1, c1, rfl, hr1, q1⟩
    rw [HV.out]
    generalize nodesE L names ks id = E at *
    go_wp2_with fail
    go_ret
    exact ⟨rfl, q0.trans q1⟩
end Go.Proofs.YtdmdcggmgipdbaaGreatDoor.Ld

namespace Go.Proofs.YtdmdcggmgipdbaaGreatDoor.Ld
open Go.RowKit Kit Rw
open Go.Proofs.YtdmdcggmgipdbaaGreatDoor.Sg (Sig Row findI)
open Go.Proofs.YtdmdcggmgipdbaaGreatDoor.Hs (Keys Ints layI)
open Go.Proofs.YtdmdcggmgipdbaaGreatDoor.Tm (Tm Store put3L put3I put3E)
open Go.Proofs.YtdmdcggmgipdbaaGreatDoor.Ex (atS atS_neg cellsS cellsI)
/-- a block that is none of these -/
def Off (lo hi g : Nat) : Prop := g < lo ∨ hi ≤ g
def numF (own : List ByteArray) : ByteArray → Option Int := fun x => if atS x own 0 < 0 then none else some (atS x own 0)
theorem atS_app (x s : ByteArray) : ∀ (l : List ByteArray) (k : Nat), atS x (l ++ [s]) k = if atS x l k < 0 then (if eqS s x = true then ((k + l.length : Nat) : Int) else -1) else atS x l k
  | [], k => by
    show atS x [s] k = _
    unfold atS
    by_cases h : Sg.eqS s x = true
    · rw [if_pos h, if_pos (by show (-1 : Int) < 0; omega), if_pos (show eqS s x = true from h)]; rfl
    · rw [if_neg h, if_pos (by show (-1 : Int) < 0; omega), if_neg (show ¬ eqS s x = true from h)]; rfl
  | a :: r, k => by
    show atS x (a :: (r ++ [s])) k = _
    unfold atS
    by_cases h : Sg.eqS a x = true
    · rw [if_pos h, if_pos h, if_neg (by omega)]
    · rw [if_neg h, if_neg h, atS_app x s r (k + 1)]
      have e : k + 1 + r.length = k + (a :: r).length := by simp; omega
      rw [e]
theorem numF_snoc (own : List ByteArray) (nm : ByteArray) (h : atS nm own 0 < 0) : ∀ x, setF (numF own) nm (own.length : Int) x = numF (own ++ [nm]) x := fun x => by
  unfold setF numF
  by_cases e : x = nm
  · subst e
    have ha : atS x (own ++ [x]) 0 = (own.length : Int) := by rw [atS_app, if_pos h, if_pos (eqS_self x), Nat.zero_add]
    rw [if_pos (eqS_self x), ha, if_neg (by omega)]
  · have hs : eqS nm x = false := eqS_ne fun h => e h.symm
    have hs' : eqS x nm = false := eqS_ne e
    have e1 : atS x (own ++ [nm]) 0 = if atS x own 0 < 0 then -1 else atS x own 0 := by rw [atS_app, hs]; simp
    rw [hs', if_neg (by simp), e1]
    by_cases h2 : atS x own 0 < 0
    · rw [if_pos h2, if_pos h2, if_pos (by omega)]
    · rw [if_neg h2, if_neg h2, if_neg h2]
theorem own_cut {w : World} {base g cap n m : Nat} {e : TypeId} {size : Nat} {xs : List Value} (h : w.ownsRow base e size (.slice (some ⟨g, 0, none⟩) n cap) n xs) (hm : m ≤ n) : w.ownsRow base e size (.slice (some ⟨g, 0, none⟩) m cap) m (xs.take (m * size)) := by
  obtain ⟨hl, ⟨e0, _⟩ | ⟨g', cap', cur, e0, hg, hh, hc, hcm, hcs, ht⟩⟩ := h
  · cases e0
  · injection e0 with e1 e2 e3
    injection e1 with e1
    injection e1 with e1
    subst e1 e3
    have hmn : m * size ≤ n * size := Nat.mul_le_mul_right size hm
    refine ⟨by rw [List.length_take, hl, Nat.min_eq_left hmn], .inr ⟨g, cap, cur, rfl, hg, hh, Nat.le_trans hm hc, hcm, hcs, ?_⟩⟩
    rw [← ht, List.take_take, Nat.min_eq_left hmn]
theorem row_not_map {w : World} {base b n : Nat} {e : TypeId} {size m : Nat} {v : Value} {xs : List Value} {f : ByteArray → Option Int} (h : w.ownsRow base e size v n xs) (hm : NumM w b m f) : v.ownBlock ≠ some b := fun hb => by
  obtain ⟨D, ⟨es, clock, h1, _⟩, _⟩ := hm
  obtain ⟨_, ⟨rfl, _⟩ | ⟨g, cap, cur, rfl, _, hh, _⟩⟩ := h
  · cases hb
  · injection hb with hb
    subst hb
    rw [h1] at hh
    cases hh
theorem num_grown {w w' : World} {b n g : Nat} {f : ByteArray → Option Int} (h : NumM w b n f) (gr : w.grownBy w' (some g)) (hne : b ≠ g) : NumM w' b n f := h.kept (gr.block b h.lt (fun e => hne (by injection e)))
theorem num_grownV {w w' : World} {b n : Nat} {f : ByteArray → Option Int} {v : Value} (h : NumM w b n f) (gr : w.grownBy w' v.ownBlock) (hne : v.ownBlock ≠ some b) : NumM w' b n f := h.kept (gr.block b h.lt (fun e => hne e.symm))
/-- a map's block has no cells -/
theorem num_noCell {w : World} {b n : Nat} {f : ByteArray → Option Int} (h : NumM w b n f) {p : Addr} (hp : p.block = b) : w.cell? p = none := by
  obtain ⟨D, ⟨es, clock, h1, _⟩, _⟩ := h
  unfold World.cell?
  rw [hp, h1]
/-- the store's memory, at [lo, hi) -/
def KeysAt (w : World) (lo hi : Nat) (A S : Option Addr) (ks : List (List Int)) : Prop :=
  hi ≤ w.heap.size ∧ ∀ W : World, (∀ p : Addr, lo ≤ p.block → p.block < hi → W.cell? p = w.cell? p) → Keys W hi A ks ∧ Ints W hi S (layI ks)
theorem KeysAt.same {w w' : World} {lo hi : Nat} {A S : Option Addr} {ks : List (List Int)} (h : KeysAt w lo hi A S ks) (hz : w.heap.size ≤ w'.heap.size) (hc : ∀ p : Addr, lo ≤ p.block → p.block < hi → w'.cell? p = w.cell? p) : KeysAt w' lo hi A S ks :=
  ⟨Nat.le_trans h.1 hz, fun W hW => h.2 W fun p h1 h2 => (hW p h1 h2).trans (hc p h1 h2)⟩
theorem KeysAt.q {w w' : World} {lo hi : Nat} {A S : Option Addr} {ks : List (List Int)} (h : KeysAt w lo hi A S ks) (q : Q w w') : KeysAt w' lo hi A S ks := h.same q.size fun _ _ h2 => q.cell (Nat.lt_of_lt_of_le h2 h.1)
theorem KeysAt.grown {w w' : World} {lo hi : Nat} {A S : Option Addr} {ks : List (List Int)} (h : KeysAt w lo hi A S ks) {row : Option Nat} (gr : w.grownBy w' row) (ho : ∀ g, row = some g → Off lo hi g) : KeysAt w' lo hi A S ks :=
  h.same gr.size fun p h1 h2 => World.cell?_of_block (gr.block p.block (Nat.lt_of_lt_of_le h2 h.1) fun e => by have := ho _ e.symm; unfold Off at this; omega)
theorem KeysAt.here {w : World} {lo hi : Nat} {A S : Option Addr} {ks : List (List Int)} (h : KeysAt w lo hi A S ks) : Keys w w.heap.size A ks ∧ Ints w w.heap.size S (layI ks) := by
  obtain ⟨h1, h2⟩ := h.2 w fun _ _ _ => rfl
  exact ⟨h1.more h.1, h2.more h.1⟩

structure LdS (w0 w : World) (B b : Nat) (R : Option Addr) (cl : Nat) (L : List Sig) (A S : Option Addr) (c d : Nat) (ks : List (List Int)) (v : Value) (own : List ByteArray) (limit : Int) (u : Value) (wt : List Int) (lo hi : Nat) : Prop where
  q : Q w0 w
  hB : w0.heap.size ≤ B
  hb : w0.heap.size ≤ b
  bB : b ≠ B
  box : OwnC w B [.slice R L.length cl, .slice A ks.length c, .slice S (layI ks).length d, v, .map (some b), .int .i64 limit, u]
  row : Row w w0.heap.size R L
  keys : KeysAt w lo hi A S ks
  num : NumM w b own.length (numF own)
  nms : w.ownsRow w0.heap.size 9 1 v own.length (cellsS own)
  wts : w.ownsRow w0.heap.size 3 1 u wt.length (cellsI wt)
  vB : v.ownBlock ≠ some B
  uB : u.ownBlock ≠ some B
  vu : ∀ g, v.ownBlock = some g → u.ownBlock ≠ some g
  oB : Off lo hi B
  ov : ∀ g, v.ownBlock = some g → Off lo hi g
  ou : ∀ g, u.ownBlock = some g → Off lo hi g
section
variable {w0 w : World} {B b : Nat} {R : Option Addr} {cl : Nat} {L : List Sig} {A S : Option Addr} {c d : Nat} {ks : List (List Int)} {v : Value} {own : List ByteArray} {limit : Int} {u : Value} {wt : List Int} {lo hi : Nat}
theorem LdS.more (h : LdS w0 w B b R cl L A S c d ks v own limit u wt lo hi) {w' : World} (q : Q w w') : LdS w0 w' B b R cl L A S c d ks v own limit u wt lo hi :=
  ⟨h.q.trans q, h.hB, h.hb, h.bB, h.box.q q, h.row.q h.q.size q, h.keys.q q, h.num.q q, row_kept h.nms q (Nat.le_refl _), row_kept h.wts q (Nat.le_refl _), h.vB, h.uB, h.vu, h.oB, h.ov, h.ou⟩
theorem LdS.cells (h : LdS w0 w B b R cl L A S c d ks v own limit u wt lo hi) : w.cell? ⟨B, 0, none⟩ = some (.slice R L.length cl) ∧ w.cell? ⟨B, 1, none⟩ = some (.slice A ks.length c) ∧ w.cell? ⟨B, 2, none⟩ = some (.slice S (layI ks).length d) ∧ w.cell? ⟨B, 3, none⟩ = some v ∧ w.cell? ⟨B, 4, none⟩ = some (.map (some b)) ∧ w.cell? ⟨B, 5, none⟩ = some (.int .i64 limit) ∧ w.cell? ⟨B, 6, none⟩ = some u :=
  ⟨(h.box.2 0 _ rfl).1, (h.box.2 1 _ rfl).1, (h.box.2 2 _ rfl).1, (h.box.2 3 _ rfl).1, (h.box.2 4 _ rfl).1, (h.box.2 5 _ rfl).1, (h.box.2 6 _ rfl).1⟩
theorem LdS.thaw (h : LdS w0 w B b R cl L A S c d ks v own limit u wt lo hi) : w.frozen? ⟨B, 1, none⟩ = false ∧ w.frozen? ⟨B, 2, none⟩ = false ∧ w.frozen? ⟨B, 3, none⟩ = false ∧ w.frozen? ⟨B, 6, none⟩ = false :=
  ⟨(h.box.2 1 _ rfl).2, (h.box.2 2 _ rfl).2, (h.box.2 3 _ rfl).2, (h.box.2 6 _ rfl).2⟩
theorem LdS.rowW (h : LdS w0 w B b R cl L A S c d ks v own limit u wt lo hi) : Row w w.heap.size R L := h.row.more h.q.size
/-- a store into a block of somebody else's -/
theorem LdS.aside (h : LdS w0 w B b R cl L A S c d ks v own limit u wt lo hi) {w' : World} {g : Nat} (gr : w.grownBy w' (some g)) (h0 : w0.heap.size ≤ g) (hB : g ≠ B) (hb : g ≠ b) (hv : v.ownBlock ≠ some g) (hu : u.ownBlock ≠ some g) (ho : Off lo hi g) : LdS w0 w' B b R cl L A S c d ks v own limit u wt lo hi :=
  ⟨grown_q gr h.q h0, h.hB, h.hb, h.bB, h.box.grown gr (fun e => hB (by injection e)), h.row.keep (Below.grown (Below.refl w0.heap.size w) gr h.q.size (fun k e => by injection e with e; omega)), h.keys.grown gr (fun k e => by injection e with e; subst e; exact ho), num_grown h.num gr (fun e => hb e.symm), h.nms.kept gr (.inr hv), h.wts.kept gr (.inr hu), h.vB, h.uB, h.vu, h.oB, h.ov, h.ou⟩
/-- what a store into the loader's own cells leaves -/
theorem LdS.store (h : LdS w0 w B b R cl L A S c d ks v own limit u wt lo hi) (k : Nat) (x : Value) :
    Q w0 (w.setCell ⟨B, k, none⟩ x) ∧ Row (w.setCell ⟨B, k, none⟩ x) w0.heap.size R L ∧ KeysAt (w.setCell ⟨B, k, none⟩ x) lo hi A S ks ∧ NumM (w.setCell ⟨B, k, none⟩ x) b own.length (numF own) ∧ (w.setCell ⟨B, k, none⟩ x).ownsRow w0.heap.size 9 1 v own.length (cellsS own) ∧ (w.setCell ⟨B, k, none⟩ x).ownsRow w0.heap.size 3 1 u wt.length (cellsI wt) := by
  have hg := setCell_grown w B k x
  refine ⟨grown_q hg h.q h.hB, ?_, h.keys.grown hg (fun g e => by injection e with e; subst e; exact h.oB), num_grown h.num hg h.bB, h.nms.kept hg (.inr h.vB), h.wts.kept hg (.inr h.uB)⟩
  exact h.row.keep (Below.grown (Below.refl w0.heap.size w) hg h.q.size (fun k e => by injection e with e; have := h.hB; omega))
/-- an append onto the names, and the name's number -/
theorem LdS.addName (h : LdS w0 w B b R cl L A S c d ks v own limit u wt lo hi) {w' : World} {v' : Value} (gr : w.grownBy w' v.ownBlock) (bl : v'.ownBlock = v.ownBlock ∨ v'.ownBlock = some w.heap.size) :
    Q w0 w' ∧ OwnC w' B [.slice R L.length cl, .slice A ks.length c, .slice S (layI ks).length d, v, .map (some b), .int .i64 limit, u] ∧ Row w' w0.heap.size R L ∧ KeysAt w' lo hi A S ks ∧ NumM w' b own.length (numF own) ∧ w'.ownsRow w0.heap.size 3 1 u wt.length (cellsI wt) ∧ v'.ownBlock ≠ some B ∧ v'.ownBlock ≠ some b ∧ (∀ g, v'.ownBlock = some g → u.ownBlock ≠ some g) ∧ (∀ g, v'.ownBlock = some g → Off lo hi g) := by
  have hB' := h.box.1
  have hb' := h.num.lt
  refine ⟨Below.grown h.q gr h.q.size (fun k e => (h.nms.lt k e).1), h.box.grown gr h.vB, ?_, h.keys.grown gr h.ov, num_grownV h.num gr (row_not_map h.nms h.num), ?_, ?_, ?_, ?_, ?_⟩
  · exact h.row.keep (Below.grown (Below.refl w0.heap.size w) gr h.q.size (fun k e => (h.nms.lt k e).1))
  · refine h.wts.kept gr ?_
    cases hu : u.ownBlock with
    | none => exact .inl rfl
    | some g => exact .inr fun e => h.vu g e.symm hu
  · rcases bl with e | e
    · rw [e]; exact h.vB
    · rw [e]; intro e'; injection e' with e'; omega
  · rcases bl with e | e
    · rw [e]; exact row_not_map h.nms h.num
    · rw [e]; intro e'; injection e' with e'; omega
  · intro g e1 e2
    rcases bl with e | e
    · exact h.vu g (by rw [← e]; exact e1) e2
    · have := (h.wts.lt g e2).2
      rw [e] at e1
      injection e1 with e1
      omega
  · intro g e1
    rcases bl with e | e
    · exact h.ov g (by rw [← e]; exact e1)
    · rw [e] at e1
      injection e1 with e1
      have := h.keys.1
      unfold Off
      omega
/-- the places that wait, cut, and one more -/
theorem LdS.finish (h : LdS w0 w B b R cl L A S c d ks v own limit u wt lo hi) {w' : World} {u1 u' : Value} {m : Nat} {x : Int} (hm : m ≤ wt.length) (hu1 : u1.ownBlock = u.ownBlock ∨ u1.ownBlock = none) (ho : w'.ownsRow w0.heap.size 3 1 u' (m + 1) (cellsI (wt.take m) ++ [.int .i64 x])) (gr : w.grownBy w' u1.ownBlock) (bl : u'.ownBlock = u1.ownBlock ∨ u'.ownBlock = some w.heap.size)
    {A' S' : Option Addr} {c' d' : Nat} {ks' : List (List Int)} {lo' hi' : Nat} (hk : KeysAt w lo' hi' A' S' ks') (oB' : Off lo' hi' B) (ov' : ∀ g, v.ownBlock = some g → Off lo' hi' g) (ou' : ∀ g, u.ownBlock = some g → Off lo' hi' g) :
    LdS w0 (((w'.setCell ⟨B, 1, none⟩ (.slice A' ks'.length c')).setCell ⟨B, 2, none⟩ (.slice S' (layI ks').length d')).setCell ⟨B, 6, none⟩ u') B b R cl L A' S' c' d' ks' v own limit u' (wt.take m ++ [x]) lo' hi' := by
  have hB' := h.box.1
  have hlt : ∀ k, u1.ownBlock = some k → w0.heap.size ≤ k := fun k e => by
    rcases hu1 with e1 | e1
    · rw [e1] at e; exact (h.wts.lt k e).1
    · rw [e1] at e; cases e
  have huB1 : u1.ownBlock ≠ some B := by
    rcases hu1 with e | e
    · rw [e]; exact h.uB
    · rw [e]; intro e'; cases e'
  have hub1 : u1.ownBlock ≠ some b := by
    rcases hu1 with e | e
    · rw [e]; exact row_not_map h.wts h.num
    · rw [e]; intro e'; cases e'
  have hvu1 : ∀ g, v.ownBlock = some g → u1.ownBlock ≠ some g := fun g hv => by
    rcases hu1 with e | e
    · rw [e]; exact h.vu g hv
    · rw [e]; intro e'; cases e'
  have hou1 : ∀ g, u1.ownBlock = some g → Off lo' hi' g := fun g hv => by
    rcases hu1 with e | e
    · exact ou' g (by rw [← e]; exact hv)
    · rw [e] at hv; cases hv
  have hq : Q w0 w' := Below.grown h.q gr h.q.size (fun k e => hlt k e)
  have huB : u'.ownBlock ≠ some B := by
    rcases bl with e | e
    · rw [e]; exact huB1
    · rw [e]; intro e'; injection e' with e'; omega
  have hg := grown_trans (grown_trans (setCell_grown w' B 1 (.slice A' ks'.length c')) (setCell_grown _ B 2 (.slice S' (layI ks').length d'))) (setCell_grown _ B 6 u')
  have hoB : ∀ g, some B = some g → Off lo' hi' g := fun g e => by injection e with e; subst e; exact oB'
  have hnv : w'.ownsRow w0.heap.size 9 1 v own.length (cellsS own) := h.nms.kept gr (by
    cases hv : v.ownBlock with
    | none => exact .inl rfl
    | some g => exact .inr fun e => hvu1 g hv e.symm)
  refine ⟨grown_q hg hq h.hB, h.hB, h.hb, h.bB, ?_, ?_, (hk.grown gr hou1).grown hg hoB, num_grown (num_grownV h.num gr hub1) hg h.bB, hnv.kept hg (.inr h.vB), ?_, h.vB, huB, ?_, oB', ov', ?_⟩
  · have := (((h.box.grown gr huB1).set (s := 1) (by simp) (.slice A' ks'.length c')).set (s := 2) (by simp) (.slice S' (layI ks').length d')).set (s := 6) (by simp) u'
    exact this
  · have h1 := h.row.keep (Below.grown (Below.refl w0.heap.size w) gr h.q.size (fun k e => hlt k e))
    exact h1.keep (Below.grown (Below.refl w0.heap.size w') hg hq.size (fun k e => by injection e with e; have := h.hB; omega))
  · have := ho.kept hg (.inr huB)
    have e1 : (wt.take m ++ [x]).length = m + 1 := by simp; omega
    rw [e1]
    simpa [cellsI] using this
  · intro g hv e2
    rcases bl with e | e
    · exact hvu1 g hv (by rw [← e]; exact e2)
    · have := (h.nms.lt g hv).2
      rw [e] at e2
      injection e2 with e2
      omega
  · intro g e1
    rcases bl with e | e
    · exact hou1 g (by rw [← e]; exact e1)
    · rw [e] at e1
      injection e1 with e1
      have := hk.1
      unfold Off
      omega
end
end Go.Proofs.YtdmdcggmgipdbaaGreatDoor.Ld

namespace Go.Proofs.YtdmdcggmgipdbaaGreatDoor.Kit

section
variable {P : Program} {md : Region.Mode} {ops : Array Oper} {Q : Exit → Act → World → Prop} {S : World → Prop} {z : Nat}
def wpAnyT (P : Program) (md : Region.Mode) (ops : Array Oper) (Q : Exit → Act → World → Prop) (S : World → Prop) (z : Nat) : Nat → Array Bool → Act → World → Prop
  | 0, listed, a, w => Region.ready md ops listed = [] ∧ Q .normal a w
  | fuel + 1, listed, a, w =>
    (Region.ready md ops listed = [] → Q .normal a w) ∧
    ∀ i ∈ Region.ready md ops listed, wpOp P ops Q i (fun a' w' => ((listed.setIfInBounds i true).getD z true = false → S w') ∧ wpAnyT P md ops Q S z fuel (listed.setIfInBounds i true) a' w') a w
theorem wpAny_of_till : ∀ (fuel : Nat) (listed : Array Bool) (a : Act) (w : World), wpAnyT P md ops Q S z fuel listed a w → wpAny P md ops Q fuel listed a w
  | 0, _, _, _, h => h
  | fuel + 1, _, _, _, h => ⟨h.1, fun i hi => wpOp_mono (fun a' w' h' => wpAny_of_till fuel _ a' w' h'.2) (h.2 i hi)⟩
theorem getD_set_ne9 {xs : Array Bool} {i k : Nat} (h : i ≠ k) : (xs.setIfInBounds i true).getD k true = xs.getD k true := by
  simp only [Array.getD_eq_getD_getElem?]
  rw [Array.getElem?_setIfInBounds_ne h]
theorem wpAnyT_first {i : Nat} {oi oz : Oper} {v : Value} (hi : ops[i]? = some oi) (hsel : ∀ (j : Nat) (o : Oper) cs b, ops[j]? = some o → o.op ≠ .select cs b)
    (hQ : ∀ c a w, Q (.panic c) (a.put oi.dst v) w → Q (.panic c) a w) (hoz : ops[z]? = some oz) (hzi : ∃ e ∈ oz.after, Region.binds md e = true ∧ e.on = i) (hne : z ≠ i) :
    ∀ (fuel : Nat) (listed : Array Bool) (a : Act) (w : World),
      (∀ j oj, ops[j]? = some oj → j ≠ i → listed.getD j true = false → (∀ e ∈ oj.after, Region.binds md e = true → e.on ≠ i) → oi.apart ops oj = true) →
      i ∈ Region.ready md ops listed → listed.getD z true = false → YieldsIf P ops S oi v a → S w →
      wpAnyT P md ops Q S z fuel (listed.setIfInBounds i true) (a.put oi.dst v) w → wpAnyT P md ops Q S z (fuel + 1) listed a w := by
  intro fuel
  induction fuel with
  | zero =>
    intro listed a w _ hr _ hy hS H
    refine ⟨fun h => (by rw [h] at hr; cases hr), fun j hj => ?_⟩
    by_cases hji : j = i
    · subst hji; exact hy.wpOp hi hS ⟨fun _ => hS, H⟩
    · have := ready_mono hj hji
      rw [H.1] at this
      cases this
  | succ fuel ih =>
    intro listed a w hfree hr hz hy hS H
    refine ⟨fun h => (by rw [h] at hr; cases hr), fun j hj => ?_⟩
    by_cases hji : j = i
    · subst hji; exact hy.wpOp hi hS ⟨fun _ => hS, H⟩
    · have h1 := H.2 j (ready_mono hj hji)
      obtain ⟨hjun, oj, hoj, hall⟩ := mem_ready.1 hj
      have hnot : ∀ e ∈ oj.after, Region.binds md e = true → e.on ≠ i := fun e he hb heq => by
        have h1 := hall e he hb
        have h0 := (mem_ready.1 hr).1
        rw [heq] at h1
        rcases Nat.lt_or_ge i listed.size with h' | h'
        · simp [h'] at h0 h1; rw [h0] at h1; cases h1
        · simp [Array.getElem?_eq_none h'] at h1
      have hjz : j ≠ z := fun e => by
        subst e
        rw [hoz] at hoj
        injection hoj with hoj
        subst hoj
        obtain ⟨e, he, hb, ho⟩ := hzi
        exact hnot e he hb ho
      have hz2 : (listed.setIfInBounds j true).getD z true = false := by rw [getD_set_ne9 hjz]; exact hz
      have hz3 : ((listed.setIfInBounds i true).setIfInBounds j true).getD z true = false := by rw [getD_set_ne9 hjz, getD_set_ne9 (fun e => hne e.symm)]; exact hz
      have h2 := wpOp_putIf hoj (hfree j oj hoj hji hjun hnot) (fun cs b => hsel i oi cs b hi) (fun cs b => hsel j oj cs b hoj) hQ hy h1
      have hfree' : ∀ k ok, ops[k]? = some ok → k ≠ i → (listed.setIfInBounds j true).getD k true = false →
          (∀ e ∈ ok.after, Region.binds md e = true → e.on ≠ i) → oi.apart ops ok = true := fun k ok hk hki hun hno => by
        refine hfree k ok hk hki ?_ hno
        by_cases hjk : j = k
        · subst hjk; exact hjun
        · rw [getD_set_ne9 hjk] at hun; exact hun
      refine wpOp_mono (fun a' w' h3 => ⟨fun _ => h3.2.1 hz3, ih (listed.setIfInBounds j true) a' w' hfree' (ready_mono hr (Ne.symm hji)) hz2 h3.1 (h3.2.1 hz3) ?_⟩) h2
      rw [Array.setIfInBounds_comm _ _ hji]
      exact h3.2.2
/-- an operation that yields its value in whatever world may be taken first at any time -/
theorem wpAnyT_firstY {i : Nat} {oi : Oper} {v : Value} (hi : ops[i]? = some oi) (hsel : ∀ (j : Nat) (o : Oper) cs b, ops[j]? = some o → o.op ≠ .select cs b)
    (hQ : ∀ c a w, Q (.panic c) (a.put oi.dst v) w → Q (.panic c) a w) (hne : z ≠ i) :
    ∀ (fuel : Nat) (listed : Array Bool) (a : Act) (w : World),
      (∀ j oj, ops[j]? = some oj → j ≠ i → listed.getD j true = false → (∀ e ∈ oj.after, Region.binds md e = true → e.on ≠ i) → oi.apart ops oj = true) →
      i ∈ Region.ready md ops listed → YieldsIf P ops (fun _ => True) oi v a → (listed.getD z true = false → S w) →
      wpAnyT P md ops Q S z fuel (listed.setIfInBounds i true) (a.put oi.dst v) w → wpAnyT P md ops Q S z (fuel + 1) listed a w := by
  intro fuel
  induction fuel with
  | zero =>
    intro listed a w _ hr hy hS H
    refine ⟨fun h => (by rw [h] at hr; cases hr), fun j hj => ?_⟩
    by_cases hji : j = i
    · subst hji; exact hy.wpOp hi trivial ⟨fun h => hS (by rw [getD_set_ne9 (fun e => hne e.symm)] at h; exact h), H⟩
    · have := ready_mono hj hji
      rw [H.1] at this
      cases this
  | succ fuel ih =>
    intro listed a w hfree hr hy hS H
    refine ⟨fun h => (by rw [h] at hr; cases hr), fun j hj => ?_⟩
    by_cases hji : j = i
    · subst hji; exact hy.wpOp hi trivial ⟨fun h => hS (by rw [getD_set_ne9 (fun e => hne e.symm)] at h; exact h), H⟩
    · have h1 := H.2 j (ready_mono hj hji)
      obtain ⟨hjun, oj, hoj, hall⟩ := mem_ready.1 hj
      have hnot : ∀ e ∈ oj.after, Region.binds md e = true → e.on ≠ i := fun e he hb heq => by
        have h1 := hall e he hb
        have h0 := (mem_ready.1 hr).1
        rw [heq] at h1
        rcases Nat.lt_or_ge i listed.size with h' | h'
        · simp [h'] at h0 h1; rw [h0] at h1; cases h1
        · simp [Array.getElem?_eq_none h'] at h1
      have h2 := wpOp_putIf hoj (hfree j oj hoj hji hjun hnot) (fun cs b => hsel i oi cs b hi) (fun cs b => hsel j oj cs b hoj) hQ hy h1
      have hfree' : ∀ k ok, ops[k]? = some ok → k ≠ i → (listed.setIfInBounds j true).getD k true = false →
          (∀ e ∈ ok.after, Region.binds md e = true → e.on ≠ i) → oi.apart ops ok = true := fun k ok hk hki hun hno => by
        refine hfree k ok hk hki ?_ hno
        by_cases hjk : j = k
        · subst hjk; exact hjun
        · rw [getD_set_ne9 hjk] at hun; exact hun
      refine wpOp_mono (fun a' w' h3 => ?_) h2
      have hS' : (listed.setIfInBounds j true).getD z true = false → S w' := fun h => h3.2.1 (by
        rw [Array.setIfInBounds_comm _ _ (Ne.symm hji), getD_set_ne9 (fun e => hne e.symm)]; exact h)
      refine ⟨hS', ih (listed.setIfInBounds j true) a' w' hfree' (ready_mono hr (Ne.symm hji)) h3.1 hS' ?_⟩
      rw [Array.setIfInBounds_comm _ _ hji]
      exact h3.2.2
/-- does z wait for i? -/
def waitsB (md : Region.Mode) (ops : Array Oper) (z i : Nat) : Bool := match ops[z]? with
  | some o => o.after.any fun e => Region.binds md e && (e.on == i)
  | none => false
theorem waits_spec {i : Nat} (h : waitsB md ops z i = true) : ∃ oz, ops[z]? = some oz ∧ ∃ e ∈ oz.after, Region.binds md e = true ∧ e.on = i := by
  unfold waitsB at h
  split at h
  · rename_i o ho
    rw [Array.any_eq_true] at h
    obtain ⟨k, hk, h⟩ := h
    rw [Bool.and_eq_true, beq_iff_eq] at h
    exact ⟨o, ho, _, Array.getElem_mem hk, h⟩
  · cases h
end
section
variable {P : Program} {ops : Array Oper} {Q : Exit → Act → World → Prop} {S : World → Prop} {z : Nat}
theorem take_t {i : Nat} {oi : Oper} {d : Option Tmp} {v : Value} {fuel : Nat} {listed : Array Bool} {a : Act} {w : World} (hi : ops[i]? = some oi)
    (hs : Region.noSelect ops = true) (hf : Region.free .any ops listed i = true) (hr : (Region.ready .any ops listed).contains i = true) (hz : (waitsB .any ops z i && !(z == i) && !listed.getD z true) = true)
    (hQ : ∀ c a w, Q (.panic c) (a.put d v) w → Q (.panic c) a w) (hd : oi.dst = d) (hw : Region.wanted oi (yielded ops a.tmps) = true) (hy : ∀ w, S w → (execOp a.eval oi).run P w = .ok (.value v) w) (hS : S w)
    (h : wpAnyT P .any ops Q S z fuel (listed.setIfInBounds i true) (a.put d v) w) : wpAnyT P .any ops Q S z (fuel + 1) listed a w := by
  subst hd
  rw [Bool.and_eq_true, Bool.and_eq_true] at hz
  obtain ⟨⟨h1, h2⟩, h3⟩ := hz
  obtain ⟨oz, hoz, hzi⟩ := waits_spec h1
  exact wpAnyT_first hi (Region.noSelect_spec hs) hQ hoz hzi (by simpa using h2) fuel listed a w (Region.free_spec hi hf) (by simpa using hr) (by simpa using h3) (.inl ⟨hw, hy⟩) hS h
theorem take_y {i : Nat} {oi : Oper} {d : Option Tmp} {v : Value} {fuel : Nat} {listed : Array Bool} {a : Act} {w : World} (hi : ops[i]? = some oi)
    (hs : Region.noSelect ops = true) (hf : Region.free .any ops listed i = true) (hr : (Region.ready .any ops listed).contains i = true) (hz : (z == i) = false)
    (hQ : ∀ c a w, Q (.panic c) (a.put d v) w → Q (.panic c) a w) (hd : oi.dst = d) (hw : Region.wanted oi (yielded ops a.tmps) = true) (hy : ∀ w, (execOp a.eval oi).run P w = .ok (.value v) w) (hS : S w)
    (h : wpAnyT P .any ops Q S z fuel (listed.setIfInBounds i true) (a.put d v) w) : wpAnyT P .any ops Q S z (fuel + 1) listed a w := by
  subst hd
  exact wpAnyT_firstY hi (Region.noSelect_spec hs) hQ (by simpa using hz) fuel listed a w (Region.free_spec hi hf) (by simpa using hr) (.inl ⟨hw, fun w _ => hy w⟩) (fun _ => hS) h
theorem call_t {i : Nat} {o : Oper} {fuel : Nat} {listed : Array Bool} {a : Act} {w : World} (ho : ops[i]? = some o) (hr : Region.ready .any ops listed = [i])
    (hw : Region.wanted o (yielded ops a.tmps) = true)
    (h : ∀ K' : Act → World → Prop, Shut (∀ a w, ((listed.setIfInBounds i true).getD z true = false → S w) → wpAnyT P .any ops Q S z fuel (listed.setIfInBounds i true) a w → K' a w) → Oper.wp P o a w K' Q) :
    wpAnyT P .any ops Q S z (fuel + 1) listed a w := by
  refine ⟨fun h0 => (by rw [hr] at h0; cases h0), fun j hj => ?_⟩
  rw [hr] at hj
  obtain rfl : j = i := by simpa using hj
  exact wpOp_step ho (fun K' hK => by rw [if_pos hw]; exact h K' fun a w h1 h2 => hK a w ⟨h1, h2⟩)
theorem done_t {listed : Array Bool} {a : Act} {w : World} (hr : Region.ready .any ops listed = []) (h : Q .normal a w) :
    ∀ fuel, wpAnyT P .any ops Q S z fuel listed a w
  | 0 => ⟨hr, h⟩
  | _ + 1 => ⟨fun _ => h, by rw [hr]; simp⟩
theorem begin_t {id : Nat} {a : Act} {w : World} (hm : P.follows .mixedOrders = true) (hS : S w.drew)
    (h : S w.drew → wpAnyT P .any ops Q S z ops.size (Array.replicate ops.size false) a w.drew) : (Code.region id ops true).wp P Q a w :=
  wp_region_any hm (wpAny_of_till _ _ _ _ (h hS))
end
end Go.Proofs.YtdmdcggmgipdbaaGreatDoor.Kit

namespace Go.Proofs.YtdmdcggmgipdbaaGreatDoor.Ld
open Go.RowKit Kit Rw
open Go.Proofs.YtdmdcggmgipdbaaGreatDoor.Sg (Sig Row findI)
open Go.Proofs.YtdmdcggmgipdbaaGreatDoor.Hs (Keys Ints layI)
open Go.Proofs.YtdmdcggmgipdbaaGreatDoor.Tm (Tm Store)
open Go.Proofs.YtdmdcggmgipdbaaGreatDoor.Ex (atS cellsS cellsI own_slice)
theorem stringInfo9 : (Tryz.prog.info? 9).map (fun i => (i.zero, i.size, i.bytes)) = some (some (.string ⟨#[]⟩), 1, 16) := by kernel_rfl
def numV (own : List ByteArray) (nm : ByteArray) : Int := if atS nm own 0 < 0 then (own.length : Int) else atS nm own 0
def numO (own : List ByteArray) (nm : ByteArray) : List ByteArray := if atS nm own 0 < 0 then own ++ [nm] else own
structure Gr (w0 w : World) (B b : Nat) (R : Option Addr) (cl : Nat) (L : List Sig) (A S : Option Addr) (c d : Nat) (ks : List (List Int)) (v : Value) (own : List ByteArray) (limit : Int) (u : Value) (wt : List Int) (lo hi : Nat) (v' : Value) (own' : List ByteArray) : Prop where
  q : Q w0 w
  box : OwnC w B [.slice R L.length cl, .slice A ks.length c, .slice S (layI ks).length d, v, .map (some b), .int .i64 limit, u]
  row : Row w w0.heap.size R L
  keys : KeysAt w lo hi A S ks
  num : NumM w b own.length (numF own)
  wts : w.ownsRow w0.heap.size 3 1 u wt.length (cellsI wt)
  vB : v'.ownBlock ≠ some B
  vb : v'.ownBlock ≠ some b
  vu : ∀ g, v'.ownBlock = some g → u.ownBlock ≠ some g
  ov : ∀ g, v'.ownBlock = some g → Off lo hi g
  nms : w.ownsRow w0.heap.size 9 1 v' own'.length (cellsS own')
theorem Gr.close {w0 w w2 w5 : World} {B b : Nat} {R : Option Addr} {cl : Nat} {L : List Sig} {A S : Option Addr} {c d : Nat} {ks : List (List Int)} {v : Value} {own : List ByteArray} {limit : Int} {u : Value} {wt : List Int} {lo hi : Nat} {v' : Value} {own' : List ByteArray}
    (h : Gr w0 w2 B b R cl L A S c d ks v own limit u wt lo hi v' own') (k : LdS w0 w B b R cl L A S c d ks v own limit u wt lo hi) (hg5 : (w2.setCell ⟨B, 3, none⟩ v').grownBy w5 (some b)) (hN : NumM w5 b own'.length (numF own')) : LdS w0 w5 B b R cl L A S c d ks v' own' limit u wt lo hi := by
  have hg := setCell_grown w2 B 3 v'
  have q3 : Q w0 (w2.setCell ⟨B, 3, none⟩ v') := grown_q hg h.q k.hB
  have hbx : OwnC (w2.setCell ⟨B, 3, none⟩ v') B [.slice R L.length cl, .slice A ks.length c, .slice S (layI ks).length d, v', .map (some b), .int .i64 limit, u] := h.box.set (s := 3) (by simp) v'
  have hoB : ∀ g, some B = some g → Off lo hi g := fun g e => by injection e with e; subst e; exact k.oB
  have hN3 := num_grown h.num hg k.bB
  have hub : u.ownBlock ≠ some b := row_not_map h.wts h.num
  refine ⟨grown_q hg5 q3 k.hb, k.hB, k.hb, k.bB, hbx.grown hg5 (fun e => k.bB (by injection e)), ?_, ?_, hN, (h.nms.kept hg (.inr h.vB)).kept hg5 (.inr h.vb), (h.wts.kept hg (.inr k.uB)).kept hg5 (.inr hub), h.vB, k.uB, h.vu, k.oB, h.ov, k.ou⟩
  · have h1 := h.row.keep (Below.grown (Below.refl w0.heap.size w2) hg h.q.size (fun k' e => by injection e with e; have := k.hB; omega))
    exact h1.keep (Below.grown (Below.refl w0.heap.size _) hg5 q3.size (fun k' e => by injection e with e; have := k.hb; omega))
  · refine (h.keys.grown hg hoB).same hg5.size fun p h1 h2 => ?_
    by_cases hp : p.block = b
    · rw [num_noCell hN hp, num_noCell hN3 hp]
    · exact World.cell?_of_block (hg5.block p.block (Nat.lt_of_lt_of_le h2 (h.keys.grown hg hoB).1) fun e => hp (by injection e))
section
variable (w0 : World) (B b : Nat) (R : Option Addr) (cl : Nat) (L : List Sig) (A S : Option Addr) (c d : Nat) (ks : List (List Int)) (v : Value) (own : List ByteArray) (limit : Int) (u : Value) (wt : List Int) (lo hi : Nat)
set_option maxRecDepth 100000 in
set_option maxHeartbeats 4000000 in
theorem number_any (w : World) (nm : ByteArray) (h : LdS w0 w B b R cl L A S c d ks v own limit u wt lo hi) (hs : nm.size ≤ 1000) (ho : own.length ≤ 100000) :
    Calls Tryz.prog 97 #[.pointer (some ⟨B, 0, none⟩), .string nm] w fun e w' => e = .returned (.int .i64 (numV own nm)) ∧ (∃ v', LdS w0 w' B b R cl L A S c d ks v' (numO own nm) limit u wt lo hi ∧ ∀ g, v'.ownBlock = some g → v.ownBlock = some g ∨ w.heap.size ≤ g) ∧ (∀ g, g < w.heap.size → g ≠ B → g ≠ b → v.ownBlock ≠ some g → w'.heap[g]? = w.heap[g]?) ∧ w.heap.size ≤ w'.heap.size := by
  obtain ⟨i0, hi, hz0, hz1, hz2⟩ := info_parts stringInfo9
  have Hi := Lib.hid hi
  have Hz0 := Lib.hid hz0
  have Hz1 := Lib.hid hz1
  have Hz2 := Lib.hid hz2
  clear hi hz0 hz1 hz2
  have H := Lib.hid h
  have hlook := num_look h.num nm (by omega)
  obtain ⟨b0, b1, b2, b3, b4, b5, b6⟩ := h.cells
  clear h
  by_cases hat : atS nm own 0 < 0
  · have HV : Hid (numV own nm = (own.length : Int)) := by unfold Hid numV; rw [if_pos hat]
    have HO : Hid (numO own nm = own ++ [nm]) := by unfold Hid numO; rw [if_pos hat]
    have hf : numF own nm = none := by unfold numF; rw [if_pos hat]
    rw [hf] at hlook
    have HAt := Lib.hid hat
    obtain ⟨A2, c2, hve, _, hr2⟩ := own_read H.out.nms
    clear hf hat hr2
    subst hve
    have HS0 : Hid (w.drew.cell? ⟨B, 3, none⟩ = some (.slice A2 own.length c2) ∧ w.drew.cell? ⟨B, 4, none⟩ = some (.map (some b))) := Lib.hid ⟨b3, b4⟩
    have H1 := Lib.hid (H.out.more ((Q.refl w).drew.alloc (Obj.cells #[.string nm] 9)))
    have HS1 : Hid ((w.drew.alloc (Obj.cells #[.string nm] 9)).cell? ⟨B, 3, none⟩ = some (.slice A2 own.length c2) ∧ (w.drew.alloc (Obj.cells #[.string nm] 9)).cell? ⟨B, 4, none⟩ = some (.map (some b))) := Lib.hid ⟨H1.out.cells.2.2.2.1, H1.out.cells.2.2.2.2.1⟩
    have HSr : Hid (Src (w.drew.alloc (Obj.cells #[.string nm] 9)) (some ⟨w.heap.size, 0, none⟩) [.string nm]) := src_alloc w.drew [.string nm] 9 (0, 0)
    go_enter Tryz.func97, Tryz.ntmps97
    go_wp2_with fail
    refine begin_t (S := fun w' => w'.cell? ⟨B, 3, none⟩ = some (.slice A2 own.length c2) ∧ w'.cell? ⟨B, 4, none⟩ = some (.map (some b))) (z := 16) (by kernel_rfl) ?_ (fun hHeld => ?_)
    · exact HS0.out
    refine take_y (i := 0) (d := some 23) (v := ?_) rfl (by kernel_rfl) (by kernel_rfl) (by kernel_rfl) (by kernel_rfl) (fun _ _ _ h => h) rfl (by rfl) ?_ (by assumption) ?_
    rotate_left
    · (intro w; go_simp; (try with_reducible rfl))
    try simp only [Act.put, List.setIfInBounds_toArray, List.set_cons_zero, List.set_cons_succ]
    refine take_y (i := 1) (d := some 24) (v := ?_) rfl (by kernel_rfl) (by kernel_rfl) (by kernel_rfl) (by kernel_rfl) (fun _ _ _ h => h) rfl (by rfl) ?_ (by assumption) ?_
    rotate_left
    · (intro w; go_simp; (try with_reducible rfl))
    try simp only [Act.put, List.setIfInBounds_toArray, List.set_cons_zero, List.set_cons_succ]
    refine take_y (i := 2) (d := some 25) (v := ?_) rfl (by kernel_rfl) (by kernel_rfl) (by kernel_rfl) (by kernel_rfl) (fun _ _ _ h => h) rfl (by rfl) ?_ (by assumption) ?_
    rotate_left
    · (intro w; go_simp; (try with_reducible rfl))
    try simp only [Act.put, List.setIfInBounds_toArray, List.set_cons_zero, List.set_cons_succ]
    refine take_y (i := 3) (d := some 26) (v := ?_) rfl (by kernel_rfl) (by kernel_rfl) (by kernel_rfl) (by kernel_rfl) (fun _ _ _ h => h) rfl (by rfl) ?_ (by assumption) ?_
    rotate_left
    · (intro w; go_simp; (try with_reducible rfl))
    try simp only [Act.put, List.setIfInBounds_toArray, List.set_cons_zero, List.set_cons_succ]
    refine take_t (i := 4) (d := some 27) (v := ?_) rfl (by kernel_rfl) (by kernel_rfl) (by kernel_rfl) (by kernel_rfl) (fun _ _ _ h => h) rfl (by rfl) ?_ (by assumption) ?_
    rotate_left
    · (intro w hSw; (try dsimp only at hSw); go_simp; (try with_reducible rfl))
    try simp only [Act.put, List.setIfInBounds_toArray, List.set_cons_zero, List.set_cons_succ]
    refine take_y (i := 5) (d := some 28) (v := ?_) rfl (by kernel_rfl) (by kernel_rfl) (by kernel_rfl) (by kernel_rfl) (fun _ _ _ h => h) rfl (by rfl) ?_ (by assumption) ?_
    rotate_left
    · (intro w; go_simp; (try with_reducible rfl))
    try simp only [Act.put, List.setIfInBounds_toArray, List.set_cons_zero, List.set_cons_succ]
    refine take_y (i := 6) (d := some 29) (v := ?_) rfl (by kernel_rfl) (by kernel_rfl) (by kernel_rfl) (by kernel_rfl) (fun _ _ _ h => h) rfl (by rfl) ?_ (by assumption) ?_
    rotate_left
    · (intro w; go_simp; (try with_reducible rfl))
    try simp only [Act.put, List.setIfInBounds_toArray, List.set_cons_zero, List.set_cons_succ]
    refine take_y (i := 7) (d := some 30) (v := ?_) rfl (by kernel_rfl) (by kernel_rfl) (by kernel_rfl) (by kernel_rfl) (fun _ _ _ h => h) rfl (by rfl) ?_ (by assumption) ?_
    rotate_left
    · (intro w; go_simp; (try with_reducible rfl))
    try simp only [Act.put, List.setIfInBounds_toArray, List.set_cons_zero, List.set_cons_succ]
    refine take_y (i := 8) (d := some 31) (v := ?_) rfl (by kernel_rfl) (by kernel_rfl) (by kernel_rfl) (by kernel_rfl) (fun _ _ _ h => h) rfl (by rfl) ?_ (by assumption) ?_
    rotate_left
    · (intro w; go_simp; (try with_reducible rfl))
    try simp only [Act.put, List.setIfInBounds_toArray, List.set_cons_zero, List.set_cons_succ]
    refine take_t (i := 9) (d := some 32) (v := ?_) rfl (by kernel_rfl) (by kernel_rfl) (by kernel_rfl) (by kernel_rfl) (fun _ _ _ h => h) rfl (by rfl) ?_ (by assumption) ?_
    rotate_left
    · (intro w hSw; (try dsimp only at hSw); go_simp; (try with_reducible rfl))
    try simp only [Act.put, List.setIfInBounds_toArray, List.set_cons_zero, List.set_cons_succ]
    refine take_y (i := 10) (d := some 33) (v := ?_) rfl (by kernel_rfl) (by kernel_rfl) (by kernel_rfl) (by kernel_rfl) (fun _ _ _ h => h) rfl (by rfl) ?_ (by assumption) ?_
    rotate_left
    · (intro w; go_simp; (try with_reducible rfl))
    try simp only [Act.put, List.setIfInBounds_toArray, List.set_cons_zero, List.set_cons_succ]
    refine take_y (i := 13) (d := some 36) (v := ?_) rfl (by kernel_rfl) (by kernel_rfl) (by kernel_rfl) (by kernel_rfl) (fun _ _ _ h => h) rfl (by rfl) ?_ (by assumption) ?_
    rotate_left
    · (intro w; go_simp; (try with_reducible rfl))
    try simp only [Act.put, List.setIfInBounds_toArray, List.set_cons_zero, List.set_cons_succ]
    refine call_t (i := 11) rfl (by kernel_rfl) (by rfl) (fun K hK => ?_)
    go_simp
    have hHeld : ((fun w' => w'.cell? ⟨B, 3, none⟩ = some (.slice A2 own.length c2) ∧ w'.cell? ⟨B, 4, none⟩ = some (.map (some b))) : World → Prop) _ := HS1.out
    refine hK.out _ _ (fun _ => hHeld) ?_
    clear hK K
    try simp only [Act.put, List.setIfInBounds_toArray, List.set_cons_zero, List.set_cons_succ]
    refine call_t (i := 12) rfl (by kernel_rfl) (by rfl) (fun K hK => ?_)
    refine wp_append_src _ (.tmp 32) (.tmp 34) _ rfl w0.heap.size 9 i0 _ 1 16 Tryz.underlying27 Hi.out Hz0.out Hz1.out Hz2.out rfl (by omega) (.slice A2 own.length c2) own.length (cellsS own) rfl H1.out.nms (some ⟨w.heap.size, 0, none⟩) 1 1 [.string nm] rfl rfl HSr.out (by simp [Value.oneCell']) (by unfold maxLen; omega) (by omega) H1.out.q.size ?_
    intro v' w2 own2 gr2 bl2
    obtain ⟨g', cap', rfl⟩ := own_slice own2 (by omega)
    obtain ⟨q2, hbx2, hr2, hk2, hn2, hw2, hvB2, hvb2, hvu2, hov2⟩ := H1.out.addName gr2 bl2
    have HG2 := Lib.hid (⟨q2, hbx2, hr2, hk2, hn2, hw2, hvB2, hvb2, hvu2, hov2, by rw [List.length_append, Ex.cellsS_append]; exact own2⟩ : Gr w0 w2 B b R cl L A S c d ks (.slice A2 own.length c2) own limit u wt lo hi (.slice (some ⟨g', 0, none⟩) (own.length + 1) cap') (own ++ [nm]))
    have k0 := (hbx2.2 3 _ rfl).1
    have k1 := (hbx2.2 3 _ rfl).2
    have k2 := (hbx2.2 4 _ rfl).1
    have HF2 := Lib.hid gr2
    have HBl := Lib.hid bl2
    clear own2 gr2 bl2 q2 hbx2 hr2 hk2 hn2 hw2 hvB2 hvb2 hvu2 hov2
    have hHeld : ((fun w' => w'.cell? ⟨B, 3, none⟩ = some (.slice A2 own.length c2) ∧ w'.cell? ⟨B, 4, none⟩ = some (.map (some b))) : World → Prop) _ := ⟨k0, k2⟩
    refine hK.out _ _ (fun _ => hHeld) ?_
    clear hK K
    try simp only [Act.put, List.setIfInBounds_toArray]
    refine call_t (i := 14) rfl (by kernel_rfl) (by rfl) (fun K hK => ?_)
    go_simp
    have hHeld : ((fun w' => w'.cell? ⟨B, 3, none⟩ = some (.slice A2 own.length c2) ∧ w'.cell? ⟨B, 4, none⟩ = some (.map (some b))) : World → Prop) _ := ⟨k0, k2⟩
    refine hK.out _ _ (fun _ => hHeld) ?_
    clear hK K
    try simp only [Act.put, List.setIfInBounds_toArray, List.set_cons_zero, List.set_cons_succ]
    refine call_t (i := 15) rfl (by kernel_rfl) (by rfl) (fun K hK => ?_)
    go_simp
    have hHeld : ((fun w' => w'.cell? ⟨B, 3, none⟩ = some (.slice A2 own.length c2) ∧ w'.cell? ⟨B, 4, none⟩ = some (.map (some b))) : World → Prop) _ := ⟨k0, k2⟩
    refine hK.out _ _ (fun _ => hHeld) ?_
    clear hK K
    try simp only [Act.put, List.setIfInBounds_toArray, List.set_cons_zero, List.set_cons_succ]
    refine call_t (i := 16) rfl (by kernel_rfl) (by rfl) (fun K hK => ?_)
    have hN3 := num_grown HG2.out.num (setCell_grown w2 B 3 (.slice (some ⟨g', 0, none⟩) (own.length + 1) cap')) H.out.bB
    obtain ⟨x, sx, w4, hrun4, hst4⟩ := num_entry2 hN3 nm (by omega) (by omega)
    obtain ⟨w5, hrun5, hN5, hg5⟩ := hst4 (own.length : Int) (WalkArith.wf_i64 ⟨by omega, by omega⟩)
    have HL5 := Lib.hid (HG2.out.close H.out hg5 (by rw [List.length_append]; exact hN5.congr fun y => (numF_snoc own nm HAt.out y).symm))
    have HF5 := Lib.hid hg5
    clear hN3 hst4 hN5 hg5
    go_simp
    refine hK.out _ _ (fun hz => by cases hz) ?_
    clear hK K
    try simp only [Act.put, List.setIfInBounds_toArray, List.set_cons_zero, List.set_cons_succ]
    refine call_t (i := 17) rfl (by kernel_rfl) (by rfl) (fun K hK => ?_)
    go_simp
    refine hK.out _ _ (fun hz => by cases hz) ?_
    clear hK K
    try simp only [Act.put, List.setIfInBounds_toArray, List.set_cons_zero, List.set_cons_succ]
    refine call_t (i := 18) rfl (by kernel_rfl) (by rfl) (fun K hK => ?_)
    go_simp
    refine hK.out _ _ (fun hz => by cases hz) ?_
    clear hK K
    try simp only [Act.put, List.setIfInBounds_toArray, List.set_cons_zero, List.set_cons_succ]
    refine call_t (i := 19) rfl (by kernel_rfl) (by rfl) (fun K hK => ?_)
    go_simp
    refine hK.out _ _ (fun hz => by cases hz) ?_
    clear hK K
    try simp only [Act.put, List.setIfInBounds_toArray, List.set_cons_zero, List.set_cons_succ]
    refine done_t (by kernel_rfl) ?_ _
    go_wp2_with fail
    go_ret
    refine ⟨by rw [HV.out]; rfl, ⟨_, by rw [HO.out]; exact HL5.out, fun g e => ?_⟩, fun g hg h1 h2 h3 => ?_, ?_⟩
    · rcases HBl.out with e1 | e1
      · left; rw [← e1]; exact e
      · right
        rw [e1] at e
        injection e with e
        rw [← e]
        exact ((Q.refl w).drew.alloc (Obj.cells #[.string nm] 9)).size
    · have q1 : Q w (w.drew.alloc (Obj.cells #[.string nm] 9)) := (Q.refl w).drew.alloc _
      have e1 := q1.block g hg
      have e2 := HF2.out.block g (Nat.lt_of_lt_of_le hg q1.size) (fun e => h3 e.symm)
      have e3 := (setCell_grown w2 B 3 (.slice (some ⟨g', 0, none⟩) (own.length + 1) cap')).block g (Nat.lt_of_lt_of_le hg (Nat.le_trans q1.size HF2.out.size)) (fun e => h1 (by injection e))
      have e4 := HF5.out.block g (Nat.lt_of_lt_of_le hg (Nat.le_trans q1.size (Nat.le_trans HF2.out.size (setCell_grown w2 B 3 (.slice (some ⟨g', 0, none⟩) (own.length + 1) cap')).size))) (fun e => h2 (by injection e))
      exact e4.trans (e3.trans (e2.trans e1))
    · exact Nat.le_trans ((Q.refl w).drew.alloc (Obj.cells #[.string nm] 9)).size (Nat.le_trans HF2.out.size (Nat.le_trans (setCell_grown w2 B 3 (.slice (some ⟨g', 0, none⟩) (own.length + 1) cap')).size HF5.out.size))
  · have HV : Hid (numV own nm = atS nm own 0) := by unfold Hid numV; rw [if_neg hat]
    have HO : Hid (numO own nm = own) := by unfold Hid numO; rw [if_neg hat]
    have hf : numF own nm = some (atS nm own 0) := by unfold numF; rw [if_neg hat]
    rw [hf] at hlook
    clear hat hf
    generalize atS nm own 0 = x at *
    go_enter Tryz.func97, Tryz.ntmps97
    go_wp2_with fail
    go_ret
    exact ⟨by rw [HV.out]; rfl, ⟨v, by rw [HO.out]; exact H.out, fun g e => .inl e⟩, fun _ _ _ _ _ => rfl, Nat.le_refl _⟩
end
end Go.Proofs.YtdmdcggmgipdbaaGreatDoor.Ld
