/-
  What the proofs lean on, part 15 of 25.
-/
import Derived.Test.YtdmdcggmgipdbaaGreatDoorPj
import Derived.Test.YtdmdcggmgipdbaaGreatDoorPk
import Derived.Test.YtdmdcggmgipdbaaGreatDoorPn
import Derived.Maps.Own
import Derived.RegionTactic
namespace Go.Proofs.YtdmdcggmgipdbaaGreatDoor.Ld
open Go.RowKit Kit Rw
open Go.Proofs.YtdmdcggmgipdbaaGreatDoor.Sg (Sig Row)
open Go.Proofs.YtdmdcggmgipdbaaGreatDoor.Hs (Keys Ints BoxT)
open Go.Proofs.YtdmdcggmgipdbaaGreatDoor.Tm (Tm Store ofKey termAt LookB refOfB_any RowPost refBelow_any belowI belowL Made isPl isPl_iff castL Box4 zero4 four_q)
open Go.Proofs.YtdmdcggmgipdbaaGreatDoor.Ex (Ex cellsS nodeInfo own_slice right7_gen rightB)
def NodesPost (V : List Tg) (E : Int) (w : World) (e : Ending) (w' : World) : Prop := ∃ A c, e = .returned (.tuple #[.slice A V.length c, .int .i64 E]) ∧ Rds w' w'.heap.size A (cellsG V) ∧ Q w w'
def CutT (Bd : Nat) (W : World) (t : Tm) (p ok : Value) (wx : World) : Prop :=
  ∃ tb A1 c1, p = .pointer (some ⟨tb, 0, none⟩) ∧ ok = .bool true ∧ Box4 wx tb (.int .i64 t.k) (.int .i64 t.s) (.int .i64 t.p) (.slice A1 t.xs.length c1) ∧ W.heap.size ≤ tb ∧ Ints W Bd A1 t.xs ∧ Q W wx
set_option maxRecDepth 100000 in
set_option maxHeartbeats 8000000 in
theorem refNodes_any (R A S B : Option Addr) (nl cl n c m d nb cb : Nat) (L : List Sig) (ks : List (List Int)) (names : List ByteArray) (id : Int) (w : World) (hnl : nl = L.length) (hr : Row w w.heap.size R L) (hn : n = ks.length) (hk : Keys w w.heap.size A ks) (hnb : nb = names.length) (hN : Rds w w.heap.size B (cellsS names))
    (hS : Store L ks) (hl : ks.length ≤ 5000) (hxl : ∀ k ∈ ks, k.length ≤ 100000) (hL20 : ∀ s ∈ L, s.1.size ≤ 20) (hN20 : ∀ a ∈ names, a.size ≤ 20) (hl8 : ∀ s ∈ L, s.2.size ≤ 8) :
    Calls Tryz.prog 14 #[.slice R nl cl, .agg #[.slice A n c, .slice S m d], .slice B nb cb, .int .i64 id] w (NodesPost (nodesV L names ks id) (nodesE L names ks id) w) := by
  subst hnl hn hnb
  obtain ⟨i0, hi, hz0, hz1, hz2⟩ := info_parts nodeInfo
  have Hi := Lib.hid hi
  have Hz0 := Lib.hid hz0
  have Hz1 := Lib.hid hz1
  have Hz2 := Lib.hid hz2
  clear hi hz0 hz1 hz2
  have q0 := (Q.refl w).alloc (Obj.cells #[Value.slice A ks.length c, Value.slice S m d] 26)
  have HK := Lib.hid (hk.q (Nat.le_refl _) q0)
  have HR := Lib.hid (hr.q (Nat.le_refl _) q0)
  have HN := Lib.hid (hN.q q0)
  have HT := Lib.hid (BoxT.new w (Value.slice A ks.length c) (Value.slice S m d) 26)
  have HS := Lib.hid hS
  have HX := Lib.hid hxl
  have HQ0 := Lib.hid q0
  clear hk hS hxl q0 hr hN
  by_cases hp : isPl id ks.length = true
  · obtain ⟨p0, p1⟩ := (isPl_iff _ _).1 hp
    obtain ⟨i, rfl⟩ := Int.eq_ofNat_of_zero_le p0
    have hil : i < ks.length := by omega
    have CB := Lib.hid (fun (W : World) (q : Q (w.alloc (Obj.cells #[Value.slice A ks.length c, Value.slice S m d] 26)) W) => refBelow_any A S ks.length c m d L ks (i : Int) W rfl ((HK.out.q (by simp) q).more (Nat.le_trans HQ0.out.size q.size)) HS.out hl HX.out)
    unfold belowI at CB
    rw [hp, if_pos rfl, Int.toNat_natCast] at CB
    obtain ⟨bl, hbl, hso, hmem⟩ := below_sorted ks i
    rw [hbl] at CB
    have hself : i ∈ bl := (hmem i).2 .self
    have hpos : 0 < bl.length := List.length_pos_of_mem hself
    have hall : varsB names ks i = (castL bl).all (varB names ks) := by unfold varsB; rw [hbl]
    have HV := Lib.hid hall
    have HBL := Lib.hid hbl
    have HSO := Lib.hid hso
    have HM := Lib.hid hmem
    have HE : Hid (nodesE L names ks (i : Int) = if varsB names ks i = true then if 300 < (exP L names ks i).size then 7 else if rightB (exP L names ks i).nodes = true then 0 else 7 else 1) := by
      unfold Hid nodesE
      rw [if_pos hp, Int.toNat_natCast]
    have n0 : ((bl.length : Int) == 0) = false := beq_eq_false_iff_ne.2 (by omega)
    have hblen : bl.length ≤ 5000 := by
      have h1 := List.Pairwise.imp (S := fun a b : Nat => a ≠ b) (fun h => by omega) hso
      have h2 : bl ⊆ List.range (i + 1) := fun y hy => List.mem_range.2 (by have := Made.le ((hmem y).1 hy); omega)
      have h3 := (List.nodup_iff_pairwise_ne.2 h1).length_le_of_subset h2
      rw [List.length_range] at h3
      omega
    clear hall hbl hso hmem p0 p1 hp
    go_enter Tryz.func14, Tryz.ntmps14
    go_wp2_with fail
    generalize w.alloc (Obj.cells #[Value.slice A ks.length c, Value.slice S m d] 26) = W0 at *
    refine (CB.out _ (Q.refl _)).mono ?_
    rintro e w1 ⟨A1, c1, rfl, hi1, q1⟩
    rw [castL_len]
    have HI1 := Lib.hid hi1
    have HQ1 := Lib.hid q1
    clear hi1 q1 CB
    go_wp2_with fail
    go_loopw [11] (fun iv wr => ∃ k : Nat, k ≤ bl.length ∧ iv = .int .i64 k ∧ Hid (varsB names ks i = ((castL bl).drop k).all (varB names ks)) ∧ Hid (Q w1 wr)) (fun iv _ => bl.length - (intOf iv).toNat)
    case atStart => exact ⟨0, Nat.zero_le _, rfl, Lib.hid (by rw [HV.out]; simp), Q.refl _⟩
    case round =>
      obtain ⟨k, hk, rfl, HD, HQ⟩ := hrel
      by_cases hlt : k < bl.length
      · obtain ⟨ad, rfl, hadb, hy0⟩ := (HI1.out.q (Nat.le_refl _) HQ.out).at_ (k := k) (by rw [castL_len]; exact hlt)
        rw [castL_at hlt] at hy0
        have hyM := (HM.out bl[k]).1 (List.getElem_mem hlt)
        have hyl := hyM.le
        have hyk : bl[k] < ks.length := by omega
        have HTn := Lib.hid (termAt_ok HS.out hyk)
        have HD2 : Hid (varsB names ks i = (varB names ks (bl[k] : Int) && ((castL bl).drop (k + 1)).all (varB names ks))) := by
          have e := List.drop_eq_getElem_cons (l := castL bl) (i := k) (by rw [castL_len]; exact hlt)
          have := HD.out
          rw [e, castL_at hlt] at this
          exact this
        have hvb : varB names ks (bl[k] : Int) = !((tmP ks bl[k]).k == 2 && decide ((names.length : Int) ≤ (tmP ks bl[k]).s)) := by unfold varB; rw [Int.toNat_natCast]
        generalize bl[k] = y at *
        generalize tmP ks y = t at *
        rw [hvb] at HD2
        have qr := HQ1.out.trans HQ.out
        have b0 := (HT.out.q qr).c0
        have b1 := (HT.out.q qr).c1
        have hbl := (HT.out.q qr).lt
        have hyc := hy0
        have hady : (ad.add k).block < wr.heap.size := by rw [Rw.add_block]; exact Nat.lt_of_lt_of_le hadb HQ.out.size
        have HBk : w.heap.size ≤ wr.heap.size := Nat.le_trans HQ0.out.size qr.size
        have HCO : Hid (∀ U, Q wr U → Calls Tryz.prog 39 #[.agg #[.slice A ks.length c, .slice S m d], .int .i64 (y : Int)] U (LookB w.heap.size ks (y : Int) U)) := fun U p => refOfB_any w.heap.size _ _ _ _ _ _ ks y U rfl (HK.out.keep ((qr.trans p).mono HQ0.out.size)) (Nat.le_trans HQ0.out.size (qr.trans p).size)
        clear hy0 HD hvb
        go_wp2_with fail
        go_cut [12, 13] (CutT w.heap.size wr t)
        case first =>
          go_region_held3 (fun w' => w'.cell? ⟨w.heap.size, 0, none⟩ = some (.slice A ks.length c) ∧ w'.cell? ⟨w.heap.size, 1, none⟩ = some (.slice S m d) ∧ w'.cell? (ad.add k) = some (.int .i64 (y : Int)))
            (first
              | (with_reducible exact ⟨((four_q p3 _ _ _ _).cell (p := ⟨w.heap.size, 0, none⟩) hbl).trans b0, ((four_q p3 _ _ _ _).cell (p := ⟨w.heap.size, 1, none⟩) hbl).trans b1, ((four_q p3 _ _ _ _).cell (p := (ad.add k)) hady).trans hyc⟩)
              | (with_reducible exact ⟨((p3.alloc _).cell (p := ⟨w.heap.size, 0, none⟩) hbl).trans b0, ((p3.alloc _).cell (p := ⟨w.heap.size, 1, none⟩) hbl).trans b1, ((p3.alloc _).cell (p := (ad.add k)) hady).trans hyc⟩)
              | (with_reducible exact ⟨(p3.cell (p := ⟨w.heap.size, 0, none⟩) hbl).trans b0, (p3.cell (p := ⟨w.heap.size, 1, none⟩) hbl).trans b1, (p3.cell (p := (ad.add k)) hady).trans hyc⟩)
              | go_keep)
            (first
              | (go_at_call 39; refine (HCO.out _ (by first | exact (Q.refl wr).drew | exact (Q.refl wr).drew.alloc _ | exact ((Q.refl wr).alloc _).drew)).mono ?_; rintro e w3 ⟨A3, N, c3, rfl, hN, hA3, q3⟩; rw [HTn.out] at hN hA3 ⊢; simp only [Option.getD_some, Option.isSome_some] at hN hA3 ⊢; subst hN; have HA3 := Lib.hid hA3; clear hA3; have p3 : Q wr w3 := (by first | exact (Q.refl wr).drew.trans q3 | exact ((Q.refl wr).drew.alloc _).trans q3 | exact ((Q.refl wr).alloc _).drew.trans q3); (first | (have bx : Box4 w3 wr.heap.size (.int .i64 0) (.int .i64 0) (.int .i64 0) (.slice none 0 0) := (by first | exact (zero4 wr.drew).q q3 | exact (zero4 wr).q q3); have y0 := bx.c0; have y1 := bx.c1; have y2 := bx.c2; have y3 := bx.c3; have z0 := bx.f0; have z1 := bx.f1; have z2 := bx.f2; have z3 := bx.f3) | skip)))
          · go_wp2_with fail
            go_meet
            exact ⟨w3.heap.size, A3, c3, rfl, rfl, Box4.new w3 _ _ _ _ _, p3.size, HA3.out.back (p3.mono HBk), p3.alloc _⟩
          · go_wp2_with fail
            go_meet
            exact ⟨wr.heap.size, A3, c3, rfl, rfl, bx.all _ _ _ _, Nat.le_refl _, HA3.out.back (p3.mono HBk), four_q p3 _ _ _ _⟩
        case rest =>
          obtain ⟨tb, A3, c3, rfl, rfl, HB4, htb, hA3, qc⟩ := hcut
          have t0 := HB4.c0
          have t1 := HB4.c1
          have t2 := HB4.c2
          have t3 := HB4.c3
          have HQc := Lib.hid (HQ.out.trans qc)
          clear HB4 hA3 HCO b0 b1 hyc
          by_cases h2 : t.k = 2
          · by_cases h3 : (names.length : Int) ≤ t.s
            · have d2 : (t.k == 2) = true := beq_iff_eq.2 h2
              have d3 : decide ((names.length : Int) ≤ t.s) = true := decide_eq_true h3
              rw [d2, d3] at HD2
              have HE1 : Hid (nodesE L names ks (i : Int) = 1) := by
                unfold Hid
                rw [HE.out, HD2.out]; rfl
              have HV1 : Hid (nodesV L names ks (i : Int) = []) := by
                unfold Hid nodesV
                rw [HE1.out, if_neg (by omega)]
              clear h2 h3
              go_wp2_with fail
              go_ret2
              exact ⟨none, 0, by rw [HE1.out, HV1.out]; rfl, by rw [HV1.out]; exact Rds.nil _ _ _, HQ0.out.trans (HQ1.out.trans HQc.out)⟩
            · have d2 : (t.k == 2) = true := beq_iff_eq.2 h2
              have d3 : decide ((names.length : Int) ≤ t.s) = false := decide_eq_false h3
              rw [d2, d3] at HD2
              have HD3 : Hid (varsB names ks i = ((castL bl).drop (k + 1)).all (varB names ks)) := by
                unfold Hid
                rw [HD2.out]; rfl
              clear h2 h3 HD2
              go_wp2_with fail
              go_roundw
              case rel => exact ⟨k + 1, by omega, by go_num, HD3, HQc⟩
              case measure => simp [intOf]; omega
          · have d2 : (t.k == 2) = false := beq_eq_false_iff_ne.2 h2
            rw [d2] at HD2
            have HD3 : Hid (varsB names ks i = ((castL bl).drop (k + 1)).all (varB names ks)) := by
              unfold Hid
              rw [HD2.out]; rfl
            clear h2 HD2
            go_wp2_with fail
            go_roundw
            case rel => exact ⟨k + 1, by omega, by go_num, HD3, HQc⟩
            case measure => simp [intOf]; omega
      · have hkx : k = bl.length := by omega
        have hv : varsB names ks i = true := by
          have := HD.out
          rw [List.drop_of_length_le (by rw [castL_len]; omega)] at this
          simpa using this
        have HVI := Lib.hid (varsB_iff.1 hv)
        have HE2 : Hid (nodesE L names ks (i : Int) = if 300 < szP ks i then 7 else if rightB (exP L names ks i).nodes = true then 0 else 7) := by
          unfold Hid
          rw [HE.out, if_pos hv, size_any]
        have qr := HQ1.out.trans HQ.out
        have CS := Lib.hid (refSize_any A S ks.length c m d L ks i wr rfl ((HK.out.q HQ0.out.size qr).more (Nat.le_trans HQ0.out.size qr.size)) HS.out hil hl HX.out)
        have HQr := Lib.hid (HQ0.out.trans qr)
        have b0 := (HT.out.q qr).c0
        have b1 := (HT.out.q qr).c1
        clear hv HD HE hkx qr
        go_wp2_with fail
        refine CS.out.mono ?_
        rintro e w2 ⟨A2, c2, rfl, hi2, q2⟩
        obtain ⟨ad2, rfl, ad2b, hs0⟩ := hi2.at_ (k := i) (by rw [sizesF_len]; omega)
        rw [sizesF_at ks (i + 1) i (by omega)] at hs0
        rw [sizesF_len]
        have HQ2 := Lib.hid (HQr.out.trans q2)
        have HQ12 := Lib.hid (HQ.out.trans q2)
        have HQ02 := Lib.hid (HQ1.out.trans HQ12.out)
        clear hi2 q2 CS b0 b1 HQ hlt hk
        by_cases h3 : 300 < szP ks i
        · have hm : (300 : Int) < (mz ks i : Int) := by unfold mz; omega
          have hE : nodesE L names ks (i : Int) = 7 := by rw [HE2.out, if_pos h3]
          have HE1 := Lib.hid hE
          have HV1 : Hid (nodesV L names ks (i : Int) = []) := by
            unfold Hid nodesV
            rw [hE, if_neg (by omega)]
          clear hE h3
          go_wp2_with fail
          go_ret2
          exact ⟨none, 0, by rw [HE1.out, HV1.out]; rfl, by rw [HV1.out]; exact Rds.nil _ _ _, HQ2.out⟩
        · have hmz : mz ks i = szP ks i := by unfold mz; omega
          have hm : ¬ (300 : Int) < (mz ks i : Int) := by rw [hmz]; omega
          have h3' : szP ks i ≤ 300 := by omega
          have HE3 : Hid (nodesE L names ks (i : Int) = if rightB (exP L names ks i).nodes = true then 0 else 7) := by
            unfold Hid
            rw [HE2.out, if_neg h3]
          have hmk : ∀ u : World, (Instr.makeSlice 82 (.int .i64 ((i : Int) + 1)) (.int .i64 ((i : Int) + 1))).run Tryz.prog u = .ok (.slice (some ⟨u.heap.size, 0, none⟩) (i + 1) (i + 1)) (u.alloc (.cells (madeCells #[.slice none 0 0] (i + 1)) 33)) := fun u => by
            have := make_rows (i + 1) (by omega) u
            rwa [Int.natCast_add] at this
          generalize mz ks i = z at *
          have HTb0 := Lib.hid (Tab.made w2 (i + 1) 33 (ndV L names ks))
          have HQ3 := Lib.hid ((Q.refl w2).alloc (.cells (madeCells #[.slice none 0 0] (i + 1)) 33))
          have H9 : Hid (∀ k, (hk : k < bl.length) → At9 L names ks (bl.take k) i bl[k] (tmP ks bl[k])) := Lib.hid (fun k hk => at9 HS.out hl8 hil HVI.out HSO.out HM.out h3' hk)
          clear hmz h3 HE2 HVI hl8
          go_wp2_with fail
          generalize w2.alloc (.cells (madeCells #[.slice none 0 0] (i + 1)) 33) = w3 at *
          go_loopw [16] (fun iv wr => ∃ k : Nat, k ≤ bl.length ∧ iv = .int .i64 k ∧ Hid (Tab wr w2.heap.size (i + 1) (bl.take k) (ndV L names ks)) ∧ Hid (Q w2 wr)) (fun iv _ => bl.length - (intOf iv).toNat)
          case atStart => exact ⟨0, Nat.zero_le _, rfl, HTb0, HQ3⟩
          case round =>
            clear HTb0 HQ3 hs0 hm
            obtain ⟨k, hk, rfl, HTb, HQ⟩ := hrel
            by_cases hlt : k < bl.length
            · obtain ⟨ad, rfl, hadb, hy0⟩ := (HI1.out.q (Nat.le_refl _) (HQ12.out.trans HQ.out)).at_ (k := k) (by rw [castL_len]; exact hlt)
              rw [castL_at hlt] at hy0
              have hyM := (HM.out bl[k]).1 (List.getElem_mem hlt)
              have hyl := hyM.le
              have hyk : bl[k] < ks.length := by omega
              have HTn := Lib.hid (termAt_ok HS.out hyk)
              have H9k := Lib.hid (H9.out k hlt)
              have hxs : (tmP ks bl[k]).xs.length ≤ 100000 := by
                have h := HX.out ks[bl[k]] (List.getElem_mem hyk)
                rw [tmP_at hyk]
                unfold ofKey
                simp only [List.length_drop]
                omega
              have HTk : Hid (bl.take (k + 1) = bl.take k ++ [bl[k]]) := Lib.hid (by rw [List.take_succ_eq_append_getElem hlt])
              generalize bl[k] = y at *
              generalize tmP ks y = t at *
              have qr := HQ02.out.trans HQ.out
              have b0 := (HT.out.q qr).c0
              have b1 := (HT.out.q qr).c1
              have hbl := (HT.out.q qr).lt
              have hyc := hy0
              have hady : (ad.add k).block < wr.heap.size := by rw [Rw.add_block]; exact Nat.lt_of_lt_of_le hadb (HQ12.out.trans HQ.out).size
              have HBk : w.heap.size ≤ wr.heap.size := Nat.le_trans HQ0.out.size qr.size
              have HCO : Hid (∀ U, Q wr U → Calls Tryz.prog 39 #[.agg #[.slice A ks.length c, .slice S m d], .int .i64 (y : Int)] U (LookB w.heap.size ks (y : Int) U)) := fun U p => refOfB_any w.heap.size _ _ _ _ _ _ ks y U rfl (HK.out.keep ((qr.trans p).mono HQ0.out.size)) (Nat.le_trans HQ0.out.size (qr.trans p).size)
              clear hy0 hyM
              go_wp2_with fail
              go_cut [17, 18] (CutT w.heap.size wr t)
              case first =>
                go_region_held3 (fun w' => w'.cell? ⟨w.heap.size, 0, none⟩ = some (.slice A ks.length c) ∧ w'.cell? ⟨w.heap.size, 1, none⟩ = some (.slice S m d) ∧ w'.cell? (ad.add k) = some (.int .i64 (y : Int)))
                  (first
                    | (with_reducible exact ⟨((four_q p3 _ _ _ _).cell (p := ⟨w.heap.size, 0, none⟩) hbl).trans b0, ((four_q p3 _ _ _ _).cell (p := ⟨w.heap.size, 1, none⟩) hbl).trans b1, ((four_q p3 _ _ _ _).cell (p := (ad.add k)) hady).trans hyc⟩)
                    | (with_reducible exact ⟨((p3.alloc _).cell (p := ⟨w.heap.size, 0, none⟩) hbl).trans b0, ((p3.alloc _).cell (p := ⟨w.heap.size, 1, none⟩) hbl).trans b1, ((p3.alloc _).cell (p := (ad.add k)) hady).trans hyc⟩)
                    | (with_reducible exact ⟨(p3.cell (p := ⟨w.heap.size, 0, none⟩) hbl).trans b0, (p3.cell (p := ⟨w.heap.size, 1, none⟩) hbl).trans b1, (p3.cell (p := (ad.add k)) hady).trans hyc⟩)
                    | go_keep)
                  (first
                    | (go_at_call 39; refine (HCO.out _ (by first | exact (Q.refl wr).drew | exact (Q.refl wr).drew.alloc _ | exact ((Q.refl wr).alloc _).drew)).mono ?_; rintro e w3 ⟨A3, N, c3, rfl, hN, hA3, q3⟩; rw [HTn.out] at hN hA3 ⊢; simp only [Option.getD_some, Option.isSome_some] at hN hA3 ⊢; subst hN; have HA3 := Lib.hid hA3; clear hA3; have p3 : Q wr w3 := (by first | exact (Q.refl wr).drew.trans q3 | exact ((Q.refl wr).drew.alloc _).trans q3 | exact ((Q.refl wr).alloc _).drew.trans q3); (first | (have bx : Box4 w3 wr.heap.size (.int .i64 0) (.int .i64 0) (.int .i64 0) (.slice none 0 0) := (by first | exact (zero4 wr.drew).q q3 | exact (zero4 wr).q q3); have y0 := bx.c0; have y1 := bx.c1; have y2 := bx.c2; have y3 := bx.c3; have z0 := bx.f0; have z1 := bx.f1; have z2 := bx.f2; have z3 := bx.f3) | skip)))
                · go_wp2_with fail
                  go_meet
                  exact ⟨w3.heap.size, A3, c3, rfl, rfl, Box4.new w3 _ _ _ _ _, p3.size, HA3.out.back (p3.mono HBk), p3.alloc _⟩
                · go_wp2_with fail
                  go_meet
                  exact ⟨wr.heap.size, A3, c3, rfl, rfl, bx.all _ _ _ _, Nat.le_refl _, HA3.out.back (p3.mono HBk), four_q p3 _ _ _ _⟩
              case rest =>
                obtain ⟨tb, A3, c3, rfl, rfl, HB4, htb, hA3, qc⟩ := hcut
                have HB4' := Lib.hid HB4
                have HA3 := Lib.hid hA3
                have HTc := Lib.hid (HTb.out.q qc)
                have HQc := Lib.hid (HQ.out.trans qc)
                have HADY := Lib.hid hady
                have HYC := Lib.hid hyc
                have HGR := Lib.hid HTb.out.lt
                clear HB4 hA3 HCO b0 b1 hyc HTb hbl hady
                go_wp2_with fail
                go_loopw [19, 20] (fun u jv wx => ∃ (j : Nat) (P : List Tg) (v : Value), j ≤ t.xs.length ∧ jv = .int .i64 j ∧ v = u ∧ P.length ≤ 299 ∧ Hid (P = partsV L names ks (t.xs.take j)) ∧ Hid (wx.ownsRow wc.heap.size 67 3 v P.length (cellsG P)) ∧ Hid (Q wc wx)) (fun _ jv _ => t.xs.length - (intOf jv).toNat)
                case atStart => exact ⟨0, [], _, Nat.zero_le _, rfl, rfl, Nat.zero_le _, Lib.hid (by simp [partsV, Ex.nodesL]), Lib.hid (own_nil wc _ _ _), Lib.hid (Q.refl wc)⟩
                case round =>
                  obtain ⟨j, P, v, hj, rfl, rfl, hP, HP, HO, HQx⟩ := hrel
                  have hB := HB4'.out.q HQx.out
                  have t0 := hB.c0
                  have t1 := hB.c1
                  have t2 := hB.c2
                  have t3 := hB.c3
                  clear hB
                  by_cases hjl : j < t.xs.length
                  · obtain ⟨ad3, rfl, had3, hx0⟩ := (HA3.out.keep ((qc.trans HQx.out).mono HBk)).at_ hjl
                    obtain ⟨x0, x1, x2, x3⟩ := H9k.out.xs t.xs[j] (List.getElem_mem hjl)
                    obtain ⟨x, hx⟩ := Int.eq_ofNat_of_zero_le x0
                    have HPn : Hid (P ++ ndV L names ks x = partsV L names ks (t.xs.take (j + 1))) := by
                      unfold Hid
                      rw [List.take_succ_eq_append_getElem hjl, partsV_snoc, hx, Int.toNat_natCast, HP.out]; rfl
                    have hPl : (P ++ ndV L names ks x).length ≤ 299 := by
                      rw [HPn.out, partsV_len]
                      have := sumZ_take ks t.xs (j + 1)
                      have := H9k.out.sz
                      omega
                    rw [hx] at hx0
                    rw [hx, Int.toNat_natCast] at x1 x2 x3
                    obtain ⟨A4, c4, hy4, hr4⟩ := (HTc.out.q HQx.out).at_ x1
                    have HR4 := Lib.hid hr4.src
                    have hl4 : (ndV L names ks x).length ≤ 300 := by rw [ndV_len]; exact x3
                    have HD4 := Lib.hid (⟨hl4, hPl⟩ : (ndV L names ks x).length ≤ 300 ∧ (P ++ ndV L names ks x).length ≤ 299)
                    generalize ndV L names ks x = X at *
                    clear hx x0 x1 x3 hr4 HP hl4 hPl
                    go_wp2_with (at_builtin; refine wpList_append_src _ rfl (.tmp 86) (.tmp 94) _ rfl wc.heap.size 67 i0 _ 3 32 Tryz.underlying33 Hi.out Hz0.out Hz1.out Hz2.out rfl (by omega) v P.length (cellsG P) rfl HO.out A4 X.length c4 (cellsG X) rfl (cellsG_len X) HR4.out (cellsG_one X) (by have := HD4.out.1; unfold maxLen; omega) (by have := HD4.out.1; omega) HQx.out.size ?_; intro v' w' own' gr' _; have Own := Lib.hid own'; have HQ' : Hid (Q wc w') := Below.grown HQx.out gr' HQx.out.size (fun k e => (HO.out.lt k e).1); clear own' gr')
                    go_roundw
                    case rel => exact ⟨j + 1, P ++ X, v', by omega, by go_num, rfl, HD4.out.2, HPn, by rw [List.length_append, cellsG_append]; exact Own, HQ'⟩
                    case measure => simp [intOf]; omega
                  · have hjx : j = t.xs.length := by omega
                    have HND : Hid (ndV L names ks y = P ++ [oneN L names t]) := by
                      unfold Hid
                      rw [H9k.out.nd, HP.out, List.take_of_length_le (by omega)]
                    have hyc : wc.cell? (ad.add k) = some (.int .i64 (y : Int)) := (qc.cell (p := ad.add k) HADY.out).trans HYC.out
                    have hQ0 : Q W0 wr := HQ02.out.trans (HQc.out.trans HQx.out)
                    have C1 := Lib.hid (fun (W : World) (q : Q wr W) => refOne_any R B A3 L.length cl names.length cb t.xs.length c3 L names t W rfl ((HR.out.q HQ0.out.size (hQ0.trans q)).more (Nat.le_trans HQ0.out.size (hQ0.trans q).size)) rfl (HN.out.q (hQ0.trans q)) rfl H9k.out.c2 H9k.out.c3 H9k.out.c6)
                    have hg : w2.heap.size < wc.heap.size := HTc.out.lt
                    have hgt : w2.heap.size ≠ tb := Nat.ne_of_lt (Nat.lt_of_lt_of_le HGR.out htb)
                    have hga : (ad.add k).block ≠ w2.heap.size := by rw [Rw.add_block]; exact Nat.ne_of_lt (Nat.lt_of_lt_of_le hadb HQ12.out.size)
                    have hadl : (ad.add k).block < wc.heap.size := Nat.lt_of_lt_of_le HADY.out qc.size
                    have hl1 : (y : Int) < (i : Int) + 1 := by omega
                    have hl0 : (0 : Int) ≤ (y : Int) := by omega
                    have hyi : y < i + 1 := by omega
                    have HSc : Hid (∀ W, Q wc W → W.cell? (ad.add k) = some (.int .i64 (y : Int)) ∧ W.cell? ⟨tb, 0, none⟩ = some (.int .i64 t.k) ∧ W.cell? ⟨tb, 1, none⟩ = some (.int .i64 t.s) ∧ W.cell? ⟨tb, 2, none⟩ = some (.int .i64 t.p) ∧ W.cell? ⟨tb, 3, none⟩ = some (.slice A3 t.xs.length c3)) := fun W q => ⟨(q.cell (p := ad.add k) hadl).trans hyc, (HB4'.out.q q).c0, (HB4'.out.q q).c1, (HB4'.out.q q).c2, (HB4'.out.q q).c3⟩
                    have HS0 : Hid (∀ W, Q wr W → W.cell? (ad.add k) = some (.int .i64 (y : Int)) ∧ W.cell? ⟨tb, 0, none⟩ = some (.int .i64 t.k) ∧ W.cell? ⟨tb, 1, none⟩ = some (.int .i64 t.s) ∧ W.cell? ⟨tb, 2, none⟩ = some (.int .i64 t.p) ∧ W.cell? ⟨tb, 3, none⟩ = some (.slice A3 t.xs.length c3)) := fun W q => HSc.out W (HQx.out.trans q)
                    have HS1 : Hid (∀ W v, Q wc W → (W.setCell ⟨w2.heap.size, y, none⟩ v).cell? (ad.add k) = some (.int .i64 (y : Int)) ∧ (W.setCell ⟨w2.heap.size, y, none⟩ v).cell? ⟨tb, 0, none⟩ = some (.int .i64 t.k) ∧ (W.setCell ⟨w2.heap.size, y, none⟩ v).cell? ⟨tb, 1, none⟩ = some (.int .i64 t.s) ∧ (W.setCell ⟨w2.heap.size, y, none⟩ v).cell? ⟨tb, 2, none⟩ = some (.int .i64 t.p) ∧ (W.setCell ⟨w2.heap.size, y, none⟩ v).cell? ⟨tb, 3, none⟩ = some (.slice A3 t.xs.length c3)) := fun W v q => by
                      obtain ⟨e0, e1, e2, e3, e4⟩ := HSc.out W q
                      exact ⟨(World.cell?_setCell_far _ _ _ _ (fun e => hga e.symm)).trans e0, (World.cell?_setCell_far _ _ _ _ hgt).trans e1, (World.cell?_setCell_far _ _ _ _ hgt).trans e2, (World.cell?_setCell_far _ _ _ _ hgt).trans e3, (World.cell?_setCell_far _ _ _ _ hgt).trans e4⟩
                    generalize oneN L names t = o at *
                    clear HP hjx hyc hQ0 hga hgt hadl hadb
                    go_wp2_with fail
                    refine wp_region_held_drew (S := fun w' => w'.cell? (ad.add k) = some (.int .i64 (y : Int)) ∧ w'.cell? ⟨tb, 0, none⟩ = some (.int .i64 t.k) ∧ w'.cell? ⟨tb, 1, none⟩ = some (.int .i64 t.s) ∧ w'.cell? ⟨tb, 2, none⟩ = some (.int .i64 t.p) ∧ w'.cell? ⟨tb, 3, none⟩ = some (.slice A3 t.xs.length c3)) (by kernel_rfl) ?_ (fun hHeld => ?_)
                    · exact HS0.out _ (Q.refl wr).drew
                    refine take_w (i := 0) (d := some 96) (v := ?_) rfl (by kernel_rfl) (by kernel_rfl) (by kernel_rfl) (fun _ _ _ h => h) rfl (by rfl) ?_ (by assumption) ?_
                    rotate_left
                    · (intro w hSw; (try dsimp only at hSw); go_simp; (try with_reducible rfl))
                    try simp only [Act.put, List.setIfInBounds_toArray, List.set_cons_zero, List.set_cons_succ]
                    refine take_w (i := 1) (d := some 97) (v := ?_) rfl (by kernel_rfl) (by kernel_rfl) (by kernel_rfl) (fun _ _ _ h => h) rfl (by rfl) ?_ (by assumption) ?_
                    rotate_left
                    · (intro w hSw; (try dsimp only at hSw); go_simp; (try with_reducible rfl))
                    try simp only [Act.put, List.setIfInBounds_toArray, List.set_cons_zero, List.set_cons_succ]
                    refine take_w (i := 2) (d := some 98) (v := ?_) rfl (by kernel_rfl) (by kernel_rfl) (by kernel_rfl) (fun _ _ _ h => h) rfl (by rfl) ?_ (by assumption) ?_
                    rotate_left
                    · (intro w hSw; (try dsimp only at hSw); go_simp; (try with_reducible rfl))
                    try simp only [Act.put, List.setIfInBounds_toArray, List.set_cons_zero, List.set_cons_succ]
                    refine take_w (i := 3) (d := some 99) (v := ?_) rfl (by kernel_rfl) (by kernel_rfl) (by kernel_rfl) (fun _ _ _ h => h) rfl (by rfl) ?_ (by assumption) ?_
                    rotate_left
                    · (intro w hSw; (try dsimp only at hSw); go_simp; (try with_reducible rfl))
                    try simp only [Act.put, List.setIfInBounds_toArray, List.set_cons_zero, List.set_cons_succ]
                    refine take_w (i := 4) (d := some 100) (v := ?_) rfl (by kernel_rfl) (by kernel_rfl) (by kernel_rfl) (fun _ _ _ h => h) rfl (by rfl) ?_ (by assumption) ?_
                    rotate_left
                    · (intro w hSw; (try dsimp only at hSw); go_simp; (try with_reducible rfl))
                    try simp only [Act.put, List.setIfInBounds_toArray, List.set_cons_zero, List.set_cons_succ]
                    refine take_w (i := 5) (d := some 101) (v := ?_) rfl (by kernel_rfl) (by kernel_rfl) (by kernel_rfl) (fun _ _ _ h => h) rfl (by rfl) ?_ (by assumption) ?_
                    rotate_left
                    · (intro w hSw; (try dsimp only at hSw); go_simp; (try with_reducible rfl))
                    try simp only [Act.put, List.setIfInBounds_toArray, List.set_cons_zero, List.set_cons_succ]
                    refine take_w (i := 6) (d := some 102) (v := ?_) rfl (by kernel_rfl) (by kernel_rfl) (by kernel_rfl) (fun _ _ _ h => h) rfl (by rfl) ?_ (by assumption) ?_
                    rotate_left
                    · (intro w hSw; (try dsimp only at hSw); go_simp; (try with_reducible rfl))
                    try simp only [Act.put, List.setIfInBounds_toArray, List.set_cons_zero, List.set_cons_succ]
                    refine take_w (i := 7) (d := some 103) (v := ?_) rfl (by kernel_rfl) (by kernel_rfl) (by kernel_rfl) (fun _ _ _ h => h) rfl (by rfl) ?_ (by assumption) ?_
                    rotate_left
                    · (intro w hSw; (try dsimp only at hSw); go_simp; (try with_reducible rfl))
                    try simp only [Act.put, List.setIfInBounds_toArray, List.set_cons_zero, List.set_cons_succ]
                    refine take_w (i := 8) (d := some 104) (v := ?_) rfl (by kernel_rfl) (by kernel_rfl) (by kernel_rfl) (fun _ _ _ h => h) rfl (by rfl) ?_ (by assumption) ?_
                    rotate_left
                    · (intro w hSw; (try dsimp only at hSw); go_simp; (try with_reducible rfl))
                    try simp only [Act.put, List.setIfInBounds_toArray, List.set_cons_zero, List.set_cons_succ]
                    refine call_w (i := 9) rfl (by kernel_rfl) (by rfl) (fun K hK => ?_)
                    go_simp
                    go_at_call 41
                    refine (C1.out _ (Q.refl wr).drew).mono ?_
                    rintro e w4 ⟨rfl, q4⟩
                    have q4 := (Q.refl wr).drew.trans q4
                    refine hK.out _ _ ?_ (fun hHeld => ?_)
                    · exact HS0.out _ q4
                    clear hK K
                    try simp only [Act.put, List.setIfInBounds_toArray, List.set_cons_zero, List.set_cons_succ]
                    refine call_w (i := 10) rfl (by kernel_rfl) (by rfl) (fun K hK => ?_)
                    go_simp
                    refine hK.out _ _ ?_ (fun hHeld => ?_)
                    · exact HS0.out _ (q4.alloc _)
                    clear hK K
                    try simp only [Act.put, List.setIfInBounds_toArray, List.set_cons_zero, List.set_cons_succ]
                    refine call_w (i := 11) rfl (by kernel_rfl) (by rfl) (fun K hK => ?_)
                    have HSr : Hid (Src (w4.alloc (Obj.cells #[.int .i64 o.1, .string o.2.1, .int .i64 o.2.2] 67)) (some ⟨w4.heap.size, 0, none⟩) [.int .i64 o.1, .string o.2.1, .int .i64 o.2.2]) := src_alloc w4 _ _ _
                    have HO5 := Lib.hid (row_kept HO.out (q4.alloc (Obj.cells #[.int .i64 o.1, .string o.2.1, .int .i64 o.2.2] 67)) (Nat.le_refl _))
                    have Hq5 := Lib.hid (HQx.out.trans (q4.alloc (Obj.cells #[.int .i64 o.1, .string o.2.1, .int .i64 o.2.2] 67)))
                    refine wp_append_src _ (.tmp 101) (.tmp 106) _ rfl wc.heap.size 67 i0 _ 3 32 Tryz.underlying33 Hi.out Hz0.out Hz1.out Hz2.out rfl (by omega) v P.length (cellsG P) rfl HO5.out (some ⟨w4.heap.size, 0, none⟩) 1 1 [.int .i64 o.1, .string o.2.1, .int .i64 o.2.2] rfl rfl HSr.out (by simp [Value.oneCell']) (by unfold maxLen; omega) (by omega) Hq5.out.size ?_
                    intro v6 w6 own6 gr6 _
                    obtain ⟨g6, cap6, rfl⟩ := Ex.own_slice own6 (by omega)
                    have Q6 : Hid (Q wc w6) := Below.grown Hq5.out gr6 Hq5.out.size (fun k e => (HO5.out.lt k e).1)
                    have S6 : w6.cell? (ad.add k) = some (.int .i64 (y : Int)) ∧ w6.cell? ⟨tb, 0, none⟩ = some (.int .i64 t.k) ∧ w6.cell? ⟨tb, 1, none⟩ = some (.int .i64 t.s) ∧ w6.cell? ⟨tb, 2, none⟩ = some (.int .i64 t.p) ∧ w6.cell? ⟨tb, 3, none⟩ = some (.slice A3 t.xs.length c3) := HSc.out _ Q6.out
                    have R6 : Hid (RowV w6 w2.heap.size (.slice (some ⟨g6, 0, none⟩) (P.length + 1) cap6) (ndV L names ks y)) := by rw [HND.out]; exact RowV.of_own (l := P ++ [o]) (by rw [cellsG_append]; exact own6) (by simp) hg
                    have T6 := Lib.hid (HTc.out.q Q6.out)
                    obtain ⟨f6, u6, k6⟩ := T6.out.thaw hyi
                    clear own6 gr6
                    refine hK.out _ _ ?_ (fun hHeld => ?_)
                    · exact S6
                    clear hK K
                    try simp only [Act.put, List.setIfInBounds_toArray]
                    refine take_w (i := 12) (d := some 108) (v := ?_) rfl (by kernel_rfl) (by kernel_rfl) (by kernel_rfl) (fun _ _ _ h => h) rfl (by rfl) ?_ (by assumption) ?_
                    rotate_left
                    · (intro w hSw; (try dsimp only at hSw); go_simp; (try with_reducible rfl))
                    try simp only [Act.put]
                    refine call_w (i := 13) rfl (by kernel_rfl) (by rfl) (fun K hK => ?_)
                    go_simp
                    refine hK.out _ _ ?_ (fun hHeld => ?_)
                    · exact HS1.out _ _ Q6.out
                    clear hK K
                    try simp only [Act.put, List.setIfInBounds_toArray, List.set_cons_zero, List.set_cons_succ]
                    refine wpAnyH_done (by kernel_rfl) ?_ _
                    have QX : Hid (Q w2 (w6.setCell ⟨w2.heap.size, y, none⟩ (.slice (some ⟨g6, 0, none⟩) (P.length + 1) cap6))) := (HQc.out.trans Q6.out).setCell (p := ⟨w2.heap.size, y, none⟩) (Nat.le_refl _) _
                    have TX : Hid (Tab (w6.setCell ⟨w2.heap.size, y, none⟩ (.slice (some ⟨g6, 0, none⟩) (P.length + 1) cap6)) w2.heap.size (i + 1) (bl.take (k + 1)) (ndV L names ks)) := by
                      rw [HTk.out]
                      exact T6.out.put hyi R6.out
                    clear T6 R6 Q6 S6 f6 k6
                    go_wp2_with fail
                    go_roundw
                    case rel => exact ⟨k + 1, by omega, by go_num, TX, QX⟩
                    case measure => simp [intOf]; omega
            · have hkx : k = bl.length := by omega
              obtain ⟨A5, c5, hy5, hr5⟩ := HTb.out.at_ (y := i) (by rw [hkx, List.take_length]; exact hself)
              have hnl : (ndV L names ks i).length ≤ 300 := by rw [ndV_len]; exact h3'
              have hsm : ∀ t ∈ ndV L names ks i, t.2.1.size ≤ 20 := nodes_small HS.out hL20 hN20 i hil
              have HR5 := Lib.hid hr5
              have CR := Lib.hid (right7_gen A5 _ c5 (ndV L names ks i) wr rfl hr5 (by omega) (by have := total_small _ hsm; omega) (fun t ht => by have := hsm t ht; omega))
              have HE4 : Hid (nodesE L names ks (i : Int) = if rightB (ndV L names ks i) = true then 0 else 7) := HE3
              have HVX : Hid (nodesV L names ks (i : Int) = if nodesE L names ks (i : Int) = 0 then ndV L names ks i else []) := by
                unfold Hid nodesV
                rw [Int.toNat_natCast]; rfl
              have HG5 := Lib.hid HTb.out.lt
              have qw := Lib.hid (HQ2.out.trans HQ.out)
              have hl1 : (i : Int) < (i : Int) + 1 := by omega
              generalize ndV L names ks i = X at *
              clear hr5 hnl hsm HTb H9 HE3 HQ hkx
              go_wp2_with fail
              refine CR.out.mono ?_
              rintro e w5 ⟨rfl, q5⟩
              have hy6 := (q5.cell (p := ⟨w2.heap.size, i, none⟩) HG5.out).trans hy5
              cases hrb : rightB X
              · rw [hrb] at HE4
                have hE : nodesE L names ks (i : Int) = 7 := HE4.out
                have HV1 : nodesV L names ks (i : Int) = [] := by rw [HVX.out, hE]; rfl
                have HE1 := Lib.hid hE
                have HV1 := Lib.hid HV1
                clear hE
                go_wp2_with fail
                go_ret2
                exact ⟨none, 0, by rw [HE1.out, HV1.out]; rfl, by rw [HV1.out]; exact Rds.nil _ _ _, qw.out.trans q5⟩
              · rw [hrb] at HE4
                have hE : nodesE L names ks (i : Int) = 0 := HE4.out
                have HV1 : nodesV L names ks (i : Int) = X := by rw [HVX.out, hE]; rfl
                have HE1 := Lib.hid hE
                have HV1 := Lib.hid HV1
                clear hE
                go_wp2_with fail
                go_ret2
                exact ⟨A5, c5, by rw [HE1.out, HV1.out]; rfl, by rw [HV1.out]; exact HR5.out.q q5, qw.out.trans q5⟩
  · have hp' : isPl id ks.length = false := by simpa using hp
    have CB := Lib.hid (refBelow_any A S ks.length c m d L ks id (w.alloc (Obj.cells #[Value.slice A ks.length c, Value.slice S m d] 26)) rfl ((HK.out.q HQ0.out.size (Q.refl _)).more HQ0.out.size) HS.out hl HX.out)
    unfold belowI at CB
    rw [hp', if_neg (by simp)] at CB
    have HE1 : Hid (nodesE L names ks id = 1) := by
      unfold Hid nodesE
      rw [hp', if_neg (by simp)]
    have HV1 : Hid (nodesV L names ks id = []) := by
      unfold Hid nodesV
      rw [HE1.out, if_neg (by omega)]
    clear hp hp'
    go_enter Tryz.func14, Tryz.ntmps14
    go_wp2_with fail
    refine CB.out.mono ?_
    rintro e w1 ⟨A1, c1, rfl, hi1, q1⟩
    go_wp2_with fail
    go_ret2
    exact ⟨none, 0, by rw [HE1.out, HV1.out]; rfl, by rw [HV1.out]; exact Rds.nil _ _ _, HQ0.out.trans q1⟩
end Go.Proofs.YtdmdcggmgipdbaaGreatDoor.Ld

namespace Go.Proofs.YtdmdcggmgipdbaaGreatDoor.Ex
open Go.RowKit Kit Nm Rw

theorem partsOf_any (t : Tg) (hm : mayN t = true) (w : World) :
    Calls Tryz.prog 87 #[.agg #[.int .i64 t.1, .string t.2.1, .int .i64 t.2.2]] w fun e w' => e = .returned (.int .i64 (np t : Int)) ∧ Q w w' := by
  obtain ⟨k, s, n⟩ := t
  have hp := (parts_nat hm).1
  have HP : Hid ((np (k, s, n) : Int) = if k = 6 then 1 else n) := by unfold Hid; rw [← hp]; rfl
  have H0 : Hid (k = 0 ∨ k = 1 ∨ k = 2 → n = 0) := by
    unfold Hid
    intro hk
    unfold mayN at hm
    simp only at hm
    by_cases h : k = 0 ∨ k = 1
    · rw [if_pos h] at hm
      simp only [Bool.and_eq_true, beq_iff_eq] at hm
      exact hm.2
    · rw [if_neg h, if_pos (by omega)] at hm
      simp only [Bool.and_eq_true, beq_iff_eq] at hm
      exact hm.2
  have H2 : Hid (k = 4 ∨ k = 5 → (np (k, s, n) : Int) = 2) := Lib.hid fun h => by rw [np_two hm h]; rfl
  have hk := may_kinds hm
  simp only at hk
  clear hp hm
  rcases hk with rfl | rfl | rfl | rfl | rfl | rfl | rfl
  all_goals
    go_enter Tryz.func87, Tryz.ntmps87
    go_wp2_with fail
    go_ret
    refine ⟨?_, (Q.refl _).alloc _⟩
  · rw [HP.out, if_neg (by decide), H0.out (by simp)]; rfl
  · rw [HP.out, if_neg (by decide), H0.out (by simp)]; rfl
  · rw [HP.out, if_neg (by decide), H0.out (by simp)]; rfl
  · rw [HP.out]; rfl
  · rw [H2.out (by simp)]; rfl
  · rw [H2.out (by simp)]; rfl
  · rw [HP.out]; rfl

/-- does a part of a node stand in brackets: the node's kind, the part's, and whether it is the last one -/
def inBr (nk pk : Int) (last : Bool) : Bool := if nk = 3 ∨ nk = 6 then true else if pk = 4 ∨ pk = 5 then last || (pk != nk) else false

set_option maxHeartbeats 1000000 in
theorem isIn_any (A S : Option Addr) (n c m d : Nat) (l : List Tg) (a p : Nat) (w : World) (hn : n = l.length) (hr : Rds w w.heap.size A (cellsG l)) (ha : a < l.length) (hp : p < l.length) (hl : l.length ≤ 1000000) :
    Calls Tryz.prog 73 #[.agg #[.slice A n c, .slice S m d], .int .i64 (a : Int), .int .i64 (p : Int)] w fun e w' => e = .returned (.bool (inBr l[a].1 l[p].1 (decide (p + 1 = a)))) ∧ Q w w' := by
  subst hn
  have hq := hr.q ((Q.refl w).alloc (Obj.cells #[Value.slice A l.length c, Value.slice S m d] 112))
  obtain ⟨ad, rfl, hb, c0, c1, c2⟩ := tok_at hq ha
  obtain ⟨ad', e', _, b0, b1, b2⟩ := tok_at hq hp
  injection e' with e'
  subst e'
  have q2 := (Q.refl (w.alloc (Obj.cells #[Value.slice (some ad) l.length c, Value.slice S m d] 112))).alloc (Obj.cells #[.int .i64 0, .string ⟨#[]⟩, .int .i64 0] 67)
  have c0' := (q2.cell (p := ad.add (a * 3)) (by rw [add_block]; exact hb)).trans c0
  have c1' := (q2.cell (p := ⟨(ad.add (a * 3)).block, (ad.add (a * 3)).off + 1, none⟩) (by show (ad.add (a * 3)).block < _; rw [add_block]; exact hb)).trans c1
  have c2' := (q2.cell (p := ⟨(ad.add (a * 3)).block, (ad.add (a * 3)).off + 2, none⟩) (by show (ad.add (a * 3)).block < _; rw [add_block]; exact hb)).trans c2
  have b0' := (q2.cell (p := ad.add (p * 3)) (by rw [add_block]; exact hb)).trans b0
  have q3 := (Q.refl (w.alloc (Obj.cells #[Value.slice (some ad) l.length c, Value.slice S m d] 112))).alloc (Obj.cells #[.int .i64 l[a].1, .string l[a].2.1, .int .i64 l[a].2.2] 67)
  have b0'' := (q3.cell (p := ad.add (p * 3)) (by rw [add_block]; exact hb)).trans b0
  clear hq hr hb b1 b2 q2 q3
  have HE : Hid (∀ nk pk : Int, ∀ b : Bool, (nk = 3 ∨ nk = 6 → inBr nk pk b = true) ∧ (¬ (nk = 3 ∨ nk = 6) → pk = 4 ∨ pk = 5 → inBr nk pk b = (b || (pk != nk))) ∧ (¬ (nk = 3 ∨ nk = 6) → ¬ (pk = 4 ∨ pk = 5) → inBr nk pk b = false)) := by
    intro nk pk b
    refine ⟨fun h => by unfold inBr; rw [if_pos h], fun h h' => by unfold inBr; rw [if_neg h, if_pos h'], fun h h' => by unfold inBr; rw [if_neg h, if_neg h']⟩
  have HS : Hid (decide ((p : Int) = (a : Int) - 1) = decide (p + 1 = a)) := by
    unfold Hid
    by_cases h : p + 1 = a
    · rw [decide_eq_true h, decide_eq_true (by omega)]
    · rw [decide_eq_false h, decide_eq_false (by omega)]
  generalize l[a].1 = nk at *
  generalize l[p].1 = pk at *
  by_cases h3 : nk = 3
  · have HR := Lib.hid ((HE.out nk pk (decide (p + 1 = a))).1 (.inl h3))
    have e3 : (nk == 3) = true := beq_iff_eq.2 h3
    clear h3
    go_enter Tryz.func73, Tryz.ntmps73
    go_wp2_with fail
    go_region
    all_goals go_wp2_with fail
    all_goals go_ret
    all_goals exact ⟨by rw [HR.out]; rfl, by first | exact (((Q.refl w).alloc _).alloc _).drew | exact ((((Q.refl w).alloc _).alloc _).drew).drew⟩
  by_cases h6 : nk = 6
  · have HR := Lib.hid ((HE.out nk pk (decide (p + 1 = a))).1 (.inr h6))
    have e3 : (nk == 3) = false := beq_eq_false_iff_ne.2 h3
    have e6 : (nk == 6) = true := beq_iff_eq.2 h6
    clear h3 h6
    go_enter Tryz.func73, Tryz.ntmps73
    go_wp2_with fail
    go_region
    all_goals go_wp2_with fail
    all_goals go_ret
    all_goals exact ⟨by rw [HR.out]; rfl, by first | exact (((Q.refl w).alloc _).alloc _).drew | exact ((((Q.refl w).alloc _).alloc _).drew).drew⟩
  have e3 : (nk == 3) = false := beq_eq_false_iff_ne.2 h3
  have e6 : (nk == 6) = false := beq_eq_false_iff_ne.2 h6
  have hno : ¬ (nk = 3 ∨ nk = 6) := by omega
  clear h3 h6
  by_cases h4 : pk = 4
  · have HR := Lib.hid ((HE.out nk pk (decide (p + 1 = a))).2.1 hno (.inl h4))
    have e4 : (pk == 4) = true := beq_iff_eq.2 h4
    rw [← HS.out] at HR
    clear h4 hno
    by_cases hs : (p : Int) = (a : Int) - 1
    · have e5 : ((p : Int) == (a : Int) - 1) = true := beq_iff_eq.2 hs
      have HR' : Hid (inBr nk pk (decide (p + 1 = a)) = true) := by unfold Hid; rw [← HS.out, HR.out, decide_eq_true hs, Bool.true_or]
      clear hs
      go_enter Tryz.func73, Tryz.ntmps73
      go_wp2_with fail
      go_region
      all_goals go_wp2_with fail
      all_goals go_ret
      all_goals exact ⟨by rw [HR'.out]; rfl, by first | exact (((Q.refl w).alloc _).alloc _).drew | exact ((((Q.refl w).alloc _).alloc _).drew).drew⟩
    · have e5 : ((p : Int) == (a : Int) - 1) = false := beq_eq_false_iff_ne.2 hs
      have HR' : Hid (inBr nk pk (decide (p + 1 = a)) = (pk != nk)) := by unfold Hid; rw [← HS.out, HR.out, decide_eq_false hs, Bool.false_or]
      clear hs
      go_enter Tryz.func73, Tryz.ntmps73
      go_wp2_with fail
      go_region
      all_goals go_wp2_with fail
      all_goals go_ret
      all_goals exact ⟨by rw [HR'.out]; rfl, by first | exact (((Q.refl w).alloc _).alloc _).drew | exact ((((Q.refl w).alloc _).alloc _).drew).drew⟩
  by_cases h5 : pk = 5
  · have HR := Lib.hid ((HE.out nk pk (decide (p + 1 = a))).2.1 hno (.inr h5))
    have e4 : (pk == 4) = false := beq_eq_false_iff_ne.2 h4
    have e45 : (pk == 5) = true := beq_iff_eq.2 h5
    rw [← HS.out] at HR
    clear h4 h5 hno
    by_cases hs : (p : Int) = (a : Int) - 1
    · have e5 : ((p : Int) == (a : Int) - 1) = true := beq_iff_eq.2 hs
      have HR' : Hid (inBr nk pk (decide (p + 1 = a)) = true) := by unfold Hid; rw [← HS.out, HR.out, decide_eq_true hs, Bool.true_or]
      clear hs
      go_enter Tryz.func73, Tryz.ntmps73
      go_wp2_with fail
      go_region
      all_goals go_wp2_with fail
      all_goals go_ret
      all_goals exact ⟨by rw [HR'.out]; rfl, by first | exact (((Q.refl w).alloc _).alloc _).drew | exact ((((Q.refl w).alloc _).alloc _).drew).drew⟩
    · have e5 : ((p : Int) == (a : Int) - 1) = false := beq_eq_false_iff_ne.2 hs
      have HR' : Hid (inBr nk pk (decide (p + 1 = a)) = (pk != nk)) := by unfold Hid; rw [← HS.out, HR.out, decide_eq_false hs, Bool.false_or]
      clear hs
      go_enter Tryz.func73, Tryz.ntmps73
      go_wp2_with fail
      go_region
      all_goals go_wp2_with fail
      all_goals go_ret
      all_goals exact ⟨by rw [HR'.out]; rfl, by first | exact (((Q.refl w).alloc _).alloc _).drew | exact ((((Q.refl w).alloc _).alloc _).drew).drew⟩
  · have HR := Lib.hid ((HE.out nk pk (decide (p + 1 = a))).2.2 hno (by omega))
    have e4 : (pk == 4) = false := beq_eq_false_iff_ne.2 h4
    have e45 : (pk == 5) = false := beq_eq_false_iff_ne.2 h5
    clear h4 h5 hno
    go_enter Tryz.func73, Tryz.ntmps73
    go_wp2_with fail
    go_region
    all_goals go_wp2_with fail
    all_goals go_ret
    all_goals exact ⟨by rw [HR.out]; rfl, by first | exact (((Q.refl w).alloc _).alloc _).drew | exact ((((Q.refl w).alloc _).alloc _).drew).drew⟩

set_option maxHeartbeats 1000000 in
theorem mayStand_any (t : Tg) (hm : mayN t = true) (w : World) :
    Calls Tryz.prog 71 #[.agg #[.int .i64 t.1, .string t.2.1, .int .i64 t.2.2]] w fun e w' => e = .returned (.bool true) ∧ Q w w' := by
  obtain ⟨k, s, n⟩ := t
  have hk := may_kinds hm
  have HM := Lib.hid hm
  clear hm
  simp only at hk
  have CC := Lib.hid (fun W : World => isCon_any s W)
  have CV := Lib.hid (fun W : World => isVar_any s W)
  have CP := Lib.hid (fun W : World => isPart_any n W)
  have emp : Hid (∀ b : Bool, (s.toList.isEmpty && b) = true → s = ⟨#[]⟩ ∧ b = true) := by
    intro b h
    rw [Bool.and_eq_true] at h
    refine ⟨?_, h.2⟩
    have := h.1
    rw [List.isEmpty_iff, ByteArray.toList_eq] at this
    exact ByteArray.ext (Array.toList_eq_nil_iff.1 this)
  have H01 : Hid (k = 0 ∨ k = 1 → s = ⟨#[]⟩ ∧ n = 0) := by
    intro h
    have hm := HM.out
    unfold mayN at hm
    rw [if_pos h] at hm
    obtain ⟨e1, e2⟩ := emp.out _ hm
    exact ⟨e1, by simpa using e2⟩
  have H2 : Hid (k = 2 → nameB 65 90 s.data.toList = true ∧ n = 0) := by
    intro h
    have hm := HM.out
    unfold mayN at hm
    rw [if_neg (by simp only; omega), if_pos h, Bool.and_eq_true] at hm
    exact ⟨hm.1, by simpa using hm.2⟩
  have H3 : Hid (k = 3 → nameB 97 122 s.data.toList = true ∧ (0 ≤ n ∧ n ≤ 8)) := by
    intro h
    have hm := HM.out
    unfold mayN at hm
    rw [if_neg (by simp only; omega), if_neg (by simp only; omega), if_pos h] at hm
    simpa using hm
  have H45 : Hid (k = 4 ∨ k = 5 → s = ⟨#[]⟩ ∧ n = 2) := by
    intro h
    have hm := HM.out
    unfold mayN at hm
    rw [if_neg (by simp only; omega), if_neg (by simp only; omega), if_neg (by simp only; omega), if_pos h] at hm
    obtain ⟨e1, e2⟩ := emp.out _ hm
    exact ⟨e1, by simpa using e2⟩
  have H6 : Hid (k = 6 → nameB 97 122 s.data.toList = true ∧ (1 ≤ n ∧ n ≤ 8)) := by
    intro h
    have hm := HM.out
    unfold mayN at hm
    rw [if_neg (by simp only; omega), if_neg (by simp only; omega), if_neg (by simp only; omega), if_neg (by simp only; omega), if_pos h] at hm
    simpa using hm
  clear HM emp
  rcases hk with rfl | rfl | rfl | rfl | rfl | rfl | rfl
  · obtain ⟨rfl, rfl⟩ := H01.out (by simp)
    go_enter Tryz.func71, Tryz.ntmps71
    go_wp2_with fail
    go_ret
    exact ⟨rfl, (Q.refl _).alloc _⟩
  · obtain ⟨rfl, rfl⟩ := H01.out (by simp)
    go_enter Tryz.func71, Tryz.ntmps71
    go_wp2_with fail
    go_ret
    exact ⟨rfl, (Q.refl _).alloc _⟩
  · obtain ⟨hv, rfl⟩ := H2.out rfl
    rw [hv] at CV
    clear hv
    go_enter Tryz.func71, Tryz.ntmps71
    go_wp2_with (go_at_call 30; refine (CV.out _).mono ?_; rintro e w1 ⟨rfl, q1⟩)
    go_ret
    exact ⟨rfl, ((Q.refl _).alloc _).trans q1⟩
  · obtain ⟨hc, h0, h8⟩ := H3.out rfl
    rw [hc] at CC
    have hp : ¬ n = 0 → partB n = true := fun h => by simp [partB]; omega
    clear hc
    by_cases hn : n = 0
    · subst hn
      go_enter Tryz.func71, Tryz.ntmps71
      go_wp2_with (go_at_call 89; refine (CC.out _).mono ?_; rintro e w1 ⟨rfl, q1⟩)
      go_ret
      exact ⟨rfl, ((Q.refl _).alloc _).trans q1⟩
    · rw [hp hn] at CP
      have en : (n == 0) = false := beq_eq_false_iff_ne.2 hn
      clear hp hn
      go_enter Tryz.func71, Tryz.ntmps71
      go_wp2_with (first | (go_at_call 89; refine (CC.out _).mono ?_; rintro e w1 ⟨rfl, q1⟩) | (go_at_call 88; refine (CP.out _).mono ?_; rintro e w1 ⟨rfl, rfl⟩))
      go_ret
      exact ⟨rfl, ((Q.refl _).alloc _).trans q1⟩
  · obtain ⟨rfl, rfl⟩ := H45.out (by simp)
    go_enter Tryz.func71, Tryz.ntmps71
    go_wp2_with fail
    go_ret
    exact ⟨rfl, (Q.refl _).alloc _⟩
  · obtain ⟨rfl, rfl⟩ := H45.out (by simp)
    go_enter Tryz.func71, Tryz.ntmps71
    go_wp2_with fail
    go_ret
    exact ⟨rfl, (Q.refl _).alloc _⟩
  · obtain ⟨hc, h0, h8⟩ := H6.out rfl
    have hp : partB n = true := by simp [partB]; omega
    rw [hc] at CC
    rw [hp] at CP
    clear hc hp
    go_enter Tryz.func71, Tryz.ntmps71
    go_wp2_with (first | (go_at_call 89; refine (CC.out _).mono ?_; rintro e w1 ⟨rfl, q1⟩) | (go_at_call 88; refine (CP.out _).mono ?_; rintro e w1 ⟨rfl, rfl⟩))
    go_ret
    exact ⟨rfl, ((Q.refl _).alloc _).trans q1⟩
end Go.Proofs.YtdmdcggmgipdbaaGreatDoor.Ex
