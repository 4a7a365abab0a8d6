/-
  LoadNames holds: the names of a loaded expression are its variables, behind those that were there. No conditions.
-/
import Derived.Test.YtdmdcggmgipdbaaGreatDoorPx
import Derived.Test.YtdmdcggmgipdbaaGreatDoorPy
import Derived.Test.YtdmdcggmgipdbaaGreatDoorRows
import Derived.OpenShut
import Derived.RegionTactic
namespace Go.Proofs.YtdmdcggmgipdbaaGreatDoor.loadNames
open Go.ChangeShapes Go.WideShapes Go.ChangeAt Go.RowKit Kit Rw Ld
open Go.Proofs.YtdmdcggmgipdbaaGreatDoor.Sg (Sig Row Sized)
open Go.Proofs.YtdmdcggmgipdbaaGreatDoor.Hs (Keys Ints BoxT layI)
open Go.Proofs.YtdmdcggmgipdbaaGreatDoor.Ex (cellsS total7 rightB mayN runS right_tree varsF atS)
theorem same9 (A A' : Option Addr) (c c' : Nat) (l : List Tg) (w : World) (hr : Rds w w.heap.size A (cellsG l)) (hr' : Rds w w.heap.size A' (cellsG l)) (hl : l.length ≤ 1000000) :
    Calls Tryz.prog 15 #[.slice A l.length c, .slice A' l.length c'] w fun e w' => e = .returned (.bool true) ∧ Q w w' := by
  have h := Ex.same7_any A A' l.length c l.length c' l l w rfl rfl hr hr' hl
  rw [(sameB_iff l l).2 rfl] at h
  refine h.mono ?_
  rintro e w' ⟨rfl, n, rfl⟩
  exact ⟨rfl, (Q.refl w).drewN n⟩
theorem lay_max (K : List (List Int)) (h : K.length ≤ 5000) : (layI K).length ≤ Go.maxLen := by
  have := Hs.sizeN_le K.length
  rw [Hs.layI_length]
  unfold Go.maxLen
  omega
theorem same_tab (A S A' S' : Option Addr) (c d c' d' : Nat) (K : List (List Int)) (w : World) (hk : Keys w w.heap.size A K) (hS : Ints w w.heap.size S (layI K)) (hk' : Keys w w.heap.size A' K) (hS' : Ints w w.heap.size S' (layI K)) (hl : K.length ≤ 5000) (hs : ∀ k ∈ K, k.length ≤ 100000) :
    Calls Tryz.prog 21 #[.agg #[.slice A K.length c, .slice S (layI K).length d], .agg #[.slice A' K.length c', .slice S' (layI K).length d']] w fun e w' => e = .returned (.bool true) ∧ Q w w' := by
  have h := Hs.refSame_any A S A' S' K.length c (layI K).length d K.length c' (layI K).length d' K K (layI K) (layI K) w rfl rfl rfl rfl hk hS hk' hS' (by unfold Go.maxLen; omega) (fun k hk => by have := hs k hk; unfold Go.maxLen; omega) (lay_max K hl)
  rw [tab_same] at h
  exact h
theorem same_names (A A' : Option Addr) (c c' : Nat) (N : List ByteArray) (w : World) (hr : Rds w w.heap.size A (cellsS N)) (hr' : Rds w w.heap.size A' (cellsS N)) (hl : N.length ≤ 1000000) :
    Calls Tryz.prog 22 #[.slice A N.length c, .slice A' N.length c'] w fun e w' => e = .returned (.bool true) ∧ Q w w' := by
  have h := Ex.texts8_any A A' N.length c N.length c' N N w rfl rfl hr hr' hl
  rw [(Ex.eqT_iff N N).2 rfl] at h
  exact h
structure RowAt (w : World) (R : Option Addr) (L : List Sig) : Prop where
  row : ∀ {w' : World}, Q w w' → Row w' w'.heap.size R L
theorem cellsS_one9 (l : List ByteArray) : ∀ v ∈ cellsS l, v.oneCell' = true := by
  intro v hv
  unfold Ex.cellsS at hv
  obtain ⟨a, _, rfl⟩ := List.mem_map.1 hv
  rfl
theorem lay8 : (layI Tm.first3).length = 8 := by rw [Hs.layI_length]; exact Tm.size2
set_option maxRecDepth 100000 in
set_option maxHeartbeats 8000000 in
theorem walk (R B T : Option Addr) (nl cl nb cb ne ce : Nat) (L : List Sig) (names : List ByteArray) (l : List Tg) (w : World) (hnl : nl = L.length) (hr : Row w w.heap.size R L) (hll : L.length ≤ maxLen) (hsz : Sized L) (hnb : nb = names.length) (hN : Rds w w.heap.size B (cellsS names))
    (hne : ne = l.length) (hE : Rds w w.heap.size T (cellsG l)) (hle : l.length ≤ 140737488355328) (hze : ∀ t ∈ l, t.2.1.size ≤ 140737488355328) :
    Calls Tryz.prog 7 #[.slice R nl cl, .slice B nb cb, .slice T ne ce] w fun e w' => e = .returned (.bool true) ∧ Q w w' := by
  subst hnl hnb hne
  obtain ⟨i0, hi, hi0, hi1, hi2⟩ := info_parts Ex.strInfo
  have Hi := Lib.hid hi
  have Hz0 := Lib.hid hi0
  have Hz1 := Lib.hid hi1
  have Hz2 := Lib.hid hi2
  clear hi hi0 hi1 hi2
  have HRw : Hid (RowAt w R L) := ⟨fun q => (hr.q (Nat.le_refl _) q).more q.size⟩
  have HN := Lib.hid hN
  have HL := Lib.hid hE
  have HSz := Lib.hid hsz
  have HZe := Lib.hid hze
  clear hr hN hE hsz hze
  go_enter Tryz.func7, Tryz.ntmps7
  go_wp2_with fail
  refine (shown9_any _).mono ?_
  rintro e w1 ⟨rfl, q1⟩
  have Q1 := Lib.hid q1
  clear q1
  go_wp2_with fail
  refine (refNew_any _).mono ?_
  rintro e w2 ⟨A2, c2, S2, d2, rfl, hk2, hs2, q2⟩
  have Q2 := Lib.hid (Q1.out.trans q2)
  have CO := Lib.hid (of9_any R A2 S2 B L.length cl 2 c2 8 d2 names.length cb L Tm.first3 (layI Tm.first3) names w2 rfl (HRw.out.row Q2.out) rfl lay8.symm hk2 hs2 rfl (HN.out.q Q2.out) hll HSz.out (by decide) (fun k hk => by have : k = [0, 0, 0] ∨ k = [1, 0, 0] := (by simpa [Tm.first3] using hk); rcases this with rfl | rfl <;> simp) (by rw [lay8]; decide))
  clear q2 hk2 hs2
  go_wp2_with fail
  refine CO.out.mono ?_
  rintro e w3 ⟨rfl, q3⟩
  have Q3 := Lib.hid (Q2.out.trans q3)
  clear q3 CO
  cases hof : of9B L Tm.first3 (layI Tm.first3) names
  · clear hof
    go_wp2_with fail
    go_ret
    exact ⟨rfl, Q3.out⟩
  · obtain ⟨hok, _⟩ := of9_sto hof
    have HOK := Lib.hid hok
    have hns : names.length ≤ 100 := by have := hok.nlen; omega
    have CF := Lib.hid (Ex.few7_any T l.length ce l w3 rfl (HL.out.q Q3.out) hle HZe.out)
    clear hof hok hll HSz
    go_wp2_with fail
    refine CF.out.mono ?_
    rintro e w4 ⟨rfl, q4⟩
    have Q4 := Lib.hid (Q3.out.trans q4)
    clear q4 CF
    by_cases hf : total7 l ≤ 600
    · have d6 : decide (total7 l ≤ 600) = true := decide_eq_true hf
      rw [d6]
      have CR := Lib.hid (Ex.right7_any T l.length ce l w4 rfl (HL.out.q Q4.out) hf)
      go_wp2_with fail
      refine CR.out.mono ?_
      rintro e w5 ⟨rfl, q5⟩
      have Q5 := Lib.hid (Q4.out.trans q5)
      clear q5 CR
      cases hrb : rightB l
      · clear hrb
        go_wp2_with fail
        go_ret
        exact ⟨rfl, Q5.out⟩
      · obtain ⟨hmay, x, hrun, hwf, hnd, hdp, htx, hpos⟩ := right_tree hrb
        have h600 : l.length ≤ 600 := Nat.le_trans (Ex.total7_ge l) hf
        have HM := Lib.hid hmay
        have HRun := Lib.hid hrun
        clear hmay hrun hwf hnd hrb hle HZe hdp htx hf hpos
        go_wp2_with fail
        refine (refNew_any _).mono ?_
        rintro e w6 ⟨A6, c6, S6, d6', rfl, hk6, hs6, q6⟩
        have Q6 := Lib.hid (Q5.out.trans q6)
        have CL := Lib.hid (load_any R A6 S6 B T L.length cl 2 c6 8 d6' names.length cb l.length ce L Tm.first3 names l x 5000 0 w6 rfl rfl lay8.symm rfl rfl ⟨HRw.out.row Q6.out, hk6, hs6, HN.out.q Q6.out⟩ HOK.out (by omega) (HL.out.q Q6.out) HM.out HRun.out h600)
        clear hk6 hs6 q6
        by_cases h0 : loadE L 5000 Tm.first3 names l = 0
        · have hld := loaded HOK.out.store HOK.out.dst HOK.out.nms HM.out HRun.out h0
          have hok2 := hld.sto HOK.out
          have his := loadN_is h0
          rw [h0] at CL
          have hvl := Ex.varsF_len l []
          simp only [List.length_nil, Nat.zero_add] at hvl
          have HNM := Lib.hid hok2.named
          have hnn : (loadN L 5000 Tm.first3 names l).length ≤ 1000 := by have := hok2.nlen; omega
          have HIS := Lib.hid his
          clear hld hok2 h0 his
          generalize loadN L 5000 Tm.first3 names l = N at *
          generalize loadK L 5000 Tm.first3 names l = K at *
          generalize loadI L 5000 Tm.first3 names l = I at *
          go_wp2_with fail
          refine CL.out.mono ?_
          rintro e w7 ⟨A7, c7, S7, d7, B7, e7, rfl, hk7, hs7, hn7, q7⟩
          have q78 := (Q.refl w7).alloc (Obj.cells #[.slice A7 K.length c7, .slice S7 (layI K).length d7] 26)
          have HN8 := Lib.hid (hn7.q q78)
          have Q8 := Lib.hid (Q6.out.trans (q7.trans q78))
          have CV := Lib.hid (Ex.refVars_any T l.length ce l _ rfl (HL.out.q Q8.out) (by omega))
          clear hk7 hs7 hn7 q7 q78 CL
          go_wp2_with fail
          generalize w7.alloc (Obj.cells #[.slice A7 K.length c7, .slice S7 (layI K).length d7] 26) = w8 at *
          refine CV.out.mono ?_
          rintro e w9 ⟨v9, rfl, own9, q9⟩
          obtain ⟨A9, c9, rfl, _, hr9⟩ := own_read own9
          have HV9 := Lib.hid hr9
          have HN9 := Lib.hid (HN8.out.q q9)
          have Q9 := Lib.hid (Q8.out.trans q9)
          clear own9 hr9 q9 CV
          generalize varsF l [] = V at *
          have HE0 := Lib.hid (World.ownsRow_lit (base := w9.heap.size) (e := 9) (size := 1) w9 #[] 0 (Nat.le_refl _) (by unfold Go.maxLen; omega) rfl)
          have Q9a := (Q.refl w9).alloc (.cells #[] 9)
          have HQ9a := Lib.hid Q9a
          have HNa := Lib.hid (HN.out.q (Q9.out.trans Q9a)).src
          clear Q9a
          go_wp2_with (at_builtin; refine wpList_append_src _ rfl (.tmp 52) (.tmp 53) _ rfl w9.heap.size 9 i0 _ 1 16 Tryz.underlying27 Hi.out Hz0.out Hz1.out Hz2.out rfl (by omega) (.slice (some ⟨w9.heap.size, 0, none⟩) 0 0) 0 [] rfl HE0.out B names.length cb (cellsS names) rfl (by rw [Ex.cellsS_len]; omega) HNa.out (cellsS_one9 names) (by unfold maxLen; omega) (by omega) HQ9a.out.size ?_; intro va wa owna gra _; have OwnA := Lib.hid owna; have QA : Hid (Q w9 wa) := Below.grown HQ9a.out gra HQ9a.out.size (fun k e => (HE0.out.lt k e).1); clear owna gra)
          go_loopw [13, 14] (fun v iv wr => ∃ (k : Nat) (O : List ByteArray) (r : Value), k ≤ V.length ∧ iv = .int .i64 k ∧ r = v ∧ O.length ≤ 100 + k ∧ Hid (O = names ++ newN names (V.take k)) ∧ Hid (wr.ownsRow w9.heap.size 9 1 r O.length (cellsS O)) ∧ Hid (Q w9 wr)) (fun _ iv _ => V.length - (intOf iv).toNat)
          case atStart => exact ⟨0, names, _, Nat.zero_le _, rfl, rfl, by omega, Lib.hid (by simp [newN]), Lib.hid (by have := OwnA.out; rw [Nat.zero_add, List.nil_append] at this; exact this), QA⟩
          case round =>
            clear HE0 HQ9a HNa OwnA QA
            obtain ⟨k, O, r, hk, rfl, rfl, hO, HOe, HOw, HQ⟩ := hrel
            by_cases hlt : k < V.length
            · obtain ⟨ad, rfl, had, hc0⟩ := Ex.str_at (HV9.out.q HQ.out) hlt
              have CA := Lib.hid (Ex.at_any B names.length cb names V[k] wr rfl (HN.out.q (Q9.out.trans HQ.out)) (by omega))
              have HTk : Hid (V.take (k + 1) = V.take k ++ [V[k]]) := Lib.hid (by rw [List.take_succ_eq_append_getElem hlt])
              have HSn := Lib.hid (newN_snoc names (V.take k) V[k])
              generalize V[k] = s at *
              generalize hat : atS s names 0 = p at *
              by_cases hp : p < 0
              · have d0 : decide (p < 0) = true := decide_eq_true hp
                have HO2 : Hid (O ++ [s] = names ++ newN names (V.take (k + 1))) := by
                  unfold Hid
                  rw [HTk.out, HSn.out, if_pos hp, HOe.out, List.append_assoc]
                have HQE := Lib.hid (HQ.out.alloc (Obj.cells #[.string s] 9))
                have HOE := Lib.hid (row_kept HOw.out ((Q.refl wr).alloc (Obj.cells #[.string s] 9)) (Nat.le_refl _))
                have HSE := Lib.hid (src_alloc wr [.string s] 9 (0, 0))
                clear hat hp HSn HTk HOe HOw
                go_wp2_with (first
                  | (go_at_call 29; refine CA.out.mono ?_; rintro e wq ⟨rfl, rfl⟩)
                  | (at_builtin; refine wpList_append_src _ rfl (.tmp 68) (.tmp 73) _ rfl w9.heap.size 9 i0 _ 1 16 Tryz.underlying27 Hi.out Hz0.out Hz1.out Hz2.out rfl (by omega) r O.length (cellsS O) rfl HOE.out (some ⟨wr.heap.size, 0, none⟩) 1 1 [.string s] rfl rfl HSE.out (by simp [Value.oneCell']) (by unfold maxLen; omega) (by omega) HQE.out.size ?_; intro vb wb ownb grb _; have OwnB := Lib.hid ownb; have QB : Hid (Q w9 wb) := Below.grown HQE.out grb HQE.out.size (fun k e => (HOE.out.lt k e).1); clear ownb grb))
                go_roundw
                case rel => exact ⟨k + 1, O ++ [s], vb, by omega, by go_num, rfl, by simp; omega, HO2, by rw [List.length_append, Ex.cellsS_append]; exact OwnB, QB⟩
                case measure => simp [intOf]; omega
              · have d0 : decide (p < 0) = false := decide_eq_false hp
                have HO2 : Hid (O = names ++ newN names (V.take (k + 1))) := by
                  unfold Hid
                  rw [HTk.out, HSn.out, if_neg hp, List.append_nil]
                  exact HOe.out
                clear hat hp HSn HTk HOe
                go_wp2_with (first
                  | (go_at_call 29; refine CA.out.mono ?_; rintro e wq ⟨rfl, rfl⟩))
                go_roundw
                case rel => exact ⟨k + 1, O, r, by omega, by go_num, rfl, by omega, HO2, HOw, HQ⟩
                case measure => simp [intOf]; omega
            · have hON : O = N := by
                rw [HOe.out, HIS.out, List.take_of_length_le (by omega)]
              subst hON
              obtain ⟨AO, cO, rfl, _, hrO⟩ := own_read HOw.out
              have HRO := Lib.hid hrO
              have HNx := Lib.hid (HN9.out.q HQ.out)
              have CM := Lib.hid (fun (W : World) (q : Q wr W) => refNamed_any B7 O.length e7 O W rfl ((HN9.out.q HQ.out).q q) (by omega))
              rw [HNM.out] at CM
              clear hrO HOw
              go_wp2_with fail
              refine (same_names B7 AO e7 cO O wr HNx.out HRO.out (by omega)).mono ?_
              rintro e wx ⟨rfl, qx⟩
              have Rx := Lib.hid qx
              clear qx
              go_wp2_with fail
              refine (CM.out _ Rx.out).mono ?_
              rintro e wy ⟨rfl, qy⟩
              go_wp2_with fail
              go_ret
              exact ⟨by first | rfl | simp, Q9.out.trans (HQ.out.trans (Rx.out.trans qy))⟩
        · obtain ⟨e1, e2, e3⟩ := load_bad h0
          rw [e1, e2, e3] at CL
          have g0 : (loadE L 5000 Tm.first3 names l != 0) = true := bne_iff_ne.2 h0
          generalize loadE L 5000 Tm.first3 names l = E at *
          clear h0 e1 e2 e3
          go_wp2_with fail
          refine CL.out.mono ?_
          rintro e w7 ⟨A7, c7, S7, d7, B7, e7, rfl, hk7, hs7, hn7, q7⟩
          have q78 := (Q.refl w7).alloc (Obj.cells #[.slice A7 Tm.first3.length c7, .slice S7 (layI Tm.first3).length d7] 26)
          have HN8 := Lib.hid (hn7.q q78)
          have Q8 := Lib.hid (Q6.out.trans (q7.trans q78))
          clear hk7 hs7 hn7 q7 q78 CL
          go_wp2_with fail
          refine (same_names B7 B e7 cb names _ HN8.out (HN.out.q Q8.out) (by omega)).mono ?_
          rintro e w8 ⟨rfl, q8⟩
          go_wp2_with fail
          go_ret
          exact ⟨by first | rfl | simp, Q8.out.trans q8⟩
    · have d6 : decide (total7 l ≤ 600) = false := decide_eq_false hf
      rw [d6]
      clear hf
      go_wp2_with fail
      go_ret
      exact ⟨rfl, Q4.out⟩
theorem reads (os : Os) {H : Type} (enc : TypeId × Value → H) : ∃ places, DataW.whole enc Tryz.prog ((laidWorld os).forCall (fun _ _ => 0) ⟨#[], #[.slice none 0 0, .slice none 0 0, .slice none 0 0], []⟩).memory Tryz.f7.params.toList Rows.loadNamesSpec.vars false (#[.slice none 0 0, .slice none 0 0, .slice none 0 0] : Array Value).toList 8 = some ([.nil, .nil, .nil], [], places) :=
  ⟨[], by kernel_rfl⟩

set_option maxRecDepth 100000 in
theorem contract (H : Type) (enc : TypeId × Value → H) (W : World) (base : Nat) (args : Array Value) (ds gs : List (DataW H)) (before : List MemPlace)
    (hval : ∀ (j : Nat) t v, Tryz.f7.params[j]? = some t → args[j]? = some v → Value.okWide Tryz.prog W .any base t v)
    (hW : DataW.Whole enc Tryz.prog Tryz.f7.params.toList Rows.loadNamesSpec.vars false W args.toList ds gs before)
    (hsz0 : (DataW.weightsEach Tryz.prog (Tryz.f7.params.toList ++ Rows.loadNamesSpec.plain.varTypes Tryz.prog) (ds ++ gs)).all (· ≤ reachBytes) = true) :
    Calls Tryz.prog 7 args W fun e W' => ∃ v, e = .returned v ∧ Rows.loadNamesSpec.post enc Tryz.prog Tryz.f7 false true false false W args v W' := by
  have hW' := hW
  obtain ⟨p, q, hA0, hV, rfl, hfz, hnd⟩ := hW
  have hA : DataW.TrodAll enc Tryz.prog W 0 (fun _ => true) true Tryz.f7.params.toList args.toList ds p := hA0
  rw [Tryz.params7] at hA hval
  obtain ⟨v0, vs0, d0, ds0, p0, q0, hargs, rfl, rfl, h0, r0⟩ := trodAll_cons hA
  obtain ⟨v1, vs1, d1, ds1, p1, q1, rfl, rfl, rfl, h1, r1⟩ := trodAll_cons r0
  obtain ⟨v2, vs2, d2, ds2, p2, q2, rfl, rfl, rfl, h2, r2⟩ := trodAll_cons r1
  obtain ⟨rfl, rfl, rfl⟩ := trodAll_nil r2
  obtain rfl : args = #[v0, v1, v2] := by cases args; simp_all
  obtain ⟨rfl, rfl⟩ := trodVars_none hV
  have z0 : ∀ n ∈ d0.weights Tryz.prog 22, n ≤ reachBytes := fun n hn => by
    have := List.all_eq_true.1 hsz0 n (DataW.weights_mem_each (j := 0) (t := 22) (d := d0) (by rw [Tryz.params7]; rfl) rfl n hn)
    simpa using this
  have z1 : ∀ n ∈ d1.weights Tryz.prog 27, n ≤ reachBytes := fun n hn => by
    have := List.all_eq_true.1 hsz0 n (DataW.weights_mem_each (j := 1) (t := 27) (d := d1) (by rw [Tryz.params7]; rfl) rfl n hn)
    simpa using this
  have z2 : ∀ n ∈ d2.weights Tryz.prog 33, n ≤ reachBytes := fun n hn => by
    have := List.all_eq_true.1 hsz0 n (DataW.weights_mem_each (j := 2) (t := 33) (d := d2) (by rw [Tryz.params7]; rfl) rfl n hn)
    simpa using this
  clear hsz0
  obtain ⟨R, nl, cl, L, rfl, a1, a2, a3, a4, _⟩ := Sg.open_sigs (hval 0 22 v0 rfl rfl) h0
  obtain ⟨B, nb, cb, names, rfl, b1, b2, _⟩ := Ex.open_names (hval 1 27 v1 rfl rfl) h1
  obtain ⟨T, ne, ce, l, rfl, c1, c2, c3, _, c5⟩ := Ex.open_nodes (hval 2 33 v2 rfl rfl) h2 z2
  clear hA0
  refine (walk R B T nl cl nb cb ne ce L names l W a1 a2 a3 a4 b1 b2 c1 c2 c3 c5).mono fun e W' ⟨he, hg⟩ => ?_
  subst he
  exact ⟨_, rfl, post_law laid (by rw [Tryz.params7]; decide +kernel) rfl rfl (by kernel_rfl) Tryz.underlying4 hW' hg⟩

set_option maxRecDepth 100000 in
theorem lifted (os : Os) (started : os.Started) (H : Type) (enc : TypeId × Value → H) (F : Stop.Interp) :
    ReturnsInHanded {} Tryz.checked os 7 .any ((OpenSpec.ofChange Rows.loadNamesSpec).preRow enc Tryz.prog Tryz.f7 Rows.loadNamesRow.domain false Rows.loadNamesRow.laid) (((OpenSpec.ofChange Rows.loadNamesSpec).at F).post enc Tryz.prog Tryz.f7 false true false false) := by
  obtain ⟨places, hx⟩ := reads os enc
  refine returnsInHanded_of_row (C := Tryz.checked) (s := OpenSpec.ofChange Rows.loadNamesSpec) own started (by kernel_rfl) Tryz.func7
    (witness_row_at (enc := enc) (C := Tryz.checked) false (laidWorld os) #[.slice none 0 0, .slice none 0 0, .slice none 0 0] rfl (laid_vars os _) (by kernel_rfl) (by kernel_rfl)
      (OpenSpec.preRow_of_cond 8 hx (by kernel_rfl) (fun k hk => by cases hk) (by kernel_rfl) (laid_met os _))) ?_
  intro W base args ds gs before hval hW _ _ hsz _ _ _
  exact contract H enc W base args ds gs before hval hW hsz

theorem said : Rows.LoadNamesSaid :=
  OpenClaim.holds_of_cond 7 Tryz.f7 rfl rfl rfl rfl rfl rfl rfl ⟨rfl, rfl, rfl, rfl, rfl⟩ rfl rfl rfl rfl rfl (by kernel_rfl) Tryz.func7 (by kernel_rfl)
    (of_decide_eq_true (by kernel_rfl)) (by unfold Func.isWrapper; first | (rw [if_pos (by decide +kernel)]; kernel_rfl) | (rw [if_neg (by decide +kernel)]; exact ⟨rfl, rfl⟩))
    (fun os started H enc _ F => by rw [OpenClaim.pre_eq_preRow]; exact lifted os started H enc F)

theorem plain (f : FuncId) (fn : Func) (hf : Tryz.pinned.checked.prog.funcNamed "tammy/tammylaw09.LoadNames" = some f) (hfn : Tryz.pinned.checked.prog.funcs[f]? = some fn) :
    false = Tryz.pinned.checked.prog.looks [] ∧ ∀ (j : Nat) t, fn.params[j]? = some t → Tryz.pinned.checked.prog.wantsStandIn t = false := by
  obtain rfl : f = 7 := Option.some.inj ((show Tryz.prog.funcNamed "tammy/tammylaw09.LoadNames" = some 7 by kernel_rfl).symm.trans hf) |>.symm
  obtain rfl : fn = Tryz.f7 := (Option.some.inj (Tryz.func7.symm.trans hfn)).symm
  refine ⟨by kernel_rfl, fun j t ht => ?_⟩
  rw [Tryz.params7] at ht
  have hm := Array.mem_of_getElem? ht
  simp only [List.mem_toArray, List.mem_cons, List.not_mem_nil, or_false] at hm
  rcases hm with rfl | rfl | rfl
  · exact (show Tryz.prog.wantsStandIn 22 = false by kernel_rfl)
  · exact (show Tryz.prog.wantsStandIn 27 = false by kernel_rfl)
  · exact (show Tryz.prog.wantsStandIn 33 = false by kernel_rfl)

/-- THE STATEMENT: the tied card -/
theorem card : Rows.LoadNamesCardSaid :=
  Claim7.holds_tied_plain_at .later [] _ _ _ _ said (fun _ h => by cases h) (by kernel_rfl) (fun _ h => by cases h) loadNames_row_tie rfl ⟨rfl, rfl⟩ (by kernel_rfl) rfl plain (by kernel_rfl)
end Go.Proofs.YtdmdcggmgipdbaaGreatDoor.loadNames
