/-
  LoadTwo holds: an expression that is loaded behind another one has the same text as alone; both are where they were told to be. No conditions.
-/
import Derived.Test.YtdmdcggmgipdbaaGreatDoorPx
import Derived.Test.YtdmdcggmgipdbaaGreatDoorPy
import Derived.Test.YtdmdcggmgipdbaaGreatDoorRows
import Derived.OpenShut
import Derived.RegionTactic
namespace Go.Proofs.YtdmdcggmgipdbaaGreatDoor.loadTwo
open Go.ChangeShapes Go.WideShapes Go.ChangeAt Go.RowKit Kit Rw Ld
open Go.Proofs.YtdmdcggmgipdbaaGreatDoor.Sg (Sig Row Sized)
open Go.Proofs.YtdmdcggmgipdbaaGreatDoor.Hs (Keys Ints BoxT layI)
open Go.Proofs.YtdmdcggmgipdbaaGreatDoor.Ex (cellsS total7 rightB mayN runS right_tree)
theorem same9 (A A' : Option Addr) (c c' : Nat) (l : List Tg) (w : World) (hr : Rds w w.heap.size A (cellsG l)) (hr' : Rds w w.heap.size A' (cellsG l)) (hl : l.length ≤ 1000000) :
    Calls Tryz.prog 15 #[.slice A l.length c, .slice A' l.length c'] w fun e w' => e = .returned (.bool true) ∧ Q w w' := by
  have h := Ex.same7_any A A' l.length c l.length c' l l w rfl rfl hr hr' hl
  rw [(sameB_iff l l).2 rfl] at h
  refine h.mono ?_
  rintro e w' ⟨rfl, n, rfl⟩
  exact ⟨rfl, (Q.refl w).drewN n⟩
theorem load_sto {L : List Sig} {ks : List (List Int)} {names : List ByteArray} {limit : Int} {l : List Tg} {x : Ex.Ex} {b : Nat} (h : StoOk L ks names b) (hm : ∀ t ∈ l, mayN t = true) (hs : runS [] l = some [x]) :
    StoOk L (loadK L limit ks names l) (loadN L limit ks names l) (b + l.length) := by
  by_cases h0 : loadE L limit ks names l = 0
  · exact (loaded h.store h.dst h.nms hm hs h0).sto h
  · obtain ⟨e1, e2, _⟩ := load_bad h0
    rw [e1, e2]
    exact ⟨h.l64, h.sig, h.store, h.dst, h.nms, by have := h.klen; omega, by have := h.flat; omega, by have := h.nlen; omega⟩
/-- two loads without an error -/
theorem two_loads {L : List Sig} {K1 : List (List Int)} {N1 : List ByteArray} {ks : List (List Int)} {names : List ByteArray} {d l : List Tg} {x y : Ex.Ex} {b : Nat} (hok : StoOk L ks names b) (hd : runS [] d = some [x]) (hl : runS [] l = some [y]) (hmd : ∀ t ∈ d, mayN t = true) (hml : ∀ t ∈ l, mayN t = true)
    (hx : x.nodes = d) (hy : y.nodes = l) (wx : x.wf) (wy : y.wf) (rx : rightB d = true) (ry : rightB l = true) (h300 : d.length + l.length ≤ 300) (hK : loadK L 5000 ks names d = K1) (hN : loadN L 5000 ks names d = N1) (e1 : loadE L 5000 ks names d = 0) (e2 : loadE L 5000 K1 N1 l = 0) :
    textV L (loadN L 5000 K1 N1 l) (loadK L 5000 K1 N1 l) (loadI L 5000 ks names d) = x.text ∧ textV L (loadN L 5000 K1 N1 l) (loadK L 5000 K1 N1 l) (loadI L 5000 K1 N1 l) = y.text ∧ (loadI L 5000 ks names d = loadI L 5000 K1 N1 l ↔ d = l) := by
  subst hK hN
  have h1 := loaded hok.store hok.dst hok.nms hmd hd e1
  have o1 := h1.sto hok
  have h2 := loaded o1.store o1.dst o1.nms hml hl e2
  have o2 := h2.sto o1
  have r1 := h1.rep.mono h2.ok.pk h2.ok.po
  have r2 := h2.rep
  have mx : ∀ t ∈ x.nodes, mayN t = true := fun t ht => hmd t (by rw [← hx]; exact ht)
  have my : ∀ t ∈ y.nodes, mayN t = true := fun t ht => hml t (by rw [← hy]; exact ht)
  have n1 := nodes_rep o2.store wx mx (by rw [hx]; omega) (by rw [hx]; exact rx) r1
  have n2 := nodes_rep o2.store wy my (by rw [hy]; omega) (by rw [hy]; exact ry) r2
  refine ⟨n1.2.2.2, n2.2.2.2, fun h => ?_, fun h => ?_⟩
  · rw [h] at r1
    have := Rep.tree x y _ wx wy mx my r1 r2
    rw [← hx, ← hy, this]
  · subst h
    rw [hd] at hl
    injection hl with hl
    injection hl with hl
    subst hl
    exact Rep.place o2.store.dist o2.dst x _ _ r1 r2
structure RowAt (w : World) (R : Option Addr) (L : List Sig) : Prop where
  row : ∀ {w' : World}, Q w w' → Row w' w'.heap.size R L
set_option maxRecDepth 100000 in
set_option maxHeartbeats 8000000 in
theorem walk (R T E : Option Addr) (nl cl nt ct ne ce : Nat) (L : List Sig) (D l : List Tg) (w : World) (hnl : nl = L.length) (hr : Row w w.heap.size R L) (hll : L.length ≤ maxLen) (hsz : Sized L) (hnt : nt = D.length) (hD : Rds w w.heap.size T (cellsG D)) (hlt : D.length ≤ 140737488355328) (hzd : ∀ t ∈ D, t.2.1.size ≤ 140737488355328)
    (hne : ne = l.length) (hE : Rds w w.heap.size E (cellsG l)) (hle : l.length ≤ 140737488355328) (hze : ∀ t ∈ l, t.2.1.size ≤ 140737488355328) :
    Calls Tryz.prog 6 #[.slice R nl cl, .slice T nt ct, .slice E ne ce] w fun e w' => e = .returned (.bool true) ∧ Q w w' := by
  subst hnl hnt hne
  have HRw : Hid (RowAt w R L) := ⟨fun q => (hr.q (Nat.le_refl _) q).more q.size⟩
  have HLd := Lib.hid hD
  have HLe := Lib.hid hE
  have HSz := Lib.hid hsz
  have HZd := Lib.hid hzd
  have HZe := Lib.hid hze
  clear hr hD hE hsz hzd hze
  go_enter Tryz.func6, Tryz.ntmps6
  go_wp2_with fail
  refine (shown9_any _).mono ?_
  rintro e w1 ⟨rfl, q1⟩
  have Q1 := Lib.hid q1
  clear q1
  by_cases hc : 64 < L.length
  · have dc : decide ((64 : Int) < (L.length : Int)) = true := decide_eq_true (by omega)
    clear hc
    go_wp2_with fail
    go_ret
    exact ⟨by first | rfl | simp, by first | exact Q5.out | exact Q4.out | exact Q3.out | exact Q2.out | exact Q1.out⟩
  · have d64 : decide ((64 : Int) < (L.length : Int)) = false := decide_eq_false (by omega)
    have h64 : L.length ≤ 64 := by omega
    clear hc
    go_wp2_with fail
    refine (Sg.refRight_any R L.length cl L w1 rfl (HRw.out.row Q1.out) hll HSz.out).mono ?_
    rintro e wR ⟨rfl, rfl⟩
    cases hbR : Sg.rightB L
    · clear hbR
      go_wp2_with fail
      go_ret
      exact ⟨by first | rfl | simp, by first | exact Q5.out | exact Q4.out | exact Q3.out | exact Q2.out | exact Q1.out⟩
    · skip
      go_wp2_with fail
      refine (Ex.few7_any T D.length ct D w1 rfl (HLd.out.q Q1.out) hlt HZd.out).mono ?_
      rintro e w2 ⟨rfl, q2⟩
      have Q2 := Lib.hid (Q1.out.trans q2)
      clear q2
      by_cases hb2 : total7 D ≤ 600
      · have d2 : decide (total7 D ≤ 600) = true := decide_eq_true hb2
        rw [d2]
        go_wp2_with fail
        refine (Ex.few7_any E l.length ce l w2 rfl (HLe.out.q Q2.out) hle HZe.out).mono ?_
        rintro e w3 ⟨rfl, q3⟩
        have Q3 := Lib.hid (Q2.out.trans q3)
        clear q3
        by_cases hb3 : total7 l ≤ 600
        · have d3 : decide (total7 l ≤ 600) = true := decide_eq_true hb3
          rw [d3]
          go_wp2_with fail
          refine (Ex.right7_any T D.length ct D w3 rfl (HLd.out.q Q3.out) hb2).mono ?_
          rintro e w4 ⟨rfl, q4⟩
          have Q4 := Lib.hid (Q3.out.trans q4)
          clear q4
          cases hb4 : rightB D
          · clear hb4
            go_wp2_with fail
            go_ret
            exact ⟨by first | rfl | simp, by first | exact Q5.out | exact Q4.out | exact Q3.out | exact Q2.out | exact Q1.out⟩
          · skip
            go_wp2_with fail
            refine (Ex.right7_any E l.length ce l w4 rfl (HLe.out.q Q4.out) hb3).mono ?_
            rintro e w5 ⟨rfl, q5⟩
            have Q5 := Lib.hid (Q4.out.trans q5)
            clear q5
            cases hb5 : rightB l
            · clear hb5
              go_wp2_with fail
              go_ret
              exact ⟨by first | rfl | simp, by first | exact Q5.out | exact Q4.out | exact Q3.out | exact Q2.out | exact Q1.out⟩
            · skip
              by_cases h300 : 300 < D.length + l.length
              · have d6 : decide ((300 : Int) < (D.length : Int) + (l.length : Int)) = true := decide_eq_true (by omega)
                have hlD : D.length ≤ 600 := Nat.le_trans (Ex.total7_ge D) hb2
                have hlE : l.length ≤ 600 := Nat.le_trans (Ex.total7_ge l) hb3
                clear h300
                go_wp2_with fail
                go_ret
                exact ⟨by first | rfl | simp, by first | exact Q5.out | exact Q4.out | exact Q3.out | exact Q2.out | exact Q1.out⟩
              · skip
                obtain ⟨hmd, x, hrd, hwx, hnx, hdx, htx, hpd⟩ := right_tree hb4
                obtain ⟨hml, y, hrl, hwy, hny, hdy, hty, hpl⟩ := right_tree hb5
                have d6 : decide ((300 : Int) < (D.length : Int) + (l.length : Int)) = false := decide_eq_false (by omega)
                have HGx := Lib.hid (Ex.good_of hb2 hpd hmd hrd)
                have HGy := Lib.hid (Ex.good_of hb3 hpl hml hrl)
                have hok0 := stoOk_first (L := L) h64 hbR (names := []) rfl (by simp)
                have hok1 := load_sto (limit := 5000) hok0 hmd hrd
                have hok2 := load_sto (limit := 5000) hok1 hml hrl
                have hD6 : D.length ≤ 600 := by omega
                have hl6 : l.length ≤ 600 := by omega
                obtain ⟨K1, hK1⟩ : ∃ K, loadK L 5000 Tm.first3 [] D = K := ⟨_, rfl⟩
                obtain ⟨N1, hN1⟩ : ∃ N, loadN L 5000 Tm.first3 [] D = N := ⟨_, rfl⟩
                rw [hK1, hN1] at hok1 hok2
                have hboth := Lib.hid (two_loads (K1 := K1) (N1 := N1) hok0 hrd hrl hmd hml hnx hny hwx hwy hb4 hb5 (by omega) hK1 hN1)
                have CL1 := Lib.hid (fun (A S : Option Addr) (c0 d0 : Nat) (W : World) (hst : Sto W R A S none L Tm.first3 []) (hr : Rds W W.heap.size T (cellsG D)) => load_any R A S none T L.length cl 2 c0 8 d0 0 0 D.length ct L Tm.first3 [] D x 5000 0 W rfl rfl (by rw [Hs.layI_length]; show 8 = Hs.sizeN 2; rw [Tm.size2]) rfl rfl hst hok0 (by omega) hr hmd hrd hD6)
                rw [hK1, hN1] at CL1
                have CL2 := Lib.hid (fun (A S B : Option Addr) (c0 d0 b0 : Nat) (W : World) (hst : Sto W R A S B L K1 N1) (hr : Rds W W.heap.size E (cellsG l)) => load_any R A S B E L.length cl K1.length c0 (layI K1).length d0 N1.length b0 l.length ce L K1 N1 l y 5000 _ W rfl rfl rfl rfl rfl hst hok1 (by omega) hr hml hrl hl6)
                have HM2 := Lib.hid hok2
                have HTx := Lib.hid htx
                have HTy := Lib.hid hty
                have h3b : 0 + D.length + l.length ≤ 1800 := by omega
                have hlD : D.length ≤ 1000000 := by omega
                generalize loadI L 5000 Tm.first3 [] D = I1 at *
                generalize loadE L 5000 Tm.first3 [] D = E1 at *
                generalize loadK L 5000 K1 N1 l = K2 at *
                generalize loadN L 5000 K1 N1 l = N2 at *
                generalize loadI L 5000 K1 N1 l = I2 at *
                generalize loadE L 5000 K1 N1 l = E2 at *
                clear hmd hml hrd hrl hwx hwy hnx hny hdx hdy htx hty hb4 hb5 hb2 hb3 hok0 hok1 hok2 hK1 hN1 hbR d2 d3
                go_wp2_with fail
                refine (refNew_any _).mono ?_
                rintro e w6 ⟨A6, c6, S6, d6', rfl, hk6, hs6, q6⟩
                have P6 := Lib.hid (Q5.out.trans q6)
                have CLx := Lib.hid (CL1.out A6 S6 c6 d6' w6 ⟨HRw.out.row P6.out, hk6, hs6, Rds.nil _ _ _⟩ (HLd.out.q P6.out))
                clear hk6 hs6 q6 CL1
                go_wp2_with fail
                refine CLx.out.mono ?_
                rintro e w7 ⟨A7, c7, S7, d7, B7, e7, rfl, hk7, hs7, hn7, q7⟩
                have q78 := (Q.refl w7).alloc (Obj.cells #[.slice A7 K1.length c7, .slice S7 (layI K1).length d7] 26)
                have HT7 := Lib.hid (BoxT.new w7 (.slice A7 K1.length c7) (.slice S7 (layI K1).length d7) 26)
                have P7 := Lib.hid (P6.out.trans q7)
                have P8 := Lib.hid (P7.out.trans q78)
                have CLy := Lib.hid (CL2.out A7 S7 B7 c7 d7 e7 _ ((⟨HRw.out.row P7.out, hk7, hs7, hn7⟩ : Sto w7 R A7 S7 B7 L K1 N1).q q78) (HLe.out.q P8.out))
                have b0 := HT7.out.c0
                have b1 := HT7.out.c1
                clear hk7 hs7 hn7 q7 q78 CL2 CLx P6 P7
                go_wp2_with fail
                generalize w7.alloc (Obj.cells #[.slice A7 K1.length c7, .slice S7 (layI K1).length d7] 26) = w8 at *
                refine CLy.out.mono ?_
                rintro e w9 ⟨A9, c9, S9, d9, B9, e9, rfl, hk9, hs9, hn9, q9⟩
                have q9a := (Q.refl w9).alloc (Obj.cells #[.slice A9 K2.length c9, .slice S9 (layI K2).length d9] 26)
                have HT9 := Lib.hid (BoxT.new w9 (.slice A9 K2.length c9) (.slice S9 (layI K2).length d9) 26)
                have P9 := Lib.hid (P8.out.trans q9)
                have Pa := Lib.hid (P9.out.trans q9a)
                have HSTa := Lib.hid ((⟨HRw.out.row P9.out, hk9, hs9, hn9⟩ : Sto w9 R A9 S9 B9 L K2 N2).q q9a)
                clear hk9 hs9 hn9 q9 q9a CLy P9 P8 b0 b1 HT7
                by_cases g1 : E1 = 0
                · by_cases g2 : E2 = 0
                  · obtain ⟨t1, t2, hiff⟩ := hboth.out g1 g2
                    subst g1 g2
                    have CT1 := Lib.hid (fun (W : World) (q : Q (w9.alloc (Obj.cells #[.slice A9 K2.length c9, .slice S9 (layI K2).length d9] 26)) W) => ltext_any R A9 S9 B9 L.length cl K2.length c9 (layI K2).length d9 N2.length e9 L K2 N2 I1 _ W rfl rfl rfl rfl (HSTa.out.q q) HM2.out h3b)
                    have CT2 := Lib.hid (fun (W : World) (q : Q (w9.alloc (Obj.cells #[.slice A9 K2.length c9, .slice S9 (layI K2).length d9] 26)) W) => ltext_any R A9 S9 B9 L.length cl K2.length c9 (layI K2).length d9 N2.length e9 L K2 N2 I2 _ W rfl rfl rfl rfl (HSTa.out.q q) HM2.out h3b)
                    have CX1 := Lib.hid (fun (W : World) (q : Q (w9.alloc (Obj.cells #[.slice A9 K2.length c9, .slice S9 (layI K2).length d9] 26)) W) => Ex.text7_any T D.length ct D _ W rfl (HLd.out.q (Pa.out.trans q)) HGx.out)
                    have CX2 := Lib.hid (fun (W : World) (q : Q (w9.alloc (Obj.cells #[.slice A9 K2.length c9, .slice S9 (layI K2).length d9] 26)) W) => Ex.text7_any E l.length ce l _ W rfl (HLe.out.q (Pa.out.trans q)) HGy.out)
                    have CS := Lib.hid (fun (W : World) (q : Q (w9.alloc (Obj.cells #[.slice A9 K2.length c9, .slice S9 (layI K2).length d9] 26)) W) => Ex.same7_any T E D.length ct l.length ce D l W rfl rfl (HLd.out.q (Pa.out.trans q)) (HLe.out.q (Pa.out.trans q)) hlD)
                    rw [t1] at CT1
                    rw [t2] at CT2
                    rw [HTx.out] at CX1
                    rw [HTy.out] at CX2
                    have hsb : sameB D l = decide (I1 = I2) := by
                      by_cases hI : I1 = I2
                      · rw [decide_eq_true hI, (sameB_iff D l).2 (hiff.1 hI)]
                      · rw [decide_eq_false hI]
                        cases hh : sameB D l
                        · rfl
                        · exact absurd (hiff.2 ((sameB_iff _ _).1 hh)) hI
                    have hbq : (I1 == I2) = decide (I1 = I2) := by
                      by_cases hI : I1 = I2
                      · rw [decide_eq_true hI, beq_iff_eq.2 hI]
                      · rw [decide_eq_false hI, beq_eq_false_iff_ne.2 hI]
                    rw [hsb] at CS
                    clear t1 t2 hiff hsb hboth HTx HTy
                    generalize decide (I1 = I2) = bb at *
                    have b0 := HT9.out.c0
                    have b1 := HT9.out.c1
                    go_wp2_with fail
                    generalize w9.alloc (Obj.cells #[.slice A9 K2.length c9, .slice S9 (layI K2).length d9] 26) = wa at *
                    refine (CT1.out _ (Q.refl wa)).mono ?_
                    rintro e wb ⟨rfl, qb⟩
                    have Rb := Lib.hid qb
                    clear qb b0 b1
                    go_wp2_with fail
                    refine (CX1.out _ Rb.out).mono ?_
                    rintro e wc ⟨rfl, qc⟩
                    have Rc := Lib.hid (Rb.out.trans qc)
                    clear qc Rb
                    have b0 := (HT9.out.q Rc.out).c0
                    have b1 := (HT9.out.q Rc.out).c1
                    go_wp2_with fail
                    refine (CT2.out _ Rc.out).mono ?_
                    rintro e wd ⟨rfl, qd⟩
                    have Rd := Lib.hid (Rc.out.trans qd)
                    clear qd Rc b0 b1
                    go_wp2_with fail
                    refine (CX2.out _ Rd.out).mono ?_
                    rintro e we ⟨rfl, qe⟩
                    have Re := Lib.hid (Rd.out.trans qe)
                    clear qe Rd
                    go_wp2_with fail
                    refine (CS.out _ Re.out).mono ?_
                    rintro e wf ⟨rfl, n, rfl⟩
                    go_wp2_with fail
                    go_ret
                    exact ⟨by first | rfl | (rw [hbq]; simp) | simp, Pa.out.trans (Re.out.drewN n)⟩
                  · have g3 : (E2 != 0) = true := bne_iff_ne.2 g2
                    subst g1
                    clear g2 hboth
                    go_wp2_with fail
                    go_ret
                    exact ⟨by first | rfl | simp, Pa.out⟩
                · have g3 : (E1 != 0) = true := bne_iff_ne.2 g1
                  clear g1 hboth
                  go_wp2_with fail
                  go_ret
                  exact ⟨by first | rfl | simp, Pa.out⟩
        · have d3 : decide (total7 l ≤ 600) = false := decide_eq_false hb3
          rw [d3]
          clear hb3
          go_wp2_with fail
          go_ret
          exact ⟨by first | rfl | simp, by first | exact Q5.out | exact Q4.out | exact Q3.out | exact Q2.out | exact Q1.out⟩
      · have d2 : decide (total7 D ≤ 600) = false := decide_eq_false hb2
        rw [d2]
        clear hb2
        go_wp2_with fail
        go_ret
        exact ⟨by first | rfl | simp, by first | exact Q5.out | exact Q4.out | exact Q3.out | exact Q2.out | exact Q1.out⟩
theorem reads (os : Os) {H : Type} (enc : TypeId × Value → H) : ∃ places, DataW.whole enc Tryz.prog ((laidWorld os).forCall (fun _ _ => 0) ⟨#[], #[.slice none 0 0, .slice none 0 0, .slice none 0 0], []⟩).memory Tryz.f6.params.toList Rows.loadTwoSpec.vars false (#[.slice none 0 0, .slice none 0 0, .slice none 0 0] : Array Value).toList 8 = some ([.nil, .nil, .nil], [], places) :=
  ⟨[], by kernel_rfl⟩

set_option maxRecDepth 100000 in
theorem contract (H : Type) (enc : TypeId × Value → H) (W : World) (base : Nat) (args : Array Value) (ds gs : List (DataW H)) (before : List MemPlace)
    (hval : ∀ (j : Nat) t v, Tryz.f6.params[j]? = some t → args[j]? = some v → Value.okWide Tryz.prog W .any base t v)
    (hW : DataW.Whole enc Tryz.prog Tryz.f6.params.toList Rows.loadTwoSpec.vars false W args.toList ds gs before)
    (hsz0 : (DataW.weightsEach Tryz.prog (Tryz.f6.params.toList ++ Rows.loadTwoSpec.plain.varTypes Tryz.prog) (ds ++ gs)).all (· ≤ reachBytes) = true) :
    Calls Tryz.prog 6 args W fun e W' => ∃ v, e = .returned v ∧ Rows.loadTwoSpec.post enc Tryz.prog Tryz.f6 false true false false W args v W' := by
  have hW' := hW
  obtain ⟨p, q, hA0, hV, rfl, hfz, hnd⟩ := hW
  have hA : DataW.TrodAll enc Tryz.prog W 0 (fun _ => true) true Tryz.f6.params.toList args.toList ds p := hA0
  rw [Tryz.params6] at hA hval
  obtain ⟨v0, vs0, d0, ds0, p0, q0, hargs, rfl, rfl, h0, r0⟩ := trodAll_cons hA
  obtain ⟨v1, vs1, d1, ds1, p1, q1, rfl, rfl, rfl, h1, r1⟩ := trodAll_cons r0
  obtain ⟨v2, vs2, d2, ds2, p2, q2, rfl, rfl, rfl, h2, r2⟩ := trodAll_cons r1
  obtain ⟨rfl, rfl, rfl⟩ := trodAll_nil r2
  obtain rfl : args = #[v0, v1, v2] := by cases args; simp_all
  obtain ⟨rfl, rfl⟩ := trodVars_none hV
  have z0 : ∀ n ∈ d0.weights Tryz.prog 22, n ≤ reachBytes := fun n hn => by
    have := List.all_eq_true.1 hsz0 n (DataW.weights_mem_each (j := 0) (t := 22) (d := d0) (by rw [Tryz.params6]; rfl) rfl n hn)
    simpa using this
  have z1 : ∀ n ∈ d1.weights Tryz.prog 33, n ≤ reachBytes := fun n hn => by
    have := List.all_eq_true.1 hsz0 n (DataW.weights_mem_each (j := 1) (t := 33) (d := d1) (by rw [Tryz.params6]; rfl) rfl n hn)
    simpa using this
  have z2 : ∀ n ∈ d2.weights Tryz.prog 33, n ≤ reachBytes := fun n hn => by
    have := List.all_eq_true.1 hsz0 n (DataW.weights_mem_each (j := 2) (t := 33) (d := d2) (by rw [Tryz.params6]; rfl) rfl n hn)
    simpa using this
  clear hsz0
  obtain ⟨R, nl, cl, L, rfl, a1, a2, a3, a4, _⟩ := Sg.open_sigs (hval 0 22 v0 rfl rfl) h0
  obtain ⟨T, nt, ct, D, rfl, b1, b2, b3, _, b5⟩ := Ex.open_nodes (hval 1 33 v1 rfl rfl) h1 z1
  obtain ⟨E, ne, ce, l, rfl, c1, c2, c3, _, c5⟩ := Ex.open_nodes (hval 2 33 v2 rfl rfl) h2 z2
  clear hA0
  refine (walk R T E nl cl nt ct ne ce L D l W a1 a2 a3 a4 b1 b2 b3 b5 c1 c2 c3 c5).mono fun e W' ⟨he, hg⟩ => ?_
  subst he
  exact ⟨_, rfl, post_law laid (by rw [Tryz.params6]; decide +kernel) rfl rfl (by kernel_rfl) Tryz.underlying4 hW' hg⟩

set_option maxRecDepth 100000 in
theorem lifted (os : Os) (started : os.Started) (H : Type) (enc : TypeId × Value → H) (F : Stop.Interp) :
    ReturnsInHanded {} Tryz.checked os 6 .any ((OpenSpec.ofChange Rows.loadTwoSpec).preRow enc Tryz.prog Tryz.f6 Rows.loadTwoRow.domain false Rows.loadTwoRow.laid) (((OpenSpec.ofChange Rows.loadTwoSpec).at F).post enc Tryz.prog Tryz.f6 false true false false) := by
  obtain ⟨places, hx⟩ := reads os enc
  refine returnsInHanded_of_row (C := Tryz.checked) (s := OpenSpec.ofChange Rows.loadTwoSpec) own started (by kernel_rfl) Tryz.func6
    (witness_row_at (enc := enc) (C := Tryz.checked) false (laidWorld os) #[.slice none 0 0, .slice none 0 0, .slice none 0 0] rfl (laid_vars os _) (by kernel_rfl) (by kernel_rfl)
      (OpenSpec.preRow_of_cond 8 hx (by kernel_rfl) (fun k hk => by cases hk) (by kernel_rfl) (laid_met os _))) ?_
  intro W base args ds gs before hval hW _ _ hsz _ _ _
  exact contract H enc W base args ds gs before hval hW hsz

theorem said : Rows.LoadTwoSaid :=
  OpenClaim.holds_of_cond 6 Tryz.f6 rfl rfl rfl rfl rfl rfl rfl ⟨rfl, rfl, rfl, rfl, rfl⟩ rfl rfl rfl rfl rfl (by kernel_rfl) Tryz.func6 (by kernel_rfl)
    (of_decide_eq_true (by kernel_rfl)) (by unfold Func.isWrapper; first | (rw [if_pos (by decide +kernel)]; kernel_rfl) | (rw [if_neg (by decide +kernel)]; exact ⟨rfl, rfl⟩))
    (fun os started H enc _ F => by rw [OpenClaim.pre_eq_preRow]; exact lifted os started H enc F)

theorem plain (f : FuncId) (fn : Func) (hf : Tryz.pinned.checked.prog.funcNamed "tammy/tammylaw09.LoadTwo" = some f) (hfn : Tryz.pinned.checked.prog.funcs[f]? = some fn) :
    false = Tryz.pinned.checked.prog.looks [] ∧ ∀ (j : Nat) t, fn.params[j]? = some t → Tryz.pinned.checked.prog.wantsStandIn t = false := by
  obtain rfl : f = 6 := Option.some.inj ((show Tryz.prog.funcNamed "tammy/tammylaw09.LoadTwo" = some 6 by kernel_rfl).symm.trans hf) |>.symm
  obtain rfl : fn = Tryz.f6 := (Option.some.inj (Tryz.func6.symm.trans hfn)).symm
  refine ⟨by kernel_rfl, fun j t ht => ?_⟩
  rw [Tryz.params6] at ht
  have hm := Array.mem_of_getElem? ht
  simp only [List.mem_toArray, List.mem_cons, List.not_mem_nil, or_false] at hm
  rcases hm with rfl | rfl | rfl
  · exact (show Tryz.prog.wantsStandIn 22 = false by kernel_rfl)
  · exact (show Tryz.prog.wantsStandIn 33 = false by kernel_rfl)
  · exact (show Tryz.prog.wantsStandIn 33 = false by kernel_rfl)

/-- THE STATEMENT: the tied card -/
theorem card : Rows.LoadTwoCardSaid :=
  Claim7.holds_tied_plain_at .later [] _ _ _ _ said (fun _ h => by cases h) (by kernel_rfl) (fun _ h => by cases h) loadTwo_row_tie rfl ⟨rfl, rfl⟩ (by kernel_rfl) rfl plain (by kernel_rfl)
end Go.Proofs.YtdmdcggmgipdbaaGreatDoor.loadTwo
