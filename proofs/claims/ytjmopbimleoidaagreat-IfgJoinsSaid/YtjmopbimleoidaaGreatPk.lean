/-
  What the proofs lean on, part 11 of 12.
-/
import Derived.Test.YtjmopbimleoidaaGreatPb
import Derived.Test.YtjmopbimleoidaaGreatPh
import Derived.Test.YtjmopbimleoidaaGreatPi
import Derived.Laws.EntriesVeiled
namespace Go.Proofs.YtjmopbimleoidaaGreat.Ig
open Go.RowKit Kit Tr Uf
open Go.Proofs.YtjmopbimleoidaaGreat.Hs (Keys Ints BoxT KeysP IntsP layI)
open Go.Proofs.YtjmopbimleoidaaGreat.St (cellsQ cellsQ_append cellsQ_len cellsQ_one pairInfo PI)
theorem there12e (m mp mt : Nat) (hp : mp = m) (ht : mt = m) (r b2 b3 : Value) (Av Pa Ta : Option Addr) (cv cp ct : Nat) (v : Int) (w : World) :
    Calls Tryz.prog 39 #[.agg #[r, .slice Av m cv, b2, b3, .slice Pa mp cp, .slice Ta mt ct], .int .i64 v] w fun e w' => e = .returned (.bool (decide (0 ≤ v) && decide (v < (m : Int)))) ∧ Q w w' := by
  subst hp ht
  exact there12 _ r b2 b3 Av Pa Ta cv cp ct v w

set_option maxRecDepth 100000 in
set_option maxHeartbeats 8000000 in
theorem one12 (R : List Int) (c : Cells) (P T : List (List Int)) (A S F Av D E Pa Ta : Option Addr) (n ca ms d nr cr n1 k1 n2 k2 n3 k3 np kp nt kt : Nat) (ks : List (List Int)) (x y : Nat) (w : World) (hn : n = ks.length) (hm : ms = (layI ks).length) (hk : Keys w w.heap.size A ks) (hS : Ints w w.heap.size S (layI ks)) (hO : OkS ks)
    (hr : nr = R.length) (h1 : n1 = c.V.length) (h2 : n2 = c.N.length) (h3 : n3 = c.M.length) (hp : np = P.length) (ht : nt = T.length) (hR : Tr.Rds w w.heap.size F (cellsI R)) (h : Rd w c Av k1 D k2 E k3) (hP : Keys w w.heap.size Pa P) (hT : Keys w w.heap.size Ta T)
    (lR : R.length ≤ 2000) (hf : Few c 2000) (hPn : P.length = c.V.length) (hTn : T.length = c.V.length) (sP : ∀ k ∈ P, k.length ≤ 2000) (sT : ∀ k ∈ T, k.length ≤ 2000) (hC : Cl R c.V) (hx : x < c.V.length) (hy : y < c.V.length) (hA : allV ks c.V.length = true) :
    Calls Tryz.prog 10 #[.agg #[.slice A n ca, .slice S ms d], .agg #[.slice F nr cr, .slice Av n1 k1, .slice D n2 k2, .slice E n3 k3, .slice Pa np kp, .slice Ta nt kt], .int .i64 (x : Int), .int .i64 (y : Int)] w
      (if fst c.V x = fst c.V y then OneAns R c P T [] w else OneAns R (joinC R c x y) (P.set (hi R c.V x y) []) (T.set (hi R c.V x y) []) (comeV ks (joinC R c x y).V (rowG P (hi R c.V x y)) (rowG T (hi R c.V x y)) (atV ks (lo R c.V x y : Int))) w) := by
  subst hn hm hr h1 h2 h3 hp ht
  have q0 := (((Q.refl w).alloc (Obj.cells #[.slice A ks.length ca, .slice S (layI ks).length d] 26)).alloc (Obj.cells #[.slice F R.length cr, .slice Av c.V.length k1, .slice D c.N.length k2, .slice E c.M.length k3, .slice Pa P.length kp, .slice Ta T.length kt] 31)).alloc (Obj.cells #[.slice none 0 0, .slice none 0 0, .slice none 0 0, .slice none 0 0, .slice none 0 0, .slice none 0 0] 31)
  have HBa := Lib.hid ((BoxT.new w (.slice A ks.length ca) (.slice S (layI ks).length d) 26).q (((Q.refl _).alloc (Obj.cells #[.slice F R.length cr, .slice Av c.V.length k1, .slice D c.N.length k2, .slice E c.M.length k3, .slice Pa P.length kp, .slice Ta T.length kt] 31)).alloc (Obj.cells #[.slice none 0 0, .slice none 0 0, .slice none 0 0, .slice none 0 0, .slice none 0 0, .slice none 0 0] 31)))
  have X := (Box6.new (w.alloc (Obj.cells #[.slice A ks.length ca, .slice S (layI ks).length d] 26)) (.slice F R.length cr) (.slice Av c.V.length k1) (.slice D c.N.length k2) (.slice E c.M.length k3) (.slice Pa P.length kp) (.slice Ta T.length kt) 31).q ((Q.refl _).alloc (Obj.cells #[.slice none 0 0, .slice none 0 0, .slice none 0 0, .slice none 0 0, .slice none 0 0, .slice none 0 0] 31))
  rw [World.size_alloc] at X
  have HBg := Lib.hid X
  have X2 := BoxW.new ((w.alloc (Obj.cells #[.slice A ks.length ca, .slice S (layI ks).length d] 26)).alloc (Obj.cells #[.slice F R.length cr, .slice Av c.V.length k1, .slice D c.N.length k2, .slice E c.M.length k3, .slice Pa P.length kp, .slice Ta T.length kt] 31)) (.slice none 0 0) (.slice none 0 0) (.slice none 0 0) (.slice none 0 0) (.slice none 0 0) (.slice none 0 0) 31
  rw [World.size_alloc, World.size_alloc] at X2
  have HX := Lib.hid X2
  have HZ : Hid ((((w.alloc (Obj.cells #[.slice A ks.length ca, .slice S (layI ks).length d] 26)).alloc (Obj.cells #[.slice F R.length cr, .slice Av c.V.length k1, .slice D c.N.length k2, .slice E c.M.length k3, .slice Pa P.length kp, .slice Ta T.length kt] 31)).alloc (Obj.cells #[.slice none 0 0, .slice none 0 0, .slice none 0 0, .slice none 0 0, .slice none 0 0, .slice none 0 0] 31)).heap.size = w.heap.size + 3) := by unfold Hid; simp
  have HR := Lib.hid (hR.q q0)
  have HC := Lib.hid (h.q q0)
  have HP := Lib.hid ((hP.q (Nat.le_refl _) q0).more q0.size)
  have HT := Lib.hid ((hT.q (Nat.le_refl _) q0).more q0.size)
  have Hk := Lib.hid ((hk.q (Nat.le_refl _) q0).more q0.size)
  have HS := Lib.hid ((hS.q (Nat.le_refl _) q0).more q0.size)
  have HQ0 := Lib.hid q0
  have HK00 : Hid (Keys w w.heap.size A ks ∧ Ints w w.heap.size S (layI ks) ∧ Keys w w.heap.size Pa P ∧ Keys w w.heap.size Ta T) := Lib.hid ⟨hk, hS, hP, hT⟩
  have HFw := Lib.hid hf
  have HO := Lib.hid hO
  have HA := Lib.hid hA
  have HPn := Lib.hid hPn
  have HTn := Lib.hid hTn
  have HsP := Lib.hid sP
  have HsT := Lib.hid sT
  have HCl := Lib.hid hC
  have HxV := Lib.hid hx
  have HyV := Lib.hid hy
  obtain ⟨Br, hBr⟩ : ∃ Br, Br = w.heap.size + 1 + 1 := ⟨_, rfl⟩
  rw [← hBr] at HX
  have HBr : Hid (Br = w.heap.size + 2) := hBr
  obtain ⟨i0, hi, hz0, hz1, hz2⟩ := info_parts pairInfo
  have Hi := Lib.hid hi
  have Hz0 := Lib.hid hz0
  have Hz1 := Lib.hid hz1
  have Hz2 := Lib.hid hz2
  clear h X X2 hR hP hT hk hS q0 hf hO hA hPn hTn sP sT hC hx hy hi hz0 hz1 hz2
  go_enter Tryz.func10, Tryz.ntmps10
  go_upto_region 1 with fail
  rw [← hBr]
  clear hBr
  generalize ((w.alloc (Obj.cells #[.slice A ks.length ca, .slice S (layI ks).length d] 26)).alloc (Obj.cells #[.slice F R.length cr, .slice Av c.V.length k1, .slice D c.N.length k2, .slice E c.M.length k3, .slice Pa P.length kp, .slice Ta T.length kt] 31)).alloc (Obj.cells #[.slice none 0 0, .slice none 0 0, .slice none 0 0, .slice none 0 0, .slice none 0 0, .slice none 0 0] 31) = W0 at *
  have b0 := HBg.out.c0
  have b1 := HBg.out.c1
  have b2 := HBg.out.c2
  have b3 := HBg.out.c3
  have b4 := HBg.out.c4
  have b5 := HBg.out.c5
  have CC := Lib.hid (copyOf12 R c P T F Av D E Pa Ta _ cr _ k1 _ k2 _ k3 _ kp _ kt W0 rfl rfl rfl rfl rfl rfl HR.out HC.out HP.out HT.out (by omega) ⟨by have := HFw.out.1; omega, by have := HFw.out.2.1; omega, by have := HFw.out.2.2; omega⟩ (by have := HPn.out; have := HFw.out.1; omega) (by have := HTn.out; have := HFw.out.1; omega) (fun k h => Nat.le_trans (HsP.out k h) (by omega)) (fun k h => Nat.le_trans (HsT.out k h) (by omega)))
  go_upto_region 2 with (go_at_call 37; refine CC.out.mono ?_; rintro e w1 ⟨g0, g1, g2, g3, gp, ep, gs, es, rfl, hG⟩; have HG := Lib.hid hG; unfold gVal; clear hG)
  have q2 := (Q.refl w1).alloc (Obj.cells #[(.slice (some ⟨g0, 0, none⟩) R.length R.length), (.slice (some ⟨g1, 0, none⟩) c.V.length c.V.length), (.slice (some ⟨g2, 0, none⟩) c.N.length c.N.length), (.slice (some ⟨g3, 0, none⟩) c.M.length c.M.length), (.slice (some ⟨gp, 0, none⟩) P.length P.length), (.slice (some ⟨gs, 0, none⟩) T.length T.length)] 31)
  have HS2 : Hid (OneS w (w1.alloc (Obj.cells #[(.slice (some ⟨g0, 0, none⟩) R.length R.length), (.slice (some ⟨g1, 0, none⟩) c.V.length c.V.length), (.slice (some ⟨g2, 0, none⟩) c.N.length c.N.length), (.slice (some ⟨g3, 0, none⟩) c.M.length c.M.length), (.slice (some ⟨gp, 0, none⟩) P.length P.length), (.slice (some ⟨gs, 0, none⟩) T.length T.length)] 31)) R P T (.slice A ks.length ca) (.slice S (layI ks).length d) (.slice F R.length cr) (.slice Av c.V.length k1) (.slice D c.N.length k2) (.slice E c.M.length k3) (.slice Pa P.length kp) (.slice Ta T.length kt) (.slice (some ⟨g1, 0, none⟩) c.V.length c.V.length) (.slice (some ⟨g2, 0, none⟩) c.N.length c.N.length) (.slice (some ⟨g3, 0, none⟩) c.M.length c.M.length) P.length T.length g0 gp ep gs es w1.heap.size Br) := by
    have hz := HZ.out
    have a1 := HG.out.o0
    have a2 := HG.out.o1
    have a3 := HG.out.o2
    have a4 := HG.out.o3
    have a5 := HG.out.o4
    have a6 := HG.out.o5
    exact ⟨(HBa.out.q HG.out.q).q q2, (HBg.out.q HG.out.q).q q2, (HX.out.q HG.out.q).q q2, BoxW.new w1 (.slice (some ⟨g0, 0, none⟩) R.length R.length) (.slice (some ⟨g1, 0, none⟩) c.V.length c.V.length) (.slice (some ⟨g2, 0, none⟩) c.N.length c.N.length) (.slice (some ⟨g3, 0, none⟩) c.M.length c.M.length) (.slice (some ⟨gp, 0, none⟩) P.length P.length) (.slice (some ⟨gs, 0, none⟩) T.length T.length) 31, HG.out.r.q q2, HG.out.p.q q2, HG.out.t.q q2, ⟨HBr.out, by omega, by omega, a6, HG.out.t.le⟩, (HQ0.out.trans HG.out.q).trans q2⟩
  have HG2 := Lib.hid (HG.out.next q2)
  have HQ2 := Lib.hid (HG.out.q.trans q2)
  clear b0 b1 b2 b3 b4 b5 CC q2 HG HBa HBg HX
  generalize w1.alloc (Obj.cells #[(.slice (some ⟨g0, 0, none⟩) R.length R.length), (.slice (some ⟨g1, 0, none⟩) c.V.length c.V.length), (.slice (some ⟨g2, 0, none⟩) c.N.length c.N.length), (.slice (some ⟨g3, 0, none⟩) c.M.length c.M.length), (.slice (some ⟨gp, 0, none⟩) P.length P.length), (.slice (some ⟨gs, 0, none⟩) T.length T.length)] 31) = W1 at *
  generalize w1.heap.size = O at *
  have CF : Hid (∀ (z : Nat) (U : World), z < c.V.length → Q W1 U → Calls Tryz.prog 38 #[.agg #[.slice Av c.V.length k1, .slice D c.N.length k2, .slice E c.M.length k3], .int .i64 (z : Int)] U fun e W' => e = .returned (.int .i64 (fst c.V z : Int)) ∧ Q U W') := fun z U hz q => find_any R c z Av D E _ k1 _ k2 _ k3 U rfl rfl rfl ((HC.out.q HQ2.out).q q) HCl.out hz (by have := HFw.out.1; omega)
  have HB1 := Lib.hid HS2.out.bg
  have b1 := HB1.out.c1
  have b2 := HB1.out.c2
  have b3 := HB1.out.c3
  have hlt := HB1.out.lt
  go_region_held3 (fun w' => w'.cell? ⟨w.heap.size + 1, 1, none⟩ = some (.slice Av c.V.length k1) ∧ w'.cell? ⟨w.heap.size + 1, 2, none⟩ = some (.slice D c.N.length k2) ∧ w'.cell? ⟨w.heap.size + 1, 3, none⟩ = some (.slice E c.M.length k3))
    (first
      | go_keep
      | exact ⟨(p2.cell (p := ⟨w.heap.size + 1, 1, none⟩) hlt).trans b1, (p2.cell (p := ⟨w.heap.size + 1, 2, none⟩) hlt).trans b2, (p2.cell (p := ⟨w.heap.size + 1, 3, none⟩) hlt).trans b3⟩
      | exact ⟨(p1.cell (p := ⟨w.heap.size + 1, 1, none⟩) hlt).trans b1, (p1.cell (p := ⟨w.heap.size + 1, 2, none⟩) hlt).trans b2, (p1.cell (p := ⟨w.heap.size + 1, 3, none⟩) hlt).trans b3⟩)
    (first
      | (go_at_call 38; (with_reducible refine (CF.out x _ HxV.out (Q.refl W1).drew).mono ?_); rintro e w2 ⟨rfl, q1⟩; have p1 : Q W1 w2 := (Q.refl W1).drew.trans q1)
      | (go_at_call 38; (with_reducible refine (CF.out y _ HyV.out p1).mono ?_); rintro e w3 ⟨rfl, q2⟩; have p2 : Q W1 w3 := p1.trans q2))
  have HS3 := Lib.hid (HS2.out.next p2)
  have HP3 := Lib.hid p2
  have hpx := (HCl.out.fst_in x HxV.out).1
  have hqy := (HCl.out.fst_in y HyV.out).1
  clear b1 b2 b3 hlt p1 p2 q1 q2 CF HB1
  have g0' := HS3.out.bg.c0
  have g1' := HS3.out.bg.c1
  have g2' := HS3.out.bg.c2
  have g3' := HS3.out.bg.c3
  have g4' := HS3.out.bg.c4
  have g5' := HS3.out.bg.c5
  by_cases hpq : fst c.V x = fst c.V y
  · have HE := Lib.hid hpq
    have e1 : ((fst c.V x : Int) == (fst c.V y : Int)) = true := by rw [hpq]; simp
    clear hpx hqy
    clear hpq
    have o0 := HS3.out.out.c.c0
    have o1 := HS3.out.out.c.c1
    have o2 := HS3.out.out.c.c2
    have o3 := HS3.out.out.c.c3
    have o4 := HS3.out.out.c.c4
    have o5 := HS3.out.out.c.c5
    have x0 := HS3.out.res.c.c0
    have x1 := HS3.out.res.c.c1
    have x2 := HS3.out.res.c.c2
    have x3 := HS3.out.res.c.c3
    have x4 := HS3.out.res.c.c4
    have x5 := HS3.out.res.c.c5
    have xf0 := HS3.out.res.f0
    have xf1 := HS3.out.res.f1
    have xf2 := HS3.out.res.f2
    have xf3 := HS3.out.res.f3
    have xf4 := HS3.out.res.f4
    have xf5 := HS3.out.res.f5
    have BZ := Lib.hid (HS3.out.res.set (.slice (some ⟨g0, 0, none⟩) R.length R.length) (.slice (some ⟨g1, 0, none⟩) c.V.length c.V.length) (.slice (some ⟨g2, 0, none⟩) c.N.length c.N.length) (.slice (some ⟨g3, 0, none⟩) c.M.length c.M.length) (.slice (some ⟨gp, 0, none⟩) P.length P.length) (.slice (some ⟨gs, 0, none⟩) T.length T.length))
    have hgr := Lib.hid (set6_grown w3 Br (.slice (some ⟨g0, 0, none⟩) R.length R.length) (.slice (some ⟨g1, 0, none⟩) c.V.length c.V.length) (.slice (some ⟨g2, 0, none⟩) c.N.length c.N.length) (.slice (some ⟨g3, 0, none⟩) c.M.length c.M.length) (.slice (some ⟨gp, 0, none⟩) P.length P.length) (.slice (some ⟨gs, 0, none⟩) T.length T.length))
    clear g0' g1' g2' g3' g4' g5'
    go_wp2_with fail
    have y0 := BZ.out.c.c0
    have y1 := BZ.out.c.c1
    have y2 := BZ.out.c.c2
    have y3 := BZ.out.c.c3
    have y4 := BZ.out.c.c4
    have y5 := BZ.out.c.c5
    refine bodyPost_ret (v := .tuple #[gvP R c P T (some ⟨g0, 0, none⟩) (some ⟨g1, 0, none⟩) (some ⟨g2, 0, none⟩) (some ⟨g3, 0, none⟩) (some ⟨gp, 0, none⟩) (some ⟨gs, 0, none⟩) R.length c.V.length c.N.length c.M.length P.length T.length, .slice none 0 0]) (by simp [gvP, results, Tryz.f10, go_sem, y0, y1, y2, y3, y4, y5]) rfl ?_
    have hz := HZ.out
    have hbr := HBr.out
    have ho := HG2.out.o0
    have hg := (HG2.out.next HP3.out).grp (K := fun b => b ≠ Br ∧ w.heap.size ≤ b) (fun b h1 _ => ⟨by omega, by omega⟩)
    have hg2 := hg.to (agree_grown (P := fun b => b ≠ Br ∧ w.heap.size ≤ b) hgr.out (fun hk => hk.1 rfl)) (K' := fun b => w.heap.size ≤ b) (fun b hb _ => hb.2)
    exact oneans hg2 (World.ownsRow_nil _ _ _ _) (grown_q hgr.out HS3.out.q (by omega))
  · have HNe := Lib.hid hpq
    have e1 : ((fst c.V x : Int) == (fst c.V y : Int)) = false := by rw [beq_eq_false_iff_ne]; omega
    have dx : (decide (0 ≤ (fst c.V x : Int)) && decide ((fst c.V x : Int) < (c.V.length : Int))) = true := by rw [decide_eq_true (by omega), decide_eq_true (by omega)]; rfl
    have dy : (decide (0 ≤ (fst c.V y : Int)) && decide ((fst c.V y : Int) < (c.V.length : Int))) = true := by rw [decide_eq_true (by omega), decide_eq_true (by omega)]; rfl
    have CT : Hid (∀ (z : Int) (U : World), (decide (0 ≤ z) && decide (z < (c.V.length : Int))) = true → Calls Tryz.prog 39 #[.agg #[.slice F R.length cr, .slice Av c.V.length k1, .slice D c.N.length k2, .slice E c.M.length k3, .slice Pa P.length kp, .slice Ta T.length kt], .int .i64 z] U fun e w' => e = .returned (.bool true) ∧ Q U w') := fun z U hz => by
      have h := there12e c.V.length P.length T.length HPn.out HTn.out (.slice F R.length cr) (.slice D c.N.length k2) (.slice E c.M.length k3) Av Pa Ta k1 kp kt z U
      rw [hz] at h
      exact h
    have HDx := Lib.hid dx
    have HDy := Lib.hid dy
    have HLx := Lib.hid hpx
    have HLy := Lib.hid hqy
    clear dx dy hpx hqy hpq
    obtain ⟨bl, hbl⟩ : ∃ bl, bl = lessB R (fst c.V y : Int) (fst c.V x : Int) := ⟨_, rfl⟩
    have HBl := Lib.hid hbl
    clear hbl
    have CL : Hid (∀ U, Q w3 U → Calls Tryz.prog 40 #[.slice F R.length cr, .int .i64 (fst c.V y : Int), .int .i64 (fst c.V x : Int)] U fun e w' => e = .returned (.bool bl) ∧ Q U w') := fun U q => by
      have h := less_any R F R.length cr (fst c.V y : Int) (fst c.V x : Int) U rfl (HR.out.q ((HQ2.out.trans HP3.out).trans q))
      rw [← HBl.out] at h
      exact h
    go_upto_if 45 with (first
      | (go_at_call 39; (with_reducible refine (CT.out (fst c.V x : Int) w3 HDx.out).mono ?_); rintro e w4 ⟨rfl, q4⟩; have HS4 := Lib.hid (HS3.out.next q4); clear g0' g1' g2' g3' g4' g5'; have g0' := HS4.out.bg.c0; have g1' := HS4.out.bg.c1; have g2' := HS4.out.bg.c2; have g3' := HS4.out.bg.c3; have g4' := HS4.out.bg.c4; have g5' := HS4.out.bg.c5)
      | (go_at_call 39; (with_reducible refine (CT.out (fst c.V y : Int) w4 HDy.out).mono ?_); rintro e w5 ⟨rfl, q5⟩; have HS5 := Lib.hid (HS4.out.next q5); have HQ35 := Lib.hid (q4.trans q5); clear g0' g1' g2' g3' g4' g5' q4 q5; have g0' := HS5.out.bg.c0)
      | (go_at_call 40; refine (CL.out w5 HQ35.out).mono ?_; rintro e w6 ⟨rfl, q6⟩; have HS6 := Lib.hid (HS5.out.next q6); have HQ36 := Lib.hid (HQ35.out.trans q6); clear g0' q6))
    go_cut [11, 12] (fun a b wx => a = .int .i64 (lo R c.V x y : Int) ∧ b = .int .i64 (hi R c.V x y : Int) ∧ w6 = wx)
    case first =>
      cases bl
      · have hl : ¬ lessB R (fst c.V y : Int) (fst c.V x : Int) = true := by rw [← HBl.out]; decide
        have HE1 : Hid (lo R c.V x y = fst c.V x ∧ hi R c.V x y = fst c.V y) := by unfold Hid lo hi; rw [if_neg hl, if_neg hl]; exact ⟨rfl, rfl⟩
        clear hl e1
        go_wp2_with fail
        go_meet
        rw [HE1.out.1, HE1.out.2]
        exact ⟨rfl, rfl, rfl⟩
      · have hl : lessB R (fst c.V y : Int) (fst c.V x : Int) = true := HBl.out.symm
        have HE1 : Hid (lo R c.V x y = fst c.V y ∧ hi R c.V x y = fst c.V x) := by unfold Hid lo hi; rw [if_pos hl, if_pos hl]; exact ⟨rfl, rfl⟩
        clear hl e1
        go_wp2_with fail
        go_meet
        rw [HE1.out.1, HE1.out.2]
        exact ⟨rfl, rfl, rfl⟩
    case rest =>
      obtain ⟨rfl, rfl, rfl⟩ := hcut
      have HJ := Lib.hid (joined HCl.out HxV.out HyV.out)
      have hLh : lo R c.V x y < c.V.length ∧ hi R c.V x y < c.V.length := by
        have a1 := HLx.out
        have a2 := HLy.out
        rcases lo_or R c.V x y with ⟨k1, k2⟩ | ⟨k1, k2⟩ <;> rw [k1, k2] <;> exact ⟨by assumption, by assumption⟩
      obtain ⟨f, hf⟩ : ∃ f, f = lo R c.V x y := ⟨_, rfl⟩
      obtain ⟨g, hg⟩ : ∃ g, g = hi R c.V x y := ⟨_, rfl⟩
      have HLo := Lib.hid hf
      have HHi := Lib.hid hg
      rw [← hf, ← hg] at hLh ⊢
      have HLh := Lib.hid hLh
      obtain ⟨c', hc'⟩ : ∃ c', c' = joinC R c x y := ⟨_, rfl⟩
      have HC' := Lib.hid hc'
      have HCl' : Hid (Cl R c'.V ∧ c'.V.length = c.V.length) := by unfold Hid; rw [hc']; exact ⟨HJ.out.cl, HJ.out.len⟩
      have CJ : Hid (Calls Tryz.prog 41 #[.agg #[.slice Av c.V.length k1, .slice D c.N.length k2, .slice E c.M.length k3], .slice F R.length cr, .int .i64 (x : Int), .int .i64 (y : Int)] w6 (OPost c' w6)) := by
        have h := join_any R c x y Av D E F _ k1 _ k2 _ k3 _ cr w6 rfl rfl rfl rfl ((HC.out.q (HQ2.out.trans HP3.out)).q HQ36.out) (HR.out.q ((HQ2.out.trans HP3.out).trans HQ36.out)) ⟨by have := HFw.out.1; omega, by have := HFw.out.2.1; omega, by have := HFw.out.2.2; omega⟩ HCl.out HxV.out HyV.out
        rw [← hc'] at h
        exact h
      have HQ06 : Hid (Q W0 w6) := Lib.hid ((HQ2.out.trans HP3.out).trans HQ36.out)
      clear hf hg hLh hc' e1
      have g0' := HS6.out.bg.c0
      have g1' := HS6.out.bg.c1
      have g2' := HS6.out.bg.c2
      have g3' := HS6.out.bg.c3
      go_upto_region 8 with (go_at_call 41; refine CJ.out.mono ?_; rintro e w7 ⟨A3, l1, D3, l2, E3, l3, rfl, hO⟩; have HO7 := Lib.hid hO; have HS7 := Lib.hid (HS6.out.next hO.q); have o1 := HS7.out.out.c.c1; have o2 := HS7.out.out.c.c2; have o3 := HS7.out.out.c.c3; have of1 := HS7.out.out.f1; have of2 := HS7.out.out.f2; have of3 := HS7.out.out.f3; clear hO)
      clear g0' g1' g2' g3' o1 o2 o3 of1 of2 of3
      have HS8 := Lib.hid (HS7.out.setU (.slice A3 c'.V.length l1) (.slice D3 c'.N.length l2) (.slice E3 c'.M.length l3))
      have HO8 := Lib.hid (onos ⟨HO7.out.v, HO7.out.n, HO7.out.m, HO7.out.lv, HO7.out.ln, HO7.out.lm⟩ (set3_grown12 w7 O (.slice A3 c'.V.length l1) (.slice D3 c'.N.length l2) (.slice E3 c'.M.length l3)) HS6.out.lts.2.2.1)
      generalize ((w7.setCell ⟨O, 1, none⟩ (.slice A3 c'.V.length l1)).setCell ⟨O, 2, none⟩ (.slice D3 c'.N.length l2)).setCell ⟨O, 3, none⟩ (.slice E3 c'.M.length l3) = W8 at *
      have HgP : Hid (g < P.length) := by have := HLh.out.2; have := HPn.out; unfold Hid; omega
      have HgT : Hid (g < T.length) := by have := HLh.out.2; have := HTn.out; unfold Hid; omega
      have o4 := HS8.out.out.c.c4
      have o5 := HS8.out.out.c.c5
      obtain ⟨Ap, cp', p0, pf0, -⟩ := HS8.out.tp.cell HgP.out
      have HS9 := Lib.hid (HS8.out.setP HgP.out)
      obtain ⟨At, ct', t0, tf0, -⟩ := HS9.out.tt.cell HgT.out
      have HS10 := Lib.hid (HS9.out.setT HgT.out)
      have HO9 := Lib.hid (onos HO8.out (setCell_grown W8 gp g (.slice none 0 0)) (by have := HS6.out.lts; omega))
      have HO10 := Lib.hid (onos HO9.out (setCell_grown (W8.setCell ⟨gp, g, none⟩ (.slice none 0 0)) gs g (.slice none 0 0)) (by have := HS6.out.lts; omega))
      have u4 := HS9.out.out.c.c4
      have u5 := HS9.out.out.c.c5
      have v4 := HS10.out.out.c.c4
      have v5 := HS10.out.out.c.c5
      have j0 : (0 : Int) ≤ (g : Int) := Int.natCast_nonneg _
      have j1 : (g : Int) < (P.length : Int) := by have := HgP.out; omega
      have j2 : (g : Int) < (T.length : Int) := by have := HgT.out; omega
      go_region_held3 (fun w' => w'.cell? ⟨O, 4, none⟩ = some (.slice (some ⟨gp, 0, none⟩) P.length P.length) ∧ w'.cell? ⟨O, 5, none⟩ = some (.slice (some ⟨gs, 0, none⟩) T.length T.length))
        (first
          | exact ⟨o4, o5⟩
          | exact ⟨u4, u5⟩
          | exact ⟨v4, v5⟩
          | go_keep)
        (first
          | fail)
      have HT10 := Lib.hid (HS10.out.next (Q.refl _).drew)
      have HU10 := Lib.hid (onoq HO10.out (Q.refl ((W8.setCell ⟨gp, g, none⟩ (.slice none 0 0)).setCell ⟨gs, g, none⟩ (.slice none 0 0))).drew)
      have HQ10 : Hid (Q w ((W8.setCell ⟨gp, g, none⟩ (.slice none 0 0)).setCell ⟨gs, g, none⟩ (.slice none 0 0)).drew) := Lib.hid HT10.out.q
      clear o4 o5 p0 pf0 t0 tf0 u4 u5 v4 v5 HS8 HS9 HS10 HO8 HO9 HO10 j1 j2
      generalize ((W8.setCell ⟨gp, g, none⟩ (.slice none 0 0)).setCell ⟨gs, g, none⟩ (.slice none 0 0)).drew = W10 at *
      have HW0 : Hid (∀ U, Q W10 U → Keys U U.heap.size A ks ∧ Ints U U.heap.size S (layI ks) ∧ Keys U U.heap.size Pa P ∧ Keys U U.heap.size Ta T) := fun U q => by
        have q' := HQ10.out.trans q
        exact ⟨(HK00.out.1.q (Nat.le_refl _) q').more q'.size, (HK00.out.2.1.q (Nat.le_refl _) q').more q'.size, (HK00.out.2.2.1.q (Nat.le_refl _) q').more q'.size, (HK00.out.2.2.2.q (Nat.le_refl _) q').more q'.size⟩
      have CPl : Hid (∀ U, Q W10 U → Calls Tryz.prog 42 #[.agg #[.slice A ks.length ca, .slice S (layI ks).length d], .int .i64 (f : Int)] U fun e w' => e = .returned (.int .i64 (atV ks (f : Int))) ∧ Q U w') := fun U q => by
        obtain ⟨k1', k2', _, _⟩ := HW0.out U q
        exact placeOf12 A S _ ca _ d ks (f : Int) U rfl rfl k1' k2' HO.out
      have a0 := HT10.out.ba.c0
      have a1 := HT10.out.ba.c1
      go_upto_region 10 with (go_at_call 42; refine (CPl.out W10 (Q.refl _)).mono ?_; rintro e w11 ⟨rfl, q11⟩; have HQ11 := Lib.hid q11; have HT11 := Lib.hid (HT10.out.next q11); have HU11 := Lib.hid (onoq HU10.out q11); clear q11)
      clear a0 a1 CPl
      obtain ⟨at_, hat⟩ : ∃ a, a = atV ks (f : Int) := ⟨_, rfl⟩
      have HAt := Lib.hid hat
      rw [← hat]
      clear hat
      have HPc : Hid ((P.set g []).length = P.length ∧ (T.set g []).length = T.length) := by unfold Hid; simp
      have HWg : Hid (∀ U, Q w11 U → Rd U c' A3 l1 D3 l2 E3 l3) := fun U q => by
        have := onoq HU11.out q
        exact ⟨OwnO.rds this.1, OwnO.rds this.2.1, OwnO.rds this.2.2.1, this.2.2.2.1, this.2.2.2.2.1, this.2.2.2.2.2⟩
      obtain ⟨pa, epa, hpb, Ar, cr2, hcr2, hp0, hri⟩ := HK00.out.2.2.1.at_ HgP.out
      obtain ⟨ta, eta, htb, At2, ct2, hct2, ht0, hti⟩ := HK00.out.2.2.2.at_ HgT.out
      have HQw11 : Hid (Q w w11) := Lib.hid (HQ10.out.trans HQ11.out)
      replace hp0 := (HQw11.out.cell (p := pa.add g) (by rw [Tr.add_block]; exact hpb)).trans hp0
      replace ht0 := (HQw11.out.cell (p := ta.add g) (by rw [Tr.add_block]; exact htb)).trans ht0
      replace hri := (hri.q (Nat.le_refl _) HQw11.out).more HQw11.out.size
      replace hti := (hti.q (Nat.le_refl _) HQw11.out).more HQw11.out.size
      have Hpb := Lib.hid hpb
      have Htb := Lib.hid htb
      have HPl : Hid (P[g]'HgP.out = rowG P g) := by unfold Hid rowG; rw [List.getD_eq_getElem?_getD, List.getElem?_eq_getElem HgP.out]; rfl
      have HTl : Hid (T[g]'HgT.out = rowG T g) := by unfold Hid rowG; rw [List.getD_eq_getElem?_getD, List.getElem?_eq_getElem HgT.out]; rfl
      have hPs : (rowG P g).length ≤ 2000 := by rw [← HPl.out]; exact HsP.out _ (List.getElem_mem _)
      have hTs : (rowG T g).length ≤ 2000 := by rw [← HTl.out]; exact HsT.out _ (List.getElem_mem _)
      rw [HPl.out] at hp0 hri
      rw [HTl.out] at ht0 hti
      clear hcr2 hct2
      obtain ⟨pr, hpr⟩ : ∃ pr, pr = rowG P g := ⟨_, rfl⟩
      obtain ⟨tr, htr⟩ : ∃ tr, tr = rowG T g := ⟨_, rfl⟩
      have HPr := Lib.hid hpr
      have HTr := Lib.hid htr
      rw [← hpr] at hp0 hri hPs
      rw [← htr] at ht0 hti hTs
      clear hpr htr HPl HTl
      have HPs := Lib.hid hPs
      have HTs := Lib.hid hTs
      have HRi := Lib.hid (ints_rds hri)
      have HTi := Lib.hid (ints_rds hti)
      clear hri hti hPs hTs
      have CB : Hid (∀ U, Q w11 U → Calls Tryz.prog 43 #[.agg #[.slice A ks.length ca, .slice S (layI ks).length d], .agg #[(.slice (some ⟨g0, 0, none⟩) R.length R.length), .slice A3 c'.V.length l1, .slice D3 c'.N.length l2, .slice E3 c'.M.length l3, (.slice (some ⟨gp, 0, none⟩) P.length P.length), (.slice (some ⟨gs, 0, none⟩) T.length T.length)], .slice Ar pr.length cr2, .int .i64 at_] U fun e w' => ∃ v, e = .returned v ∧ w'.ownsRow U.heap.size 48 2 v pr.length (cellsQ (pr.map fun z => (repV ks c'.V z, at_))) ∧ Q U w') := fun U q => by
        obtain ⟨k1', k2', _, _⟩ := HW0.out U (HQ11.out.trans q)
        exact allBelow12 R c'.V A S A3 D3 E3 (some ⟨gp, 0, none⟩) (some ⟨gs, 0, none⟩) Ar c'.N c'.M _ ca _ d _ l1 _ l2 _ l3 _ _ _ _ _ cr2 (.slice (some ⟨g0, 0, none⟩) R.length R.length) ks pr at_ U rfl rfl k1' k2' HO.out rfl (HWg.out U q) rfl rfl HCl'.out.1 (by have := HCl'.out.2; have := HFw.out.1; omega) (by rw [HCl'.out.2]; exact HPn.out) (by rw [HCl'.out.2]; exact HTn.out) (by rw [HCl'.out.2]; exact HA.out) rfl (HRi.out.q q) (by have := HPs.out; omega)
      have CA : Hid (∀ U, Q w11 U → Calls Tryz.prog 44 #[.agg #[.slice A ks.length ca, .slice S (layI ks).length d], .agg #[(.slice (some ⟨g0, 0, none⟩) R.length R.length), .slice A3 c'.V.length l1, .slice D3 c'.N.length l2, .slice E3 c'.M.length l3, (.slice (some ⟨gp, 0, none⟩) P.length P.length), (.slice (some ⟨gs, 0, none⟩) T.length T.length)], .int .i64 at_, .slice At2 tr.length ct2] U fun e w' => ∃ v, e = .returned v ∧ w'.ownsRow U.heap.size 48 2 v tr.length (cellsQ (tr.map fun z => (at_, repV ks c'.V z))) ∧ Q U w') := fun U q => by
        obtain ⟨k1', k2', _, _⟩ := HW0.out U (HQ11.out.trans q)
        exact allAbove12 R c'.V A S A3 D3 E3 (some ⟨gp, 0, none⟩) (some ⟨gs, 0, none⟩) At2 c'.N c'.M _ ca _ d _ l1 _ l2 _ l3 _ _ _ _ _ ct2 (.slice (some ⟨g0, 0, none⟩) R.length R.length) ks tr at_ U rfl rfl k1' k2' HO.out rfl (HWg.out U q) rfl rfl HCl'.out.1 (by have := HCl'.out.2; have := HFw.out.1; omega) (by rw [HCl'.out.2]; exact HPn.out) (by rw [HCl'.out.2]; exact HTn.out) (by rw [HCl'.out.2]; exact HA.out) rfl (HTi.out.q q) (by have := HTs.out; omega)
      subst epa
      subst eta
      have hpk : (pa.add g).block < w11.heap.size := by rw [Tr.add_block]; exact Nat.lt_of_lt_of_le hpb HQw11.out.size
      have htk : (ta.add g).block < w11.heap.size := by rw [Tr.add_block]; exact Nat.lt_of_lt_of_le htb HQw11.out.size
      have ALL : Hid (∀ U, Q w11 U → U.cell? ⟨w.heap.size, 0, none⟩ = some (.slice A ks.length ca) ∧ U.cell? ⟨w.heap.size, 1, none⟩ = some (.slice S (layI ks).length d) ∧ U.cell? ⟨O, 0, none⟩ = some (.slice (some ⟨g0, 0, none⟩) R.length R.length) ∧ U.cell? ⟨O, 1, none⟩ = some (.slice A3 c'.V.length l1) ∧ U.cell? ⟨O, 2, none⟩ = some (.slice D3 c'.N.length l2) ∧ U.cell? ⟨O, 3, none⟩ = some (.slice E3 c'.M.length l3) ∧ U.cell? ⟨O, 4, none⟩ = some (.slice (some ⟨gp, 0, none⟩) P.length P.length) ∧ U.cell? ⟨O, 5, none⟩ = some (.slice (some ⟨gs, 0, none⟩) T.length T.length) ∧ U.cell? ⟨w.heap.size + 1, 4, none⟩ = some (.slice (some pa) P.length kp) ∧ U.cell? ⟨w.heap.size + 1, 5, none⟩ = some (.slice (some ta) T.length kt) ∧ U.cell? (pa.add g) = some (.slice Ar pr.length cr2) ∧ U.cell? (ta.add g) = some (.slice At2 tr.length ct2)) := fun U q => by
        have h := HT11.out.next q
        exact ⟨h.ba.c0, h.ba.c1, h.out.c.c0, h.out.c.c1, h.out.c.c2, h.out.c.c3, h.out.c.c4, h.out.c.c5, h.bg.c4, h.bg.c5, (q.cell hpk).trans hp0, (q.cell htk).trans ht0⟩
      obtain ⟨s0, s1, s2, s3, s4, s5, s6, s7, s8, s9, s10, s11⟩ := ALL.out w11 (Q.refl _)
      have j1 : (g : Int) < (P.length : Int) := by have := HgP.out; omega
      have j2 : (g : Int) < (T.length : Int) := by have := HgT.out; omega
      clear hp0 ht0 hpb htb
      go_region_held3 (fun w' => w'.cell? ⟨w.heap.size, 0, none⟩ = some (.slice A ks.length ca) ∧ w'.cell? ⟨w.heap.size, 1, none⟩ = some (.slice S (layI ks).length d) ∧ w'.cell? ⟨O, 0, none⟩ = some (.slice (some ⟨g0, 0, none⟩) R.length R.length) ∧ w'.cell? ⟨O, 1, none⟩ = some (.slice A3 c'.V.length l1) ∧ w'.cell? ⟨O, 2, none⟩ = some (.slice D3 c'.N.length l2) ∧ w'.cell? ⟨O, 3, none⟩ = some (.slice E3 c'.M.length l3) ∧ w'.cell? ⟨O, 4, none⟩ = some (.slice (some ⟨gp, 0, none⟩) P.length P.length) ∧ w'.cell? ⟨O, 5, none⟩ = some (.slice (some ⟨gs, 0, none⟩) T.length T.length) ∧ w'.cell? ⟨w.heap.size + 1, 4, none⟩ = some (.slice (some pa) P.length kp) ∧ w'.cell? ⟨w.heap.size + 1, 5, none⟩ = some (.slice (some ta) T.length kt) ∧ w'.cell? (pa.add g) = some (.slice Ar pr.length cr2) ∧ w'.cell? (ta.add g) = some (.slice At2 tr.length ct2))
        (first
          | exact ALL.out _ p12
          | exact ⟨s0, s1, s2, s3, s4, s5, s6, s7, s8, s9, s10, s11⟩
          | go_keep)
        (first
          | (go_at_call 43; refine (CB.out _ (Q.refl w11).drew).mono ?_; rintro e w12 ⟨v12, rfl, own12, q12⟩; have Own12 := Lib.hid own12; have p12 : Q w11 w12 := (Q.refl w11).drew.trans q12; clear own12 q12))
      have HQ12 := Lib.hid p12
      clear s0 s1 s2 s3 s4 s5 s6 s7 s8 s9 s10 s11 p12
      obtain ⟨s0, s1, s2, s3, s4, s5, s6, s7, s8, s9, s10, s11⟩ := ALL.out w12 HQ12.out
      have ALS : Hid (∀ U V, Q w11 U → U.grownBy V (some Br) → V.cell? ⟨w.heap.size, 0, none⟩ = some (.slice A ks.length ca) ∧ V.cell? ⟨w.heap.size, 1, none⟩ = some (.slice S (layI ks).length d) ∧ V.cell? ⟨O, 0, none⟩ = some (.slice (some ⟨g0, 0, none⟩) R.length R.length) ∧ V.cell? ⟨O, 1, none⟩ = some (.slice A3 c'.V.length l1) ∧ V.cell? ⟨O, 2, none⟩ = some (.slice D3 c'.N.length l2) ∧ V.cell? ⟨O, 3, none⟩ = some (.slice E3 c'.M.length l3) ∧ V.cell? ⟨O, 4, none⟩ = some (.slice (some ⟨gp, 0, none⟩) P.length P.length) ∧ V.cell? ⟨O, 5, none⟩ = some (.slice (some ⟨gs, 0, none⟩) T.length T.length) ∧ V.cell? ⟨w.heap.size + 1, 4, none⟩ = some (.slice (some pa) P.length kp) ∧ V.cell? ⟨w.heap.size + 1, 5, none⟩ = some (.slice (some ta) T.length kt) ∧ V.cell? (pa.add g) = some (.slice Ar pr.length cr2) ∧ V.cell? (ta.add g) = some (.slice At2 tr.length ct2)) := fun U V q gr => by
        have h := ALL.out U q
        have hz := HBr.out
        have ho := HT11.out.lts
        have hor := HT11.out.ord
        have hs := q.size
        obtain ⟨e0, e1, e2, e3, e4, e5, e6, e7, e8, e9, e10, e11⟩ := h
        have hpb := Hpb.out
        have htb := Htb.out
        exact ⟨far_cell gr e0 (by show w.heap.size ≠ Br; omega) (by show w.heap.size < _; omega), far_cell gr e1 (by show w.heap.size ≠ Br; omega) (by show w.heap.size < _; omega), far_cell gr e2 (by show O ≠ Br; omega) (by show O < _; omega), far_cell gr e3 (by show O ≠ Br; omega) (by show O < _; omega), far_cell gr e4 (by show O ≠ Br; omega) (by show O < _; omega), far_cell gr e5 (by show O ≠ Br; omega) (by show O < _; omega), far_cell gr e6 (by show O ≠ Br; omega) (by show O < _; omega), far_cell gr e7 (by show O ≠ Br; omega) (by show O < _; omega), far_cell gr e8 (by show w.heap.size + 1 ≠ Br; omega) (by show w.heap.size + 1 < _; omega), far_cell gr e9 (by show w.heap.size + 1 ≠ Br; omega) (by show w.heap.size + 1 < _; omega), far_cell gr e10 (by rw [Tr.add_block]; omega) (by rw [Tr.add_block]; omega), far_cell gr e11 (by rw [Tr.add_block]; omega) (by rw [Tr.add_block]; omega)⟩
      have HL13 : Hid ((cellsQ (tr.map fun z => (at_, repV ks c'.V z))).length = tr.length * 2) := by unfold Hid; rw [cellsQ_len, List.length_map]
      have HL14 : Hid (pr.length + tr.length ≤ maxLen) := by have := HPs.out; have := HTs.out; unfold Hid maxLen; omega
      have HL15 : Hid ((pr.length + tr.length) * 16 ≤ 140737488355328) := by have := HPs.out; have := HTs.out; unfold Hid; omega
      have HL16 : Hid (0 < 2) := by unfold Hid; omega
      go_upto_region 11 with fail
      go_region_held3 (fun w' => w'.cell? ⟨w.heap.size, 0, none⟩ = some (.slice A ks.length ca) ∧ w'.cell? ⟨w.heap.size, 1, none⟩ = some (.slice S (layI ks).length d) ∧ w'.cell? ⟨O, 0, none⟩ = some (.slice (some ⟨g0, 0, none⟩) R.length R.length) ∧ w'.cell? ⟨O, 1, none⟩ = some (.slice A3 c'.V.length l1) ∧ w'.cell? ⟨O, 2, none⟩ = some (.slice D3 c'.N.length l2) ∧ w'.cell? ⟨O, 3, none⟩ = some (.slice E3 c'.M.length l3) ∧ w'.cell? ⟨O, 4, none⟩ = some (.slice (some ⟨gp, 0, none⟩) P.length P.length) ∧ w'.cell? ⟨O, 5, none⟩ = some (.slice (some ⟨gs, 0, none⟩) T.length T.length) ∧ w'.cell? ⟨w.heap.size + 1, 4, none⟩ = some (.slice (some pa) P.length kp) ∧ w'.cell? ⟨w.heap.size + 1, 5, none⟩ = some (.slice (some ta) T.length kt) ∧ w'.cell? (pa.add g) = some (.slice Ar pr.length cr2) ∧ w'.cell? (ta.add g) = some (.slice At2 tr.length ct2))
        (first
          | (with_reducible exact ALL.out _ p14)
          | (with_reducible exact ALL.out _ p13)
          | (with_reducible exact ALS.out _ _ p14 (set6_grown _ _ _ _ _ _ _ _))
          | exact ⟨s0, s1, s2, s3, s4, s5, s6, s7, s8, s9, s10, s11⟩
          | go_keep)
        (first
          | (go_at_call 44; refine (CA.out _ HQ12.out.drew).mono ?_; rintro e w13 ⟨v13, rfl, own13, q13⟩; have p13 : Q w11 w13 := HQ12.out.drew.trans q13; obtain ⟨A13, c13, rfl, -, hr13⟩ := Rw.own_read own13; have Hs13 : Hid (Src w13 A13 (cellsQ (tr.map fun z => (at_, repV ks c'.V z)))) := Lib.hid hr13.src; have Own13 : Hid (w13.ownsRow w11.heap.size 48 2 v12 pr.length (cellsQ (pr.map fun z => (repV ks c'.V z, at_)))) := Lib.hid (Tr.row_kept Own12.out ((Q.refl w12).drew.trans q13) (Nat.le_refl _)); have HB13 := Lib.hid p13.size; clear own13 q13 hr13)
          | (refine step_append_src _ rfl (.tmp 77) (.tmp 86) _ rfl w11.heap.size 48 i0 _ 2 16 Tryz.underlying36 Hi.out Hz0.out Hz1.out Hz2.out rfl HL16.out v12 pr.length _ rfl Own13.out A13 tr.length c13 _ rfl HL13.out Hs13.out (cellsQ_one _) HL14.out HL15.out HB13.out ?_; intro v14 w14 own14 gr14 at14; have Own14 := Lib.hid own14; have p14 : Q w11 w14 := p13.grown gr14 p13.size (fun b hb => (Own13.out.lt b hb).1); have hX14 := (HT11.out.next p14).res; have x0 := hX14.c.c0; have x1 := hX14.c.c1; have x2 := hX14.c.c2; have x3 := hX14.c.c3; have x4 := hX14.c.c4; have x5 := hX14.c.c5; have xf0 := hX14.f0; have xf1 := hX14.f1; have xf2 := hX14.f2; have xf3 := hX14.f3; have xf4 := hX14.f4; have xf5 := hX14.f5; clear own14 gr14 at14 hX14)
          | fail)
      have HQ14 := Lib.hid p14
      have BZ := Lib.hid ((HT11.out.next HQ14.out).res.set (.slice (some ⟨g0, 0, none⟩) R.length R.length) (.slice A3 c'.V.length l1) (.slice D3 c'.N.length l2) (.slice E3 c'.M.length l3) (.slice (some ⟨gp, 0, none⟩) P.length P.length) (.slice (some ⟨gs, 0, none⟩) T.length T.length))
      have hgr := Lib.hid (set6_grown w14 Br (.slice (some ⟨g0, 0, none⟩) R.length R.length) (.slice A3 c'.V.length l1) (.slice D3 c'.N.length l2) (.slice E3 c'.M.length l3) (.slice (some ⟨gp, 0, none⟩) P.length P.length) (.slice (some ⟨gs, 0, none⟩) T.length T.length))
      clear s0 s1 s2 s3 s4 s5 s6 s7 s8 s9 s10 s11 x0 x1 x2 x3 x4 x5 xf0 xf1 xf2 xf3 xf4 xf5 p13 p14
      go_wp2_with fail
      have y0 := BZ.out.c.c0
      have y1 := BZ.out.c.c1
      have y2 := BZ.out.c.c2
      have y3 := BZ.out.c.c3
      have y4 := BZ.out.c.c4
      have y5 := BZ.out.c.c5
      have e5 : (P.set g []).length = P.length := by simp
      have e6 : (T.set g []).length = T.length := by simp
      refine bodyPost_ret (v := .tuple #[gvP R c' (P.set g []) (T.set g []) (some ⟨g0, 0, none⟩) A3 D3 E3 (some ⟨gp, 0, none⟩) (some ⟨gs, 0, none⟩) R.length l1 l2 l3 P.length T.length, v14]) (by unfold gvP; rw [e5, e6]; simp [results, Tryz.f10, go_sem, y0, y1, y2, y3, y4, y5]) rfl ?_
      first | rw [if_neg HNe.out] | skip
      rw [← HLo.out, ← HHi.out, ← HC'.out, ← HPr.out, ← HTr.out, ← HAt.out]
      have hbr := HBr.out
      have hl6 := HS6.out.lts
      have ho := HT11.out.ord
      have hg := (HT11.out.next HQ14.out).grp (K := fun b => b ≠ Br ∧ w.heap.size ≤ b) (onoq HU11.out HQ14.out) (by omega) (fun b hb => ⟨by omega, by omega⟩) (by rw [e5]; exact Nat.le_refl _) (by rw [e6]; exact Nat.le_refl _)
      have hg2 := hg.to (agree_grown (P := fun b => b ≠ Br ∧ w.heap.size ≤ b) hgr.out (fun hk => hk.1 rfl)) (K' := fun b => w.heap.size ≤ b) (fun b hb _ => hb.2)
      have hw := HQw11.out.size
      have hbx := HT11.out.res.c.lt
      have hown := Own14.out.kept hgr.out (.inr (fun e => by have := (Own14.out.lt _ e).1; omega))
      have hown2 := Tr.row_kept hown (Q.refl _) hw
      rw [show pr.length + tr.length = (comeV ks c'.V pr tr at_).length by simp [comeV], ← cellsQ_append] at hown2
      exact oneans hg2 hown2 (grown_q hgr.out (HQw11.out.trans HQ14.out) (by omega))
end Go.Proofs.YtjmopbimleoidaaGreat.Ig

namespace Go.Proofs.YtjmopbimleoidaaGreat.Ig
open Go.RowKit Kit Tr Uf
open Go.Proofs.YtjmopbimleoidaaGreat.Hs (Keys Ints BoxT layI Dist refLay_any LayPost)
open Go.Proofs.YtjmopbimleoidaaGreat.Tm (Tm termAt of_any Box4)
def twoK : List (List Int) := [[0, 0, 0], [1, 0, 0], [2, 0, 0], [2, 1, 0]]
theorem own_ints12 {w : World} {g : Nat} {l : List Int} {K : Nat → Prop} (h : OwnC w g (cellsI l)) (hk : K g) : Hs.IntsP w K (some ⟨g, 0, none⟩) l := fun _ => ⟨_, rfl, hk, h.1, fun i x hx => by rw [Tr.add_zero_head]; exact (h.2 i _ (by simp [cellsI, hx])).1⟩
theorem own_new12 (w : World) (cs : List Value) (t : TypeId) : OwnC (w.alloc (.cells cs.toArray t)) w.heap.size cs := by
  refine ⟨by simp, fun j v hv => ⟨?_, World.frozen?_alloc_at _ _ _ _ rfl⟩⟩
  rw [cell_of_row _ _ _ _ _ _ (heap_alloc_new w _)]
  simpa using hv
theorem two_keys (W0 : World) : Hs.KeysP (((((W0.alloc (Obj.cells #[.int .i64 0, .int .i64 0, .int .i64 0] 3)).alloc (Obj.cells #[.int .i64 1, .int .i64 0, .int .i64 0] 3)).alloc (Obj.cells #[.int .i64 2, .int .i64 0, .int .i64 0] 3)).alloc (Obj.cells #[.int .i64 2, .int .i64 1, .int .i64 0] 3)).alloc (Obj.cells #[.slice (some ⟨W0.heap.size, 0, none⟩) 3 3, .slice (some ⟨(W0.heap.size + 1), 0, none⟩) 3 3, .slice (some ⟨(W0.heap.size + 1 + 1), 0, none⟩) 3 3, .slice (some ⟨(W0.heap.size + 1 + 1 + 1), 0, none⟩) 3 3] 24)) (fun b => W0.heap.size ≤ b) (some ⟨(W0.heap.size + 1 + 1 + 1 + 1), 0, none⟩) twoK ∧ Q W0 (((((W0.alloc (Obj.cells #[.int .i64 0, .int .i64 0, .int .i64 0] 3)).alloc (Obj.cells #[.int .i64 1, .int .i64 0, .int .i64 0] 3)).alloc (Obj.cells #[.int .i64 2, .int .i64 0, .int .i64 0] 3)).alloc (Obj.cells #[.int .i64 2, .int .i64 1, .int .i64 0] 3)).alloc (Obj.cells #[.slice (some ⟨W0.heap.size, 0, none⟩) 3 3, .slice (some ⟨(W0.heap.size + 1), 0, none⟩) 3 3, .slice (some ⟨(W0.heap.size + 1 + 1), 0, none⟩) 3 3, .slice (some ⟨(W0.heap.size + 1 + 1 + 1), 0, none⟩) 3 3] 24)) := by
  have o0 := own_new12 W0 [.int .i64 0, .int .i64 0, .int .i64 0] 3
  have q0 := (Q.refl W0).alloc (Obj.cells #[.int .i64 0, .int .i64 0, .int .i64 0] 3)
  have z0 : (W0.alloc (Obj.cells #[.int .i64 0, .int .i64 0, .int .i64 0] 3)).heap.size = W0.heap.size + 1 := by simp
  generalize W0.alloc (Obj.cells #[.int .i64 0, .int .i64 0, .int .i64 0] 3) = X1 at *
  have o1 := own_new12 X1 [.int .i64 1, .int .i64 0, .int .i64 0] 3
  have q1 := (Q.refl X1).alloc (Obj.cells #[.int .i64 1, .int .i64 0, .int .i64 0] 3)
  have z1 : (X1.alloc (Obj.cells #[.int .i64 1, .int .i64 0, .int .i64 0] 3)).heap.size = X1.heap.size + 1 := by simp
  generalize X1.alloc (Obj.cells #[.int .i64 1, .int .i64 0, .int .i64 0] 3) = X2 at *
  have o2 := own_new12 X2 [.int .i64 2, .int .i64 0, .int .i64 0] 3
  have q2 := (Q.refl X2).alloc (Obj.cells #[.int .i64 2, .int .i64 0, .int .i64 0] 3)
  have z2 : (X2.alloc (Obj.cells #[.int .i64 2, .int .i64 0, .int .i64 0] 3)).heap.size = X2.heap.size + 1 := by simp
  generalize X2.alloc (Obj.cells #[.int .i64 2, .int .i64 0, .int .i64 0] 3) = X3 at *
  have o3 := own_new12 X3 [.int .i64 2, .int .i64 1, .int .i64 0] 3
  have q3 := (Q.refl X3).alloc (Obj.cells #[.int .i64 2, .int .i64 1, .int .i64 0] 3)
  have z3 : (X3.alloc (Obj.cells #[.int .i64 2, .int .i64 1, .int .i64 0] 3)).heap.size = X3.heap.size + 1 := by simp
  generalize X3.alloc (Obj.cells #[.int .i64 2, .int .i64 1, .int .i64 0] 3) = X4 at *
  have e1 : X1.heap.size = W0.heap.size + 1 := z0
  have e2 : X2.heap.size = W0.heap.size + 1 + 1 := by omega
  have e3 : X3.heap.size = W0.heap.size + 1 + 1 + 1 := by omega
  have e4 : X4.heap.size = W0.heap.size + 1 + 1 + 1 + 1 := by omega
  have o4 := own_new12 X4 [.slice (some ⟨W0.heap.size, 0, none⟩) 3 3, .slice (some ⟨(W0.heap.size + 1), 0, none⟩) 3 3, .slice (some ⟨(W0.heap.size + 1 + 1), 0, none⟩) 3 3, .slice (some ⟨(W0.heap.size + 1 + 1 + 1), 0, none⟩) 3 3] 24
  have q4 := (Q.refl X4).alloc (Obj.cells #[.slice (some ⟨W0.heap.size, 0, none⟩) 3 3, .slice (some ⟨(W0.heap.size + 1), 0, none⟩) 3 3, .slice (some ⟨(W0.heap.size + 1 + 1), 0, none⟩) 3 3, .slice (some ⟨(W0.heap.size + 1 + 1 + 1), 0, none⟩) 3 3] 24)
  rw [e4] at o4
  rw [e1] at o1
  rw [e2] at o2
  rw [e3] at o3
  generalize X4.alloc (Obj.cells #[.slice (some ⟨W0.heap.size, 0, none⟩) 3 3, .slice (some ⟨(W0.heap.size + 1), 0, none⟩) 3 3, .slice (some ⟨(W0.heap.size + 1 + 1), 0, none⟩) 3 3, .slice (some ⟨(W0.heap.size + 1 + 1 + 1), 0, none⟩) 3 3] 24) = X5 at *
  have q34 := q3.trans q4
  have q24 := q2.trans q34
  have q14 := q1.trans q24
  refine ⟨fun _ => ⟨_, rfl, (by show W0.heap.size ≤ W0.heap.size + 1 + 1 + 1 + 1; omega), o4.1, fun i k hk => ?_⟩, q0.trans q14⟩
  match i, hk with
  | 0, hk =>
    obtain rfl : [0, 0, 0] = k := by simpa [twoK] using hk
    exact ⟨some ⟨W0.heap.size, 0, none⟩, 3, Nat.le_refl _, by rw [Hs.add_zero_head]; exact (o4.2 0 _ rfl).1, own_ints12 (l := [0, 0, 0]) (o0.q q14) (by show W0.heap.size ≤ W0.heap.size; omega)⟩
  | 1, hk =>
    obtain rfl : [1, 0, 0] = k := by simpa [twoK] using hk
    exact ⟨some ⟨(W0.heap.size + 1), 0, none⟩, 3, Nat.le_refl _, by rw [Hs.add_zero_head]; exact (o4.2 1 _ rfl).1, own_ints12 (l := [1, 0, 0]) (o1.q q24) (by show W0.heap.size ≤ (W0.heap.size + 1); omega)⟩
  | 2, hk =>
    obtain rfl : [2, 0, 0] = k := by simpa [twoK] using hk
    exact ⟨some ⟨(W0.heap.size + 1 + 1), 0, none⟩, 3, Nat.le_refl _, by rw [Hs.add_zero_head]; exact (o4.2 2 _ rfl).1, own_ints12 (l := [2, 0, 0]) (o2.q q34) (by show W0.heap.size ≤ (W0.heap.size + 1 + 1); omega)⟩
  | 3, hk =>
    obtain rfl : [2, 1, 0] = k := by simpa [twoK] using hk
    exact ⟨some ⟨(W0.heap.size + 1 + 1 + 1), 0, none⟩, 3, Nat.le_refl _, by rw [Hs.add_zero_head]; exact (o4.2 3 _ rfl).1, own_ints12 (l := [2, 1, 0]) (o3.q q4) (by show W0.heap.size ≤ (W0.heap.size + 1 + 1 + 1); omega)⟩
  | i + 4, hk => simp [twoK] at hk
/-- the store is as it is in whatever world comes -/
def TwoPost (w : World) (e : Ending) (w' : World) : Prop := ∃ A S, e = .returned (.agg #[.slice A 4 4, .slice S 8 8]) ∧ Keys w' w'.heap.size A twoK ∧ Ints w' w'.heap.size S (layI twoK) ∧ Q w w'
theorem size_two : Hs.sizeN twoK.length = 8 := by
  show Hs.sizeN 4 = 8
  unfold Hs.sizeN; rw [Hs.sizeG_ge (by omega)]
set_option maxRecDepth 100000 in
set_option maxHeartbeats 4000000 in
theorem two_any (w : World) : Calls Tryz.prog 28 #[] w (TwoPost w) := by
  have HZ := Lib.hid (BoxT.new w (.slice none 0 0) (.slice none 0 0) 26)
  have HQ0 := Lib.hid ((Q.refl w).alloc (Obj.cells #[.slice none 0 0, .slice none 0 0] 26))
  have HF : Hid ((w.alloc (Obj.cells #[.slice none 0 0, .slice none 0 0] 26)).frozen? ⟨w.heap.size, 0, none⟩ = false ∧ (w.alloc (Obj.cells #[.slice none 0 0, .slice none 0 0] 26)).frozen? ⟨w.heap.size, 1, none⟩ = false) := by unfold Hid; simp
  have HOw := Lib.hid (own_new12 w [.slice none 0 0, .slice none 0 0] 26)
  go_enter Tryz.func28, Tryz.ntmps28
  go_upto_region 1 with fail
  generalize w.alloc (Obj.cells #[.slice none 0 0, .slice none 0 0] 26) = W0 at *
  obtain ⟨hk, hq⟩ := two_keys W0
  have HK := Lib.hid hk
  have HQ1 := Lib.hid hq
  clear hk hq
  go_upto_region 2 with fail
  generalize (((((W0.alloc (Obj.cells #[.int .i64 0, .int .i64 0, .int .i64 0] 3)).alloc (Obj.cells #[.int .i64 1, .int .i64 0, .int .i64 0] 3)).alloc (Obj.cells #[.int .i64 2, .int .i64 0, .int .i64 0] 3)).alloc (Obj.cells #[.int .i64 2, .int .i64 1, .int .i64 0] 3)).alloc (Obj.cells #[.slice (some ⟨W0.heap.size, 0, none⟩) 3 3, .slice (some ⟨(W0.heap.size + 1), 0, none⟩) 3 3, .slice (some ⟨(W0.heap.size + 1 + 1), 0, none⟩) 3 3, .slice (some ⟨(W0.heap.size + 1 + 1 + 1), 0, none⟩) 3 3] 24)) = X5 at *
  have CL := Lib.hid (refLay_any (some ⟨(W0.heap.size + 1 + 1 + 1 + 1), 0, none⟩) 4 4 twoK X5 rfl HK.out.keys (by decide) (by decide))
  go_wp2_with (go_at_call 54; refine CL.out.mono ?_; rintro e w1 ⟨g, rfl, hg, hO, q1⟩; rw [size_two]; have HO := Lib.hid hO; have HQ2 := Lib.hid q1; have hb := HOw.out.q (HQ1.out.trans q1); have x0 := (hb.2 0 _ rfl).1; have x1 := (hb.2 1 _ rfl).1; have f0 := (hb.2 0 _ rfl).2; have f1 := (hb.2 1 _ rfl).2; have HB := Lib.hid hb; have Hg := Lib.hid hg; clear hO hb hg q1)
  have hb2 := (HB.out.set (s := 0) (by simp) (.slice (some ⟨(W0.heap.size + 1 + 1 + 1 + 1), 0, none⟩) 4 4)).set (s := 1) (by simp) (.slice (some ⟨g, 0, none⟩) 8 8)
  have y0 := (hb2.2 0 _ rfl).1
  have y1 := (hb2.2 1 _ rfl).1
  have gr := grown_trans (setCell_grown w1 w.heap.size 0 (.slice (some ⟨(W0.heap.size + 1 + 1 + 1 + 1), 0, none⟩) 4 4)) (setCell_grown (w1.setCell ⟨w.heap.size, 0, none⟩ (.slice (some ⟨(W0.heap.size + 1 + 1 + 1 + 1), 0, none⟩) 4 4)) w.heap.size 1 (.slice (some ⟨g, 0, none⟩) 8 8))
  refine bodyPost_ret (v := .agg #[.slice (some ⟨(W0.heap.size + 1 + 1 + 1 + 1), 0, none⟩) 4 4, .slice (some ⟨g, 0, none⟩) 8 8]) (by simp [results, Tryz.f28, go_sem, y0, y1]) rfl ⟨_, _, rfl, ?_, ?_, grown_q gr (HQ0.out.trans (HQ1.out.trans HQ2.out)) (Nat.le_refl _)⟩
  · have hw0 := HZ.out.lt
    exact ((HK.out.q HQ2.out).to gr.size (agree_grown (P := fun b => W0.heap.size ≤ b) gr (by show ¬ W0.heap.size ≤ w.heap.size; omega)).2)
  · have hw0 := HZ.out.lt
    have hg := Hg.out
    have hs := HQ1.out.size
    have := (own_ints12 (K := fun b => W0.heap.size ≤ b) (w := w1) (g := g) (l := layI twoK) ⟨HO.out.1, fun j v hv => by
      have hj := (List.getElem?_eq_some_iff.1 hv).1
      rw [cellsI_len] at hj
      rw [cellsI_at hj] at hv
      injection hv with hv
      subst hv
      exact HO.out.at_ hj⟩ (by show W0.heap.size ≤ g; omega))
    exact this.to gr.size (agree_grown (P := fun b => W0.heap.size ≤ b) gr (by show ¬ W0.heap.size ≤ w.heap.size; omega)).2
end Go.Proofs.YtjmopbimleoidaaGreat.Ig

namespace Go.Proofs.YtjmopbimleoidaaGreat.Ig
open Go.RowKit Kit Tr Uf
open Go.Proofs.YtjmopbimleoidaaGreat.Hs (Keys Ints BoxT layI)
open Go.Proofs.YtjmopbimleoidaaGreat.Tm (Tm termAt of_any Box4)
/-- the boxes that a closure sees -/
def threeF (w : World) (a1 a2 f1 f2 f3 f4 f5 f6 s : Value) : World := ((w.alloc (.cells #[a1, a2] 26)).alloc (.cells #[f1, f2, f3, f4, f5, f6] 31)).alloc (.cells #[s] 24)
def mayFn (B : Nat) : Value := .func (.func 148) #[] #[.pointer (some ⟨B, 0, none⟩), .pointer (some ⟨B + 1, 0, none⟩), .pointer (some ⟨B + 1 + 1, 0, none⟩)]
theorem mayStand_any (a1 a2 f1 f2 f3 f4 f5 f6 : Value) (kb : Option Addr) (nk ck : Nat) (w : World) :
    Calls Tryz.prog 114 #[.agg #[a1, a2], .agg #[f1, f2, f3, f4, f5, f6], .slice kb nk ck] w fun e w' => e = .returned (mayFn w.heap.size) ∧ w' = threeF w a1 a2 f1 f2 f3 f4 f5 f6 (.slice kb nk ck) := by
  go_enter Tryz.func114, Tryz.ntmps114
  go_wp2_with fail
  go_ret
  exact ⟨rfl, rfl⟩
/-- a closure that was made: it is called so, and its boxes hold the store, and the graph -/
def MayPost (a1 a2 f1 f2 f3 f4 f5 f6 : Value) (w : World) (e : Ending) (w' : World) : Prop := ∃ B, e = .returned (mayFn B) ∧ BoxT w' B a1 a2 ∧ Box6 w' (B + 1) f1 f2 f3 f4 f5 f6 ∧ Q w w'
theorem threeF_boxes (w W : World) (a1 a2 f1 f2 f3 f4 f5 f6 s : Value) (q : Q w W) : BoxT (threeF W a1 a2 f1 f2 f3 f4 f5 f6 s) W.heap.size a1 a2 ∧ Box6 (threeF W a1 a2 f1 f2 f3 f4 f5 f6 s) (W.heap.size + 1) f1 f2 f3 f4 f5 f6 ∧ Q w (threeF W a1 a2 f1 f2 f3 f4 f5 f6 s) := by
  refine ⟨(BoxT.new W a1 a2 26).q (((Q.refl _).alloc _).alloc _), ?_, ((q.alloc _).alloc _).alloc _⟩
  have X := (Box6.new (W.alloc (.cells #[a1, a2] 26)) f1 f2 f3 f4 f5 f6 31).q ((Q.refl _).alloc (.cells #[s] 24))
  rw [World.size_alloc] at X
  exact X
set_option maxRecDepth 100000 in
set_option maxHeartbeats 2000000 in
theorem inPre_any (a1 a2 f1 f2 f3 f4 f5 f6 : Value) (w : World) : Calls Tryz.prog 72 #[.agg #[a1, a2], .agg #[f1, f2, f3, f4, f5, f6]] w (MayPost a1 a2 f1 f2 f3 f4 f5 f6 w) := by
  have q0 := ((Q.refl w).alloc (Obj.cells #[a1, a2] 26)).alloc (Obj.cells #[f1, f2, f3, f4, f5, f6] 31)
  have HB := Lib.hid ((BoxT.new w a1 a2 26).q ((Q.refl _).alloc (Obj.cells #[f1, f2, f3, f4, f5, f6] 31)))
  have X := Box6.new (w.alloc (Obj.cells #[a1, a2] 26)) f1 f2 f3 f4 f5 f6 31
  rw [World.size_alloc] at X
  have HG := Lib.hid X
  clear X
  go_enter Tryz.func72, Tryz.ntmps72
  go_upto_region 1 with fail
  generalize (w.alloc (Obj.cells #[a1, a2] 26)).alloc (Obj.cells #[f1, f2, f3, f4, f5, f6] 31) = W0 at *
  have b0 := HB.out.c0
  have b1 := HB.out.c1
  have g0 := HG.out.c0
  have g1 := HG.out.c1
  have g2 := HG.out.c2
  have g3 := HG.out.c3
  have g4 := HG.out.c4
  have g5 := HG.out.c5
  go_wp2_with (go_at_call 114; refine (mayStand_any a1 a2 f1 f2 f3 f4 f5 f6 _ _ _ _).mono ?_; rintro e w1 ⟨rfl, rfl⟩)
  go_ret
  obtain ⟨h1, h2, h3⟩ := threeF_boxes w (W0.alloc (Obj.cells #[.int .i64 3, .int .i64 1] 3)) a1 a2 f1 f2 f3 f4 f5 f6 (.slice (some ⟨W0.heap.size, 0, none⟩) 2 2) (q0.alloc _)
  rw [World.size_alloc] at h1 h2
  exact ⟨_, rfl, h1, h2, h3⟩
set_option maxRecDepth 100000 in
set_option maxHeartbeats 2000000 in
theorem inSuc_any (a1 a2 f1 f2 f3 f4 f5 f6 : Value) (w : World) : Calls Tryz.prog 73 #[.agg #[a1, a2], .agg #[f1, f2, f3, f4, f5, f6]] w (MayPost a1 a2 f1 f2 f3 f4 f5 f6 w) := by
  have q0 := ((Q.refl w).alloc (Obj.cells #[a1, a2] 26)).alloc (Obj.cells #[f1, f2, f3, f4, f5, f6] 31)
  have HB := Lib.hid ((BoxT.new w a1 a2 26).q ((Q.refl _).alloc (Obj.cells #[f1, f2, f3, f4, f5, f6] 31)))
  have X := Box6.new (w.alloc (Obj.cells #[a1, a2] 26)) f1 f2 f3 f4 f5 f6 31
  rw [World.size_alloc] at X
  have HG := Lib.hid X
  clear X
  go_enter Tryz.func73, Tryz.ntmps73
  go_upto_region 1 with fail
  generalize (w.alloc (Obj.cells #[a1, a2] 26)).alloc (Obj.cells #[f1, f2, f3, f4, f5, f6] 31) = W0 at *
  have b0 := HB.out.c0
  have b1 := HB.out.c1
  have g0 := HG.out.c0
  have g1 := HG.out.c1
  have g2 := HG.out.c2
  have g3 := HG.out.c3
  have g4 := HG.out.c4
  have g5 := HG.out.c5
  go_wp2_with (go_at_call 114; refine (mayStand_any a1 a2 f1 f2 f3 f4 f5 f6 _ _ _ _).mono ?_; rintro e w1 ⟨rfl, rfl⟩)
  go_ret
  obtain ⟨h1, h2, h3⟩ := threeF_boxes w (W0.alloc (Obj.cells #[.int .i64 3, .int .i64 6, .int .i64 0] 3)) a1 a2 f1 f2 f3 f4 f5 f6 (.slice (some ⟨W0.heap.size, 0, none⟩) 3 3) (q0.alloc _)
  rw [World.size_alloc] at h1 h2
  exact ⟨_, rfl, h1, h2, h3⟩

set_option maxRecDepth 100000 in
set_option maxHeartbeats 4000000 in
/-- asked of a variable that is there, and ahead -/
theorem mayVar_any (B : Nat) (A S F Av Pa Ta : Option Addr) (n c ms d nr cr m cv mp cp mt ct : Nat) (b2 b3 : Value) (R : List Int) (ks : List (List Int)) (v id : Int) (t : Tm) (w : World) (hn : n = ks.length) (hk : Keys w w.heap.size A ks) (hkey : ∀ k ∈ ks, k.length ≤ 100000) (hnr : nr = R.length) (hR : Tr.Rds w w.heap.size F (cellsI R))
    (hmp : mp = m) (hmt : mt = m) (hB : BoxT w B (.slice A n c) (.slice S ms d)) (hG : Box6 w (B + 1) (.slice F nr cr) (.slice Av m cv) b2 b3 (.slice Pa mp cp) (.slice Ta mt ct)) (ht : termAt ks id = some t) (h2 : t.k = 2) (hs : 0 ≤ t.s ∧ t.s < (m : Int)) (hl : lessB R t.s v = true) :
    Calls Tryz.prog 148 #[.int .i64 v, .int .i64 id, .pointer (some ⟨B, 0, none⟩), .pointer (some ⟨B + 1, 0, none⟩), .pointer (some ⟨B + 1 + 1, 0, none⟩)] w fun e w' => e = .returned (.bool true) ∧ Q w w' := by
  subst hn hnr hmp hmt
  have HB := Lib.hid hB
  have HG := Lib.hid hG
  have HT := Lib.hid ht
  have C := Lib.hid (of_any A S _ c ms d ks id w rfl hk hkey)
  have HR := Lib.hid hR
  have HL := Lib.hid hl
  have HS := Lib.hid hs
  have H2 := Lib.hid h2
  clear hB hG hk hkey hR hl hs h2 ht
  go_enter Tryz.func148, Tryz.ntmps148
  have b0 := HB.out.c0
  have b1 := HB.out.c1
  go_upto_region 2 with (go_at_call 111; refine C.out.mono ?_; rintro e w2 ⟨At, nt, ct', rfl, rfl, _, q1⟩; rw [HT.out])
  try simp only [Option.getD_some, Option.isSome_some]
  have qt := q1.alloc (Obj.cells #[.int .i64 t.k, .int .i64 t.s, .int .i64 t.p, .slice At t.xs.length ct'] 107)
  have HGq := Lib.hid (HG.out.q qt)
  have HB4 := Lib.hid (Box4.new w2 (.int .i64 t.k) (.int .i64 t.s) (.int .i64 t.p) (.slice At t.xs.length ct') 107)
  have HQt := Lib.hid qt
  clear b0 b1 C q1 qt
  generalize w2.alloc (Obj.cells #[.int .i64 t.k, .int .i64 t.s, .int .i64 t.p, .slice At t.xs.length ct'] 107) = W2 at *
  have g0 := HGq.out.c0
  have g1 := HGq.out.c1
  have g2 := HGq.out.c2
  have g3 := HGq.out.c3
  have g4 := HGq.out.c4
  have g5 := HGq.out.c5
  have x0 := HB4.out.c0
  have x1 := HB4.out.c1
  rw [H2.out] at x0
  have CT : Hid (Calls Tryz.prog 39 #[.agg #[.slice F R.length cr, .slice Av mt cv, b2, b3, .slice Pa mt cp, .slice Ta mt ct], .int .i64 t.s] W2 fun e w' => e = .returned (.bool true) ∧ Q W2 w') := by
    have h := there12 mt (.slice F R.length cr) b2 b3 Av Pa Ta cv cp ct t.s W2
    rw [decide_eq_true HS.out.1, decide_eq_true HS.out.2] at h
    exact h
  have CL : Hid (∀ U, Q W2 U → Calls Tryz.prog 40 #[.slice F R.length cr, .int .i64 t.s, .int .i64 v] U fun e w' => e = .returned (.bool true) ∧ Q U w') := fun U q => by
    have h := less_any R F R.length cr t.s v U rfl (HR.out.q (HQt.out.trans q))
    rw [HL.out] at h
    exact h
  go_wp2_with (first
    | (go_at_call 39; refine CT.out.mono ?_; rintro e w3 ⟨rfl, q3⟩; have HQ3 := Lib.hid q3; have y0 := (HGq.out.q q3).c0; have y1 := (HB4.out.q q3).c1; clear g0 g1 g2 g3 g4 g5 x0 x1 q3)
    | (go_at_call 40; refine (CL.out _ HQ3.out).mono ?_; rintro e w4 ⟨rfl, q4⟩))
  go_ret
  exact ⟨rfl, HQt.out.trans (HQ3.out.trans q4)⟩

set_option maxRecDepth 100000 in
set_option maxHeartbeats 2000000 in
theorem search_none (A : Option Addr) (c : Nat) (x : Int) (w : World) : Calls Tryz.prog 144 #[.slice A 0 c, .int .i64 x] w fun e w' => e = .returned (.tuple #[.int .i64 0, .bool false]) ∧ Q w w' := by
  go_enter Tryz.func144, Tryz.ntmps144
  go_wp2_with fail
  go_loopw [7, 8] (fun i j wr => i = .int .i64 0 ∧ j = .int .i64 0 ∧ w = wr) (fun _ _ _ => 0)
  case atStart => exact ⟨rfl, rfl, rfl⟩
  case round =>
    obtain ⟨rfl, rfl, rfl⟩ := hrel
    go_wp2_with fail
    go_ret2
    exact ⟨rfl, Q.refl _⟩
set_option maxRecDepth 100000 in
set_option maxHeartbeats 2000000 in
theorem insert_none (base : Nat) (A D : Option Addr) (c cd : Nat) (x : Int) (w : World) (h : w.ownsRow base 3 1 (.slice A 0 c) 0 []) (hb : base ≤ w.heap.size) (hx : Tr.Rds w w.heap.size D (cellsI [x])) :
    Calls Tryz.prog 145 #[.slice A 0 c, .int .i64 0, .slice D 1 cd] w fun e w' => ∃ v, e = .returned v ∧ w'.ownsRow base 3 1 v 1 (cellsI [x]) ∧ w.grownBy w' (Value.slice A 0 c).ownBlock ∧ (v.ownBlock = (Value.slice A 0 c).ownBlock ∨ v.ownBlock = some w.heap.size) := by
  obtain ⟨i0, hi, hz0, hz1, hz2⟩ := info_parts Tr.intInfo
  have Hi := Lib.hid hi
  have Hz0 := Lib.hid hz0
  have Hz1 := Lib.hid hz1
  have Hz2 := Lib.hid hz2
  have HO := Lib.hid h
  have Hx := Lib.hid hx.src
  have Hb := Lib.hid hb
  clear hi hz0 hz1 hz2 h hx hb
  go_enter Tryz.func145, Tryz.ntmps145
  go_wp2_with (at_builtin; refine wpList_append_src _ rfl (.tmp 23) (.tmp 24) _ rfl base 3 i0 _ 1 8 Tryz.underlying24 Hi.out Hz0.out Hz1.out Hz2.out rfl (by omega) (.slice A 0 c) 0 [] rfl HO.out D 1 cd (cellsI [x]) rfl (by simp [cellsI]) Hx.out (cellsI_one _) (by unfold maxLen; omega) (by omega) Hb.out ?_; intro v' w5 own5 gr5 at5)
  go_ret
  exact ⟨_, rfl, own5, gr5, at5⟩
end Go.Proofs.YtjmopbimleoidaaGreat.Ig

namespace Go.Proofs.YtjmopbimleoidaaGreat.Ig
open Go.RowKit Kit Tr Uf
open Go.Proofs.YtjmopbimleoidaaGreat.Hs (Keys Ints BoxT layI)
open Go.Proofs.YtjmopbimleoidaaGreat.Tm (Tm termAt of_any Box4)
theorem grown_of_none {w w' : World} (h : w.grownBy w' none) (b : Nat) : w.grownBy w' (some b) := ⟨h.os, h.tape, h.output, h.size, fun i hi _ => h.block i hi (fun e => by cases e)⟩
theorem frz_block {w w' : World} {b i : Nat} (h : w'.heap[b]? = w.heap[b]?) : w'.frozen? ⟨b, i, none⟩ = w.frozen? ⟨b, i, none⟩ := by simp only [World.frozen?, h]
/-- what the example's row is laid with -/
def LayEx (gp e : Nat) (w w' : World) : Prop := ∃ A c D cd w2 w3 G, Q w w2 ∧ gp ≤ G ∧ G < e ∧ w2.grownBy w3 (some G) ∧ w3.grownBy w' (some gp) ∧ w'.cell? ⟨gp, 0, none⟩ = some (.slice A 0 c) ∧ w'.cell? ⟨gp, 1, none⟩ = some (.slice (some ⟨D, 0, none⟩) 1 cd) ∧ 1 ≤ cd ∧ OwnC w' D (cellsI [2]) ∧ gp < D ∧ (D < e ∨ w.heap.size ≤ D)
set_option maxRecDepth 100000 in
set_option maxHeartbeats 4000000 in
theorem lay_ex (gp e : Nat) (w : World) (h : Tab w gp e [[], []]) : Calls Tryz.prog 112 #[.pointer (some ⟨gp, 1, none⟩), .int .i64 2] w fun er w' => er = .returned (.bool true) ∧ LayEx gp e w w' := by
  obtain ⟨A0, c0', x0, f0, -⟩ := h.cell (y := 0) (by simp)
  obtain ⟨A1, c1', x1, f1, hr⟩ := h.cell (y := 1) (by simp)
  simp only [List.getElem_cons_zero, List.getElem_cons_succ, List.length_nil] at x0 x1 hr
  have HX0 := Lib.hid x0
  have HX1 := Lib.hid x1
  have HF1 := Lib.hid f1
  have HT := Lib.hid h
  have HR := Lib.hid hr
  clear x0 f0 f1 h hr
  go_enter Tryz.func112, Tryz.ntmps112
  go_upto_region 2 with (go_at_call 144; refine (search_none A1 c1' 2 _).mono ?_; rintro er w1 ⟨rfl, q1⟩; have HQ1 := Lib.hid q1; clear q1)
  have y1 := (HQ1.out.cell (p := ⟨gp, 1, none⟩) (Nat.lt_of_lt_of_le HT.out.lt HT.out.le)).trans x1
  have qa := HQ1.out.alloc (Obj.cells #[.int .i64 2] 3)
  have HQa := Lib.hid qa
  have HD : Hid (Tr.Rds (w1.alloc (Obj.cells #[.int .i64 2] 3)) (w1.alloc (Obj.cells #[.int .i64 2] 3)).heap.size (some ⟨w1.heap.size, 0, none⟩) (cellsI [2])) := Lib.hid (OwnC.rds (own_new12 w1 [.int .i64 2] 3))
  have HRq := Lib.hid (HR.out.q qa)
  have HTq := Lib.hid (HT.out.q qa)
  clear qa x1
  have CI : Hid (Calls Tryz.prog 145 #[.slice A1 0 c1', .int .i64 0, .slice (some ⟨w1.heap.size, 0, none⟩) 1 1] (w1.alloc (Obj.cells #[.int .i64 2] 3)) fun e w' => ∃ v, e = .returned v ∧ w'.ownsRow (gp + 1) 3 1 v 1 (cellsI [2]) ∧ (w1.alloc (Obj.cells #[.int .i64 2] 3)).grownBy w' (Value.slice A1 0 c1').ownBlock ∧ (v.ownBlock = (Value.slice A1 0 c1').ownBlock ∨ v.ownBlock = some (w1.alloc (Obj.cells #[.int .i64 2] 3)).heap.size)) := insert_none (gp + 1) A1 _ c1' 1 2 _ HRq.out.1 (by have := HTq.out.lt; have := HTq.out.le; omega) HD.out
  go_wp2_with fail
  generalize w1.alloc (Obj.cells #[.int .i64 2] 3) = W2 at *
  refine CI.out.mono ?_
  rintro er w3 ⟨v3, rfl, own3, gr3, at3⟩
  have hne3 : ∀ b, (Value.slice A1 0 c1').ownBlock = some b → gp < b := fun b hb => (HRq.out.1.lt b hb).1
  have hle := Nat.lt_of_lt_of_le HT.out.lt HT.out.le
  have hb3 : w3.heap[gp]? = W2.heap[gp]? := gr3.block gp (Nat.lt_of_lt_of_le HTq.out.lt HTq.out.le) (fun e => Nat.lt_irrefl _ (hne3 gp e.symm))
  have z1 : w3.cell? ⟨gp, 1, none⟩ = some (.slice A1 0 c1') := (World.cell?_of_block (a := ⟨gp, 1, none⟩) hb3).trans ((HQa.out.cell (p := ⟨gp, 1, none⟩) hle).trans HX1.out)
  have zf : w3.frozen? ⟨gp, 1, none⟩ = false := (frz_block hb3).trans ((frz_block (HQa.out.block gp hle)).trans HF1.out)
  have z0 : w3.cell? ⟨gp, 0, none⟩ = some (.slice A0 0 c0') := (World.cell?_of_block (a := ⟨gp, 0, none⟩) hb3).trans ((HQa.out.cell (p := ⟨gp, 0, none⟩) hle).trans HX0.out)
  obtain ⟨D, cd, rfl, hD1, hD2, hcd⟩ := row_some own3 (by omega)
  have HO3 := Lib.hid own3
  have HG3 := Lib.hid gr3
  have HA3 := Lib.hid at3
  have HZ0 := Lib.hid z0
  have HD1 := Lib.hid hD1
  have Hcd := Lib.hid hcd
  clear own3 gr3 at3 hne3 hb3 z0 hD1 hD2 hcd hle y1
  go_wp2_with fail
  go_ret
  refine ⟨rfl, A0, c0', D, cd, W2, w3, ?_⟩
  have hD := HD1.out
  have hs := setCell_grown w3 gp 1 (.slice (some ⟨D, 0, none⟩) 1 cd)
  have hw2 := HQa.out.size
  have hown : OwnC (w3.setCell ⟨gp, 1, none⟩ (.slice (some ⟨D, 0, none⟩) 1 cd)) D (cellsI [2]) := (OwnC.of_row HO3.out).grown hs (by intro e; injection e with e; omega)
  have hc0 : (w3.setCell ⟨gp, 1, none⟩ (.slice (some ⟨D, 0, none⟩) 1 cd)).cell? ⟨gp, 0, none⟩ = some (.slice A0 0 c0') := Tr.setCell_ne (by omega) HZ0.out
  have hc1 : (w3.setCell ⟨gp, 1, none⟩ (.slice (some ⟨D, 0, none⟩) 1 cd)).cell? ⟨gp, 1, none⟩ = some (.slice (some ⟨D, 0, none⟩) 1 cd) := Tr.setCell_eq z1
  have hlt := HT.out.lt
  cases A1 with
  | none => exact ⟨gp, HQa.out, Nat.le_refl _, hlt, grown_of_none HG3.out gp, hs, hc0, hc1, Hcd.out, hown, by omega, .inr (by
      rcases HA3.out with h | h
      · simp [Value.ownBlock] at h
      · have : D = W2.heap.size := by simpa [Value.ownBlock] using h
        omega)⟩
  | some ad =>
    have hGe := HRq.out.2 ad.block rfl
    have hGg := (HRq.out.1.lt ad.block rfl).1
    exact ⟨ad.block, HQa.out, by omega, hGe, HG3.out, hs, hc0, hc1, Hcd.out, hown, by omega, by
      rcases HA3.out with h | h
      · have : D = ad.block := by simpa [Value.ownBlock] using h
        exact .inl (by omega)
      · have : D = W2.heap.size := by simpa [Value.ownBlock] using h
        exact .inr (by omega)⟩
end Go.Proofs.YtjmopbimleoidaaGreat.Ig

namespace Go.Proofs.YtjmopbimleoidaaGreat.Ig
open Go.RowKit Kit Tr Uf
open Go.Proofs.YtjmopbimleoidaaGreat.Hs (Keys Ints BoxT layI KeysP IntsP)
open Go.Proofs.YtjmopbimleoidaaGreat.Tm (Tm termAt of_any Box4)
open Go.Proofs.YtjmopbimleoidaaGreat.St (cellsQ cellsQ_append cellsQ_len cellsQ_one pairInfo PI)
structure AddB (w W : World) (R : List Int) (c : Cells) (P T : List (List Int)) (a1 a2 f1 f2 f3 f4 f5 f6 : Value) (g0 g1 g2 g3 gp gs O Br : Nat) : Prop where
  ba : BoxT W w.heap.size a1 a2
  bg : Box6 W (w.heap.size + 1) f1 f2 f3 f4 f5 f6
  res : BoxW W Br (.slice none 0 0) (.slice none 0 0) (.slice none 0 0) (.slice none 0 0) (.slice none 0 0) (.slice none 0 0)
  out : BoxW W O (.slice (some ⟨g0, 0, none⟩) R.length R.length) (.slice (some ⟨g1, 0, none⟩) c.V.length c.V.length) (.slice (some ⟨g2, 0, none⟩) c.N.length c.N.length) (.slice (some ⟨g3, 0, none⟩) c.M.length c.M.length) (.slice (some ⟨gp, 0, none⟩) P.length P.length) (.slice (some ⟨gs, 0, none⟩) T.length T.length)
  q : Q w W
section
variable {w W W' : World} {R : List Int} {c : Cells} {P T : List (List Int)} {a1 a2 f1 f2 f3 f4 f5 f6 : Value} {g0 g1 g2 g3 gp gs O Br : Nat}
theorem AddB.next (h : AddB w W R c P T a1 a2 f1 f2 f3 f4 f5 f6 g0 g1 g2 g3 gp gs O Br) (q : Q W W') : AddB w W' R c P T a1 a2 f1 f2 f3 f4 f5 f6 g0 g1 g2 g3 gp gs O Br :=
  ⟨h.ba.q q, h.bg.q q, h.res.q q, h.out.q q, h.q.trans q⟩
theorem AddB.far {G : Nat} (h : AddB w W R c P T a1 a2 f1 f2 f3 f4 f5 f6 g0 g1 g2 g3 gp gs O Br) (gr : W.grownBy W' (some G)) (hB : w.heap.size + 3 ≤ G) (hO : G ≠ O) (hr : Br = w.heap.size + 2) : AddB w W' R c P T a1 a2 f1 f2 f3 f4 f5 f6 g0 g1 g2 g3 gp gs O Br :=
  ⟨boxT_far h.ba gr (by omega), h.bg.grown gr (by omega), h.res.grown gr (by omega), h.out.grown gr (by omega), grown_q gr h.q (by omega)⟩
end
/-- behind the row that was laid -/
structure AddL (w W : World) (R : List Int) (c : Cells) (P T : List (List Int)) (g0 g1 g2 g3 gp gs es O : Nat) : Prop where
  r : OwnC W g0 (cellsI R)
  v : OwnC W g1 (cellsI c.V)
  n : OwnC W g2 (cellsP c.N)
  m : OwnC W g3 (cellsI c.M)
  t : Tab W gs es T
  p : KeysP W (fun b => w.heap.size + 3 ≤ b) (some ⟨gp, 0, none⟩) [[], [2]]
  o : w.heap.size + 3 ≤ g0 ∧ g0 < g1 ∧ g1 < g2 ∧ g2 < g3 ∧ g3 < gp ∧ gp < gs ∧ es ≤ O
theorem addL_of {w W0 w4 w5 : World} {R : List Int} {c : Cells} {P T : List (List Int)} {g0 g1 g2 g3 gp ep gs es O : Nat} (h : GOut W0 w4 R c P T g0 g1 g2 g3 gp ep gs es) (_hP : P = [[], []]) (hz : W0.heap.size = w.heap.size + 3) (he : es ≤ O) (l : LayEx gp ep w4 w5) : AddL w w5 R c P T g0 g1 g2 g3 gp gs es O := by
  obtain ⟨A, cc, D, cd, w2, w3, G, q2, hG1, hG2, gr3, gr5, c0, c1, hcd, hown, hgD, hDe⟩ := l
  obtain ⟨r, v, n, m, p, t, o0, o1, o2, o3, o4, o5, q⟩ := h.next q2
  have hp := p.lt
  have own2 : ∀ {g : Nat} {cs : List Value}, OwnC w2 g cs → g < gp → OwnC w5 g cs := fun h hg => (h.grown gr3 (ne_some (by omega))).grown gr5 (ne_some (by omega))
  refine ⟨own2 r (by omega), own2 v (by omega), own2 n (by omega), own2 m (by omega), (t.far gr3 (.inl (by omega))).far gr5 (.inl (by omega)), fun _ => ⟨_, rfl, by show w.heap.size + 3 ≤ gp; omega, ?_, fun i k hi => ?_⟩, by omega⟩
  · have := p.le
    have := gr3.size
    have := gr5.size
    show gp < w5.heap.size
    omega
  · match i, hi with
    | 0, hi =>
      obtain rfl : [] = k := by simpa using hi
      exact ⟨A, cc, Nat.zero_le _, by rw [Tr.add_zero_head]; exact c0, fun h => absurd h (by simp)⟩
    | 1, hi =>
      obtain rfl : [2] = k := by simpa using hi
      exact ⟨some ⟨D, 0, none⟩, cd, hcd, by rw [Tr.add_zero_head]; exact c1, own_ints12 (l := [2]) hown (by show w.heap.size + 3 ≤ D; omega)⟩
    | i + 2, hi => simp at hi
theorem AddL.next {w W W' : World} {R : List Int} {c : Cells} {P T : List (List Int)} {g0 g1 g2 g3 gp gs es O : Nat} (h : AddL w W R c P T g0 g1 g2 g3 gp gs es O) (q : Q W W') : AddL w W' R c P T g0 g1 g2 g3 gp gs es O :=
  ⟨h.r.q q, h.v.q q, h.n.q q, h.m.q q, h.t.q q, h.p.q q, h.o⟩
theorem AddL.grp {w W : World} {R : List Int} {c : Cells} {P T : List (List Int)} {g0 g1 g2 g3 gp gs es O : Nat} (h : AddL w W R c P T g0 g1 g2 g3 gp gs es O) (hP : P.length = 2) : GRP W (fun b => w.heap.size + 3 ≤ b) R c [[], [2]] T (some ⟨g0, 0, none⟩) (some ⟨g1, 0, none⟩) (some ⟨g2, 0, none⟩) (some ⟨g3, 0, none⟩) (some ⟨gp, 0, none⟩) (some ⟨gs, 0, none⟩) R.length c.V.length c.N.length c.M.length P.length T.length := by
  have ho := h.o
  have hk : ∀ b, w.heap.size + 3 ≤ b → (fun b => w.heap.size + 3 ≤ b) b := fun b h => h
  exact ⟨.of_own h.r (hk _ (by omega)), .of_own h.v (hk _ (by omega)), .of_own h.n (hk _ (by omega)), .of_own h.m (hk _ (by omega)), h.p, h.t.p (fun b h1 _ => hk b (by omega)), Nat.le_refl _, Nat.le_refl _, Nat.le_refl _, Nat.le_refl _, by rw [hP]; exact Nat.le_refl _, Nat.le_refl _⟩

/-- the example's graph: two variables, each alone -/
def c2 : Cells := ⟨[0, 1], [(-1, 0), (-1, 0)], []⟩
theorem cl2 : Cl [] c2.V := cl_of (by decide)
theorem okS_two : OkS twoK := by
  refine ⟨Hs.rdF_dist rfl, by decide, by decide, fun id t ht h2 => ?_⟩
  cases hp : Tm.isPl id twoK.length with
  | false => rw [Tm.termAt_out hp] at ht; cases ht
  | true =>
    obtain ⟨h0, h4⟩ := (Tm.isPl_iff _ _).1 hp
    have h5 : (twoK.length : Int) = 4 := rfl
    have : id = 0 ∨ id = 1 ∨ id = 2 ∨ id = 3 := by omega
    rcases this with rfl | rfl | rfl | rfl
    · have e : termAt twoK 0 = some (Tm.ofKey [0, 0, 0]) := rfl
      rw [e] at ht; injection ht with ht; subst ht; decide
    · have e : termAt twoK 1 = some (Tm.ofKey [1, 0, 0]) := rfl
      rw [e] at ht; injection ht with ht; subst ht; decide
    · have e : termAt twoK 2 = some (Tm.ofKey [2, 0, 0]) := rfl
      rw [e] at ht; injection ht with ht; subst ht; decide
    · have e : termAt twoK 3 = some (Tm.ofKey [2, 1, 0]) := rfl
      rw [e] at ht; injection ht with ht; subst ht; decide
theorem lay_two : (layI twoK).length = 8 := by rw [Hs.layI_length]; exact size_two
set_option maxRecDepth 100000 in
set_option maxHeartbeats 8000000 in
theorem addPre_ex (R : List Int) (c : Cells) (P T : List (List Int)) (A S F Av D E Pa Ta : Option Addr) (cr k1 k2 k3 kp kt : Nat) (w : World) (hR0 : R = []) (hc0 : c = c2) (hP0 : P = [[], []]) (hT0 : T = [[], []]) (hk : Keys w w.heap.size A twoK) (hS : Ints w w.heap.size S (layI twoK))
    (hG : GRP w (fun _ => True) R c P T F Av D E Pa Ta cr k1 k2 k3 kp kt) :
    Calls Tryz.prog 69 #[.agg #[.slice A 4 4, .slice S 8 8], .agg #[.slice F R.length cr, .slice Av c.V.length k1, .slice D c.N.length k2, .slice E c.M.length k3, .slice Pa P.length kp, .slice Ta T.length kt], .int .i64 2, .int .i64 1] w fun e w' => ∃ F A D E Pa Ta cr k1 k2 k3 kp kt Al cl, e = .returned (.tuple #[gvP R c [[], [2]] T F A D E Pa Ta cr k1 k2 k3 kp kt, .slice Al 0 cl, .bool true]) ∧ GRP w' (fun b => w.heap.size ≤ b) R c [[], [2]] T F A D E Pa Ta cr k1 k2 k3 kp kt ∧ Q w w' := by
  have q0 := (((Q.refl w).alloc (Obj.cells #[.slice A 4 4, .slice S 8 8] 26)).alloc (Obj.cells #[.slice F R.length cr, .slice Av c.V.length k1, .slice D c.N.length k2, .slice E c.M.length k3, .slice Pa P.length kp, .slice Ta T.length kt] 31)).alloc (Obj.cells #[.slice none 0 0, .slice none 0 0, .slice none 0 0, .slice none 0 0, .slice none 0 0, .slice none 0 0] 31)
  have HBa := Lib.hid ((BoxT.new w (.slice A 4 4) (.slice S 8 8) 26).q (((Q.refl _).alloc (Obj.cells #[.slice F R.length cr, .slice Av c.V.length k1, .slice D c.N.length k2, .slice E c.M.length k3, .slice Pa P.length kp, .slice Ta T.length kt] 31)).alloc (Obj.cells #[.slice none 0 0, .slice none 0 0, .slice none 0 0, .slice none 0 0, .slice none 0 0, .slice none 0 0] 31)))
  have X := (Box6.new (w.alloc (Obj.cells #[.slice A 4 4, .slice S 8 8] 26)) (.slice F R.length cr) (.slice Av c.V.length k1) (.slice D c.N.length k2) (.slice E c.M.length k3) (.slice Pa P.length kp) (.slice Ta T.length kt) 31).q ((Q.refl _).alloc (Obj.cells #[.slice none 0 0, .slice none 0 0, .slice none 0 0, .slice none 0 0, .slice none 0 0, .slice none 0 0] 31))
  rw [World.size_alloc] at X
  have HBg := Lib.hid X
  have X2 := BoxW.new ((w.alloc (Obj.cells #[.slice A 4 4, .slice S 8 8] 26)).alloc (Obj.cells #[.slice F R.length cr, .slice Av c.V.length k1, .slice D c.N.length k2, .slice E c.M.length k3, .slice Pa P.length kp, .slice Ta T.length kt] 31)) (.slice none 0 0) (.slice none 0 0) (.slice none 0 0) (.slice none 0 0) (.slice none 0 0) (.slice none 0 0) 31
  rw [World.size_alloc, World.size_alloc] at X2
  have HX := Lib.hid X2
  have HZ : Hid ((((w.alloc (Obj.cells #[.slice A 4 4, .slice S 8 8] 26)).alloc (Obj.cells #[.slice F R.length cr, .slice Av c.V.length k1, .slice D c.N.length k2, .slice E c.M.length k3, .slice Pa P.length kp, .slice Ta T.length kt] 31)).alloc (Obj.cells #[.slice none 0 0, .slice none 0 0, .slice none 0 0, .slice none 0 0, .slice none 0 0, .slice none 0 0] 31)).heap.size = w.heap.size + 3) := by unfold Hid; simp
  have HG := Lib.hid (hG.q q0)
  have Hk := Lib.hid ((hk.q (Nat.le_refl _) q0).more q0.size)
  have HQ0 := Lib.hid q0
  have HT00 := Lib.hid hG.t.keys
  have Hk0 : Hid (Keys w w.heap.size A twoK ∧ Ints w w.heap.size S (layI twoK)) := Lib.hid ⟨hk, hS⟩
  have HGd := Lib.hid hG
  have HR0 := Lib.hid hR0
  have HC0 := Lib.hid hc0
  have HP0 := Lib.hid hP0
  have HT0 := Lib.hid hT0
  obtain ⟨Br, hBr⟩ : ∃ Br, Br = w.heap.size + 1 + 1 := ⟨_, rfl⟩
  rw [← hBr] at HX
  have HBr : Hid (Br = w.heap.size + 2) := hBr
  have HPl : Hid (P.length = 2 ∧ T.length = 2 ∧ c.V.length = 2 ∧ c.N.length = 2 ∧ c.M.length = 0 ∧ R.length = 0) := by unfold Hid; rw [hR0, hc0, hP0, hT0]; exact ⟨rfl, rfl, rfl, rfl, rfl, rfl⟩
  have HSm : Hid ((∀ k ∈ P, k.length ≤ 1000000) ∧ (∀ k ∈ T, k.length ≤ 1000000)) := by unfold Hid; rw [hP0, hT0]; decide
  clear X X2 q0 hG hk hS hR0 hc0 hP0 hT0
  go_enter Tryz.func69, Tryz.ntmps69
  go_upto_region 1 with fail
  rw [← hBr]
  clear hBr
  generalize ((w.alloc (Obj.cells #[.slice A 4 4, .slice S 8 8] 26)).alloc (Obj.cells #[.slice F R.length cr, .slice Av c.V.length k1, .slice D c.N.length k2, .slice E c.M.length k3, .slice Pa P.length kp, .slice Ta T.length kt] 31)).alloc (Obj.cells #[.slice none 0 0, .slice none 0 0, .slice none 0 0, .slice none 0 0, .slice none 0 0, .slice none 0 0] 31) = W0 at *
  have b0 := HBg.out.c0
  have b1 := HBg.out.c1
  have b2 := HBg.out.c2
  have b3 := HBg.out.c3
  have b4 := HBg.out.c4
  have b5 := HBg.out.c5
  have CC := Lib.hid (copyOf12 R c P T F Av D E Pa Ta _ cr _ k1 _ k2 _ k3 _ kp _ kt W0 rfl rfl rfl rfl rfl rfl HG.out.r.rds HG.out.rd HG.out.p.keys HG.out.t.keys (by have := HPl.out; omega) ⟨by have := HPl.out; omega, by have := HPl.out; omega, by have := HPl.out; omega⟩ (by have := HPl.out; omega) (by have := HPl.out; omega) HSm.out.1 HSm.out.2)
  go_upto_region 2 with (go_at_call 37; refine CC.out.mono ?_; rintro e w1 ⟨g0, g1, g2, g3, gp, ep, gs, es, rfl, hG⟩; have HGo := Lib.hid hG; unfold gVal; clear hG)
  have q2 := (Q.refl w1).alloc (Obj.cells #[(.slice (some ⟨g0, 0, none⟩) R.length R.length), (.slice (some ⟨g1, 0, none⟩) c.V.length c.V.length), (.slice (some ⟨g2, 0, none⟩) c.N.length c.N.length), (.slice (some ⟨g3, 0, none⟩) c.M.length c.M.length), (.slice (some ⟨gp, 0, none⟩) P.length P.length), (.slice (some ⟨gs, 0, none⟩) T.length T.length)] 31)
  have HA2 : Hid (AddB w (w1.alloc (Obj.cells #[(.slice (some ⟨g0, 0, none⟩) R.length R.length), (.slice (some ⟨g1, 0, none⟩) c.V.length c.V.length), (.slice (some ⟨g2, 0, none⟩) c.N.length c.N.length), (.slice (some ⟨g3, 0, none⟩) c.M.length c.M.length), (.slice (some ⟨gp, 0, none⟩) P.length P.length), (.slice (some ⟨gs, 0, none⟩) T.length T.length)] 31)) R c P T (.slice A 4 4) (.slice S 8 8) (.slice F R.length cr) (.slice Av c.V.length k1) (.slice D c.N.length k2) (.slice E c.M.length k3) (.slice Pa P.length kp) (.slice Ta T.length kt) g0 g1 g2 g3 gp gs w1.heap.size Br) :=
    Lib.hid ⟨(HBa.out.q HGo.out.q).q q2, (HBg.out.q HGo.out.q).q q2, (HX.out.q HGo.out.q).q q2, BoxW.new w1 (.slice (some ⟨g0, 0, none⟩) R.length R.length) (.slice (some ⟨g1, 0, none⟩) c.V.length c.V.length) (.slice (some ⟨g2, 0, none⟩) c.N.length c.N.length) (.slice (some ⟨g3, 0, none⟩) c.M.length c.M.length) (.slice (some ⟨gp, 0, none⟩) P.length P.length) (.slice (some ⟨gs, 0, none⟩) T.length T.length) 31, (HQ0.out.trans HGo.out.q).trans q2⟩
  have HG2 := Lib.hid (HGo.out.next q2)
  have HEs : Hid (es ≤ w1.heap.size) := HGo.out.t.le
  clear b0 b1 b2 b3 b4 b5 CC q2 HGo HBa HBg HX
  generalize w1.alloc (Obj.cells #[(.slice (some ⟨g0, 0, none⟩) R.length R.length), (.slice (some ⟨g1, 0, none⟩) c.V.length c.V.length), (.slice (some ⟨g2, 0, none⟩) c.N.length c.N.length), (.slice (some ⟨g3, 0, none⟩) c.M.length c.M.length), (.slice (some ⟨gp, 0, none⟩) P.length P.length), (.slice (some ⟨gs, 0, none⟩) T.length T.length)] 31) = W1 at *
  generalize w1.heap.size = O at *
  have a0 := HA2.out.ba.c0
  have a1 := HA2.out.ba.c1
  have b0 := HA2.out.bg.c0
  have b1 := HA2.out.bg.c1
  have b2 := HA2.out.bg.c2
  have b3 := HA2.out.bg.c3
  have b4 := HA2.out.bg.c4
  have b5 := HA2.out.bg.c5
  have jP : (1 : Int) < (P.length : Int) := by have := HPl.out.1; omega
  go_wp2_with (go_at_call 72; refine (inPre_any _ _ _ _ _ _ _ _ _).mono ?_; rintro e w2 ⟨B, rfl, hb1, hb2, q2⟩; have HB1 := Lib.hid hb1; have HB2 := Lib.hid hb2; have HA3 := Lib.hid (HA2.out.next q2); have HG3 := Lib.hid (HG2.out.next q2); clear hb1 hb2 q2 a0 a1 b0 b1 b2 b3 b4 b5; unfold mayFn)
  have HQw : Hid (Q w w2) := Lib.hid HA3.out.q
  have HQ02 : Hid (Q W0 w2) := Lib.hid HG3.out.q
  have hm1 : P.length = c.V.length := by have := HPl.out; omega
  have hm2 : T.length = c.V.length := by have := HPl.out; omega
  have ht : termAt twoK 2 = some ⟨2, 0, 0, []⟩ := rfl
  have hl : lessB R 0 1 = true := by rw [HR0.out]; decide
  have CM := Lib.hid (mayVar_any B A S F Av Pa Ta 4 4 8 8 R.length cr c.V.length k1 P.length kp T.length kt (.slice D c.N.length k2) (.slice E c.M.length k3) R twoK 1 2 ⟨2, 0, 0, []⟩ w2 rfl ((Hk.out.q (Nat.le_refl _) HQ02.out).more HQ02.out.size) (by decide) rfl (HG.out.r.rds.q HQ02.out) hm1 hm2 HB1.out HB2.out ht rfl ⟨by decide, by have := HPl.out; show (0 : Int) < _; omega⟩ hl)
  clear hm1 hm2 ht hl
  refine CM.out.mono ?_
  rintro e w3 ⟨rfl, q3⟩
  have HA4 := Lib.hid (HA3.out.next q3)
  have HG4 := Lib.hid (HG3.out.next q3)
  have HQ03 : Hid (Q W0 w3) := Lib.hid HG4.out.q
  clear q3
  have o4 := HA4.out.out.c.c4
  have hTab : Tab w3 gp ep [[], []] := by rw [← HP0.out]; exact HG4.out.p
  have CY := Lib.hid (lay_ex gp ep w3 hTab)
  clear hTab
  go_upto_region 4 with (go_at_call 112; refine CY.out.mono ?_; rintro e w4 ⟨rfl, hl⟩; have HLy := Lib.hid hl; clear hl)
  clear o4 CY CM
  have HL5 := Lib.hid (addL_of HG4.out HP0.out HZ.out HEs.out HLy.out)
  have HA5 : Hid (AddB w w4 R c P T (.slice A 4 4) (.slice S 8 8) (.slice F R.length cr) (.slice Av c.V.length k1) (.slice D c.N.length k2) (.slice E c.M.length k3) (.slice Pa P.length kp) (.slice Ta T.length kt) g0 g1 g2 g3 gp gs O Br) := by
    obtain ⟨A', cc, D', cd, u2, u3, G, qu, hG1, hG2, gr3, gr5, _⟩ := HLy.out
    have h1 := HG4.out.o0
    have h2 := HG4.out.o1
    have h3 := HG4.out.o2
    have h4 := HG4.out.o3
    have h5 := HG4.out.o4
    have h6 := HG4.out.o5
    have h7 := HG4.out.t.lt
    have h8 := HEs.out
    have h9 := HZ.out
    have h10 := HG4.out.p.lt
    exact ((HA4.out.next qu).far gr3 (by omega) (by omega) HBr.out).far gr5 (by omega) (by omega) HBr.out
  have HQ4 : Hid (Q w w4) := Lib.hid HA5.out.q
  obtain ⟨ta, eta, htb, At, ct, hct, ht0, hti⟩ := HT00.out.at_ (k := 1) (by have := HPl.out; omega)
  have hte : T[1]'(by have := HPl.out; omega) = [] := by simp [HT0.out]
  have htl : (T[1]'(by have := HPl.out; omega)).length = 0 := by rw [hte]; rfl
  rw [htl, show ta.add 1 = ⟨ta.block, ta.off + 1, none⟩ by simp [Addr.add]] at ht0
  subst eta
  have Htb := Lib.hid htb
  have Ht0 := Lib.hid ht0
  clear hct ht0 hti hte htl htb
  have ALL : Hid (∀ U, Q w4 U → U.cell? ⟨w.heap.size, 0, none⟩ = some (.slice A 4 4) ∧ U.cell? ⟨w.heap.size, 1, none⟩ = some (.slice S 8 8) ∧ U.cell? ⟨O, 0, none⟩ = some (.slice (some ⟨g0, 0, none⟩) R.length R.length) ∧ U.cell? ⟨O, 1, none⟩ = some (.slice (some ⟨g1, 0, none⟩) c.V.length c.V.length) ∧ U.cell? ⟨O, 2, none⟩ = some (.slice (some ⟨g2, 0, none⟩) c.N.length c.N.length) ∧ U.cell? ⟨O, 3, none⟩ = some (.slice (some ⟨g3, 0, none⟩) c.M.length c.M.length) ∧ U.cell? ⟨O, 4, none⟩ = some (.slice (some ⟨gp, 0, none⟩) P.length P.length) ∧ U.cell? ⟨O, 5, none⟩ = some (.slice (some ⟨gs, 0, none⟩) T.length T.length) ∧ U.cell? ⟨w.heap.size + 1, 0, none⟩ = some (.slice F R.length cr) ∧ U.cell? ⟨w.heap.size + 1, 1, none⟩ = some (.slice Av c.V.length k1) ∧ U.cell? ⟨w.heap.size + 1, 2, none⟩ = some (.slice D c.N.length k2) ∧ U.cell? ⟨w.heap.size + 1, 3, none⟩ = some (.slice E c.M.length k3) ∧ U.cell? ⟨w.heap.size + 1, 4, none⟩ = some (.slice Pa P.length kp) ∧ U.cell? ⟨w.heap.size + 1, 5, none⟩ = some (.slice (some ta) T.length kt) ∧ U.cell? ⟨ta.block, ta.off + 1, none⟩ = some (.slice At 0 ct)) := fun U q => by
    have h := HA5.out.next q
    exact ⟨h.ba.c0, h.ba.c1, h.out.c.c0, h.out.c.c1, h.out.c.c2, h.out.c.c3, h.out.c.c4, h.out.c.c5, h.bg.c0, h.bg.c1, h.bg.c2, h.bg.c3, h.bg.c4, h.bg.c5, ((HQ4.out.trans q).cell (p := ⟨ta.block, ta.off + 1, none⟩) Htb.out).trans Ht0.out⟩
  have ALS : Hid (∀ U V, Q w4 U → U.grownBy V (some Br) → V.cell? ⟨w.heap.size, 0, none⟩ = some (.slice A 4 4) ∧ V.cell? ⟨w.heap.size, 1, none⟩ = some (.slice S 8 8) ∧ V.cell? ⟨O, 0, none⟩ = some (.slice (some ⟨g0, 0, none⟩) R.length R.length) ∧ V.cell? ⟨O, 1, none⟩ = some (.slice (some ⟨g1, 0, none⟩) c.V.length c.V.length) ∧ V.cell? ⟨O, 2, none⟩ = some (.slice (some ⟨g2, 0, none⟩) c.N.length c.N.length) ∧ V.cell? ⟨O, 3, none⟩ = some (.slice (some ⟨g3, 0, none⟩) c.M.length c.M.length) ∧ V.cell? ⟨O, 4, none⟩ = some (.slice (some ⟨gp, 0, none⟩) P.length P.length) ∧ V.cell? ⟨O, 5, none⟩ = some (.slice (some ⟨gs, 0, none⟩) T.length T.length) ∧ V.cell? ⟨w.heap.size + 1, 0, none⟩ = some (.slice F R.length cr) ∧ V.cell? ⟨w.heap.size + 1, 1, none⟩ = some (.slice Av c.V.length k1) ∧ V.cell? ⟨w.heap.size + 1, 2, none⟩ = some (.slice D c.N.length k2) ∧ V.cell? ⟨w.heap.size + 1, 3, none⟩ = some (.slice E c.M.length k3) ∧ V.cell? ⟨w.heap.size + 1, 4, none⟩ = some (.slice Pa P.length kp) ∧ V.cell? ⟨w.heap.size + 1, 5, none⟩ = some (.slice (some ta) T.length kt) ∧ V.cell? ⟨ta.block, ta.off + 1, none⟩ = some (.slice At 0 ct)) := fun U V q gr => by
    have hz := HBr.out
    have hs := q.size
    have hO := HA5.out.out.c.lt
    have hOb : w.heap.size + 3 ≤ O := by have := HG4.out.o0; have := HZ.out; have := HG4.out.t.lt; have := HG4.out.p.lt; have := HG4.out.o5; have := HG4.out.o4; have := HG4.out.o3; have := HG4.out.o2; have := HG4.out.o1; have := HEs.out; omega
    obtain ⟨e0, e1, e2, e3, e4, e5, e6, e7, e8, e9, e10, e11, e12, e13, e14⟩ := ALL.out U q
    have htb := Htb.out
    exact ⟨far_cell gr e0 (by show w.heap.size ≠ Br; omega) (by show w.heap.size < _; omega), far_cell gr e1 (by show w.heap.size ≠ Br; omega) (by show w.heap.size < _; omega), far_cell gr e2 (by show O ≠ Br; omega) (by show O < _; omega), far_cell gr e3 (by show O ≠ Br; omega) (by show O < _; omega), far_cell gr e4 (by show O ≠ Br; omega) (by show O < _; omega), far_cell gr e5 (by show O ≠ Br; omega) (by show O < _; omega), far_cell gr e6 (by show O ≠ Br; omega) (by show O < _; omega), far_cell gr e7 (by show O ≠ Br; omega) (by show O < _; omega), far_cell gr e8 (by show w.heap.size + 1 ≠ Br; omega) (by show w.heap.size + 1 < _; omega), far_cell gr e9 (by show w.heap.size + 1 ≠ Br; omega) (by show w.heap.size + 1 < _; omega), far_cell gr e10 (by show w.heap.size + 1 ≠ Br; omega) (by show w.heap.size + 1 < _; omega), far_cell gr e11 (by show w.heap.size + 1 ≠ Br; omega) (by show w.heap.size + 1 < _; omega), far_cell gr e12 (by show w.heap.size + 1 ≠ Br; omega) (by show w.heap.size + 1 < _; omega), far_cell gr e13 (by show w.heap.size + 1 ≠ Br; omega) (by show w.heap.size + 1 < _; omega), far_cell gr e14 (by show ta.block ≠ Br; omega) (by show ta.block < _; omega)⟩
  have CA : Hid (∀ U, Q w4 U → Calls Tryz.prog 44 #[.agg #[.slice A 4 4, .slice S 8 8], .agg #[.slice F R.length cr, .slice Av c.V.length k1, .slice D c.N.length k2, .slice E c.M.length k3, .slice Pa P.length kp, .slice (some ta) T.length kt], .int .i64 2, .slice At 0 ct] U fun e w' => ∃ v, e = .returned v ∧ w'.ownsRow U.heap.size 48 2 v 0 [] ∧ Q U w') := fun U q => by
    have qq := HQ4.out.trans q
    exact allAbove12 R c.V A S Av D E Pa (some ta) At c.N c.M 4 4 8 8 c.V.length k1 c.N.length k2 c.M.length k3 kp kt P.length T.length 0 ct (.slice F R.length cr) twoK [] 2 U rfl lay_two.symm ((Hk0.out.1.q (Nat.le_refl _) qq).more qq.size) ((Hk0.out.2.q (Nat.le_refl _) qq).more qq.size) okS_two rfl (HGd.out.rd.q qq) rfl rfl (by rw [HC0.out, HR0.out]; exact cl2) (by have := HPl.out; omega) (by have := HPl.out; omega) (by have := HPl.out; omega) (by have := HPl.out; rw [HC0.out]; decide) rfl (Tr.Rds.nil _ _ _) (by simp)
  obtain ⟨s0, s1, s2, s3, s4, s5, s6, s7, s8, s9, s10, s11, s12, s13, s14⟩ := ALL.out w4 (Q.refl _)
  have jT : (1 : Int) < (T.length : Int) := by have := HPl.out; omega
  have hX5 := HA5.out.res
  clear jP
  go_region_held3 (fun w' => w'.cell? ⟨w.heap.size, 0, none⟩ = some (.slice A 4 4) ∧ w'.cell? ⟨w.heap.size, 1, none⟩ = some (.slice S 8 8) ∧ w'.cell? ⟨O, 0, none⟩ = some (.slice (some ⟨g0, 0, none⟩) R.length R.length) ∧ w'.cell? ⟨O, 1, none⟩ = some (.slice (some ⟨g1, 0, none⟩) c.V.length c.V.length) ∧ w'.cell? ⟨O, 2, none⟩ = some (.slice (some ⟨g2, 0, none⟩) c.N.length c.N.length) ∧ w'.cell? ⟨O, 3, none⟩ = some (.slice (some ⟨g3, 0, none⟩) c.M.length c.M.length) ∧ w'.cell? ⟨O, 4, none⟩ = some (.slice (some ⟨gp, 0, none⟩) P.length P.length) ∧ w'.cell? ⟨O, 5, none⟩ = some (.slice (some ⟨gs, 0, none⟩) T.length T.length) ∧ w'.cell? ⟨w.heap.size + 1, 0, none⟩ = some (.slice F R.length cr) ∧ w'.cell? ⟨w.heap.size + 1, 1, none⟩ = some (.slice Av c.V.length k1) ∧ w'.cell? ⟨w.heap.size + 1, 2, none⟩ = some (.slice D c.N.length k2) ∧ w'.cell? ⟨w.heap.size + 1, 3, none⟩ = some (.slice E c.M.length k3) ∧ w'.cell? ⟨w.heap.size + 1, 4, none⟩ = some (.slice Pa P.length kp) ∧ w'.cell? ⟨w.heap.size + 1, 5, none⟩ = some (.slice (some ta) T.length kt) ∧ w'.cell? ⟨ta.block, ta.off + 1, none⟩ = some (.slice At 0 ct))
    (first
      | (with_reducible exact ALL.out _ p5)
      | (with_reducible exact ALS.out _ _ p5 (set6_grown _ _ _ _ _ _ _ _))
      | exact ⟨s0, s1, s2, s3, s4, s5, s6, s7, s8, s9, s10, s11, s12, s13, s14⟩
      | go_keep)
    (first
      | (go_at_call 44; refine (CA.out _ (Q.refl w4).drew).mono ?_; rintro e w5 ⟨v5, rfl, own5, q5⟩; obtain ⟨Al, cl, rfl, -, -⟩ := Rw.own_read own5; have p5 : Q w4 w5 := (Q.refl w4).drew.trans q5; have hX6 := (HA5.out.next p5).res; have x0 := hX6.c.c0; have x1 := hX6.c.c1; have x2 := hX6.c.c2; have x3 := hX6.c.c3; have x4 := hX6.c.c4; have x5 := hX6.c.c5; have xf0 := hX6.f0; have xf1 := hX6.f1; have xf2 := hX6.f2; have xf3 := hX6.f3; have xf4 := hX6.f4; have xf5 := hX6.f5; clear own5 q5 hX6)
      | fail)
  have HQ5 := Lib.hid p5
  have BZ := Lib.hid ((HA5.out.next HQ5.out).res.set (.slice (some ⟨g0, 0, none⟩) R.length R.length) (.slice (some ⟨g1, 0, none⟩) c.V.length c.V.length) (.slice (some ⟨g2, 0, none⟩) c.N.length c.N.length) (.slice (some ⟨g3, 0, none⟩) c.M.length c.M.length) (.slice (some ⟨gp, 0, none⟩) P.length P.length) (.slice (some ⟨gs, 0, none⟩) T.length T.length))
  have hgr := Lib.hid (set6_grown w5 Br (.slice (some ⟨g0, 0, none⟩) R.length R.length) (.slice (some ⟨g1, 0, none⟩) c.V.length c.V.length) (.slice (some ⟨g2, 0, none⟩) c.N.length c.N.length) (.slice (some ⟨g3, 0, none⟩) c.M.length c.M.length) (.slice (some ⟨gp, 0, none⟩) P.length P.length) (.slice (some ⟨gs, 0, none⟩) T.length T.length))
  clear s0 s1 s2 s3 s4 s5 s6 s7 s8 s9 s10 s11 s12 s13 s14 x0 x1 x2 x3 x4 x5 xf0 xf1 xf2 xf3 xf4 xf5 p5 hX5
  go_wp2_with fail
  have y0 := BZ.out.c.c0
  have y1 := BZ.out.c.c1
  have y2 := BZ.out.c.c2
  have y3 := BZ.out.c.c3
  have y4 := BZ.out.c.c4
  have y5 := BZ.out.c.c5
  have e5 : ([[], [2]] : List (List Int)).length = P.length := by have := HPl.out.1; rw [this]; rfl
  refine bodyPost_ret (v := .tuple #[gvP R c [[], [2]] T (some ⟨g0, 0, none⟩) (some ⟨g1, 0, none⟩) (some ⟨g2, 0, none⟩) (some ⟨g3, 0, none⟩) (some ⟨gp, 0, none⟩) (some ⟨gs, 0, none⟩) R.length c.V.length c.N.length c.M.length P.length T.length, .slice Al 0 cl, .bool true]) (by unfold gvP; rw [e5]; simp [results, Tryz.f69, go_sem, y0, y1, y2, y3, y4, y5]) rfl ?_
  have hbr := HBr.out
  have hg := (HL5.out.next HQ5.out).grp HPl.out.1
  have hg2 := hg.to (agree_grown (P := fun b => w.heap.size + 3 ≤ b) hgr.out (by show ¬ w.heap.size + 3 ≤ Br; omega)) (K' := fun b => w.heap.size ≤ b) (fun b hb _ => Nat.le_trans (Nat.le_add_right _ 3) hb)
  exact ⟨_, _, _, _, _, _, _, _, _, _, _, _, Al, cl, rfl, hg2, grown_q hgr.out (HQ4.out.trans HQ5.out) (by omega)⟩
end Go.Proofs.YtjmopbimleoidaaGreat.Ig
