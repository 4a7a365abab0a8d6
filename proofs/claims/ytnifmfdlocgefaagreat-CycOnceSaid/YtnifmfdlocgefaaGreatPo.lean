/-
  What the proofs lean on, part 15 of 20.
-/
import Derived.Test.YtnifmfdlocgefaaGreatPc
import Derived.Test.YtnifmfdlocgefaaGreatPl
import Derived.Test.YtnifmfdlocgefaaGreatPn
namespace Go.Proofs.YtnifmfdlocgefaaGreat.Ig
open Go.RowKit Kit Tr Uf
open Go.Proofs.YtnifmfdlocgefaaGreat.Hs (Keys Ints BoxT KeysP IntsP)
open Go.Proofs.YtnifmfdlocgefaaGreat.St (cellsQ pairInfo PI)
set_option maxRecDepth 100000 in
set_option maxHeartbeats 8000000 in
theorem refAdd12_2 (K : Nat → Prop) (R : List Int) (c : Cells) (P T : List (List Int)) (A S F Av D E Pa Ta : Option Addr) (ca ms d cr k1 k2 k3 kp kt : Nat) (ks : List (List Int)) (px py rx ry : Int) (v u : Nat) (row : List Int) (w : World) (hk : Keys w w.heap.size A ks) (hl : ks.length ≤ maxLen) (hs : ∀ k ∈ ks, k.length ≤ maxLen)
    (hG : GRQ w K R c P T F Av D E Pa Ta k1 k2 k3) (hKw : ∀ b, K b → b < w.heap.size) (hlv : c.V.length ≤ 1000000) (hPn : P.length = c.V.length) (hTn : T.length = c.V.length) (sP : ∀ k ∈ P, k.length ≤ 1000000) (sT : ∀ k ∈ T, k.length ≤ 1000000) (hC : Cl R c.V) (hrow : row.length ≤ 1000000)
    (hx : repV ks c.V px = rx) (hy : repV ks c.V py = ry) (hv : numV ks c.V.length rx = (v : Int)) (hu : numV ks c.V.length ry = (u : Int)) (hvl : v < c.V.length) (hul : u < c.V.length) (hvu : v ≠ u) (hless : lessB R (u : Int) (v : Int) = false)
    (hlay : ∀ (A' : Option Addr) (c' : Nat) (U : World), Ints U U.heap.size A' (rowG P u) → (rowG P u).length ≤ c' → Calls Tryz.prog 117 #[.slice A' (rowG P u).length c', .int .i64 rx] U fun e w' => ∃ A2 c2, e = .returned (.tuple #[.slice A2 row.length c2, .bool true]) ∧ row.length ≤ c2 ∧ IntsP w' (fun b => U.heap.size ≤ b) A2 row ∧ Q U w') :
    Calls Tryz.prog 55 #[.agg #[.slice A ks.length ca, .slice S ms d], .agg #[.slice F R.length cr, .slice Av c.V.length k1, .slice D c.N.length k2, .slice E c.M.length k3, .slice Pa P.length kp, .slice Ta T.length kt], .agg #[.int .i64 px, .int .i64 py]] w (AddRef K R c (P.set u row) T w) := by
  have q0 := ((((Q.refl w).alloc (Obj.cells #[.slice A ks.length ca, .slice S ms d] 26)).alloc (Obj.cells #[.slice F R.length cr, .slice Av c.V.length k1, .slice D c.N.length k2, .slice E c.M.length k3, .slice Pa P.length kp, .slice Ta T.length kt] 31)).alloc (Obj.cells #[.int .i64 px, .int .i64 py] 76)).alloc (Obj.cells #[.slice none 0 0, .slice none 0 0, .slice none 0 0, .slice none 0 0, .slice none 0 0, .slice none 0 0] 31)
  have HBa := Lib.hid ((BoxT.new w (.slice A ks.length ca) (.slice S ms d) 26).q ((((Q.refl _).alloc (Obj.cells #[.slice F R.length cr, .slice Av c.V.length k1, .slice D c.N.length k2, .slice E c.M.length k3, .slice Pa P.length kp, .slice Ta T.length kt] 31)).alloc (Obj.cells #[.int .i64 px, .int .i64 py] 76)).alloc (Obj.cells #[.slice none 0 0, .slice none 0 0, .slice none 0 0, .slice none 0 0, .slice none 0 0, .slice none 0 0] 31)))
  have X := (Box6.new (w.alloc (Obj.cells #[.slice A ks.length ca, .slice S ms d] 26)) (.slice F R.length cr) (.slice Av c.V.length k1) (.slice D c.N.length k2) (.slice E c.M.length k3) (.slice Pa P.length kp) (.slice Ta T.length kt) 31).q (((Q.refl _).alloc (Obj.cells #[.int .i64 px, .int .i64 py] 76)).alloc (Obj.cells #[.slice none 0 0, .slice none 0 0, .slice none 0 0, .slice none 0 0, .slice none 0 0, .slice none 0 0] 31))
  rw [World.size_alloc] at X
  have HBg := Lib.hid X
  have Y := (BoxT.new ((w.alloc (Obj.cells #[.slice A ks.length ca, .slice S ms d] 26)).alloc (Obj.cells #[.slice F R.length cr, .slice Av c.V.length k1, .slice D c.N.length k2, .slice E c.M.length k3, .slice Pa P.length kp, .slice Ta T.length kt] 31)) (.int .i64 px) (.int .i64 py) 76).q ((Q.refl _).alloc (Obj.cells #[.slice none 0 0, .slice none 0 0, .slice none 0 0, .slice none 0 0, .slice none 0 0, .slice none 0 0] 31))
  rw [World.size_alloc, World.size_alloc] at Y
  have HBp := Lib.hid Y
  have X2 := BoxW.new (((w.alloc (Obj.cells #[.slice A ks.length ca, .slice S ms d] 26)).alloc (Obj.cells #[.slice F R.length cr, .slice Av c.V.length k1, .slice D c.N.length k2, .slice E c.M.length k3, .slice Pa P.length kp, .slice Ta T.length kt] 31)).alloc (Obj.cells #[.int .i64 px, .int .i64 py] 76)) (.slice none 0 0) (.slice none 0 0) (.slice none 0 0) (.slice none 0 0) (.slice none 0 0) (.slice none 0 0) 31
  rw [World.size_alloc, World.size_alloc, World.size_alloc] at X2
  have HX := Lib.hid X2
  have HZ : Hid (((((w.alloc (Obj.cells #[.slice A ks.length ca, .slice S ms d] 26)).alloc (Obj.cells #[.slice F R.length cr, .slice Av c.V.length k1, .slice D c.N.length k2, .slice E c.M.length k3, .slice Pa P.length kp, .slice Ta T.length kt] 31)).alloc (Obj.cells #[.int .i64 px, .int .i64 py] 76)).alloc (Obj.cells #[.slice none 0 0, .slice none 0 0, .slice none 0 0, .slice none 0 0, .slice none 0 0, .slice none 0 0] 31)).heap.size = w.heap.size + 4) := by unfold Hid; simp
  have HQ0 := Lib.hid q0
  have HG := Lib.hid hG
  have HKw := Lib.hid hKw
  have HPn := Lib.hid hPn
  have HTn := Lib.hid hTn
  have HsP := Lib.hid sP
  have HsT := Lib.hid sT
  have Hrow := Lib.hid hrow
  have Hvl := Lib.hid hvl
  have Hul := Lib.hid hul
  have HLay := Lib.hid hlay
  have HLv := Lib.hid hlv
  have CRp : Hid (∀ (id : Int) (U : World), Q w U → Calls Tryz.prog 115 #[.agg #[.slice A ks.length ca, .slice S ms d], .agg #[.slice F R.length cr, .slice Av c.V.length k1, .slice D c.N.length k2, .slice E c.M.length k3, .slice Pa P.length kp, .slice Ta T.length kt], .int .i64 id] U fun e w' => e = .returned (.int .i64 (repV ks c.V id)) ∧ Q U w') := fun id U q => refRep_any R c.V A S Av _ ca ms d _ k1 (.slice F R.length cr) (.slice D c.N.length k2) (.slice E c.M.length k3) (.slice Pa P.length kp) (.slice Ta T.length kt) ks id U rfl ((hk.q (Nat.le_refl _) q).more q.size) hl hs rfl (hG.q q).v.rds hC hlv
  have CN : Hid (∀ (id : Int) (U : World), Q w U → Calls Tryz.prog 104 #[.agg #[.slice A ks.length ca, .slice S ms d], .agg #[.slice F R.length cr, .slice Av c.V.length k1, .slice D c.N.length k2, .slice E c.M.length k3, .slice Pa P.length kp, .slice Ta T.length kt], .int .i64 id] U fun e w' => e = .returned (.int .i64 (numV ks c.V.length id)) ∧ Q U w') := fun id U q => refNumber_any A S Av _ ca ms d _ k1 (.slice F R.length cr) (.slice D c.N.length k2) (.slice E c.M.length k3) (.slice Pa P.length kp) (.slice Ta T.length kt) ks id U rfl ((hk.q (Nat.le_refl _) q).more q.size)
  have CLs : Hid (∀ (a b : Int) (U : World), Q w U → Calls Tryz.prog 110 #[.slice F R.length cr, .int .i64 a, .int .i64 b] U fun e w' => e = .returned (.bool (lessB R a b)) ∧ Q U w') := fun a b U q => (refLess_any R F _ cr a b U rfl (hG.q q).r.rds).mono (by rintro e w' ⟨rfl, rfl⟩; exact ⟨rfl, Q.refl _⟩)
  have CM : Hid (∀ (id x : Int) (less : Bool) (U : World), Q w U → Calls Tryz.prog 116 #[.agg #[.slice A ks.length ca, .slice S ms d], .agg #[.slice F R.length cr, .slice Av c.V.length k1, .slice D c.N.length k2, .slice E c.M.length k3, .slice Pa P.length kp, .slice Ta T.length kt], .int .i64 id, .int .i64 x, .bool less] U fun e w' => e = .returned (.bool (mayV R ks c.V.length id x less)) ∧ Q U w') := fun id x less U q => refMayV_any R A S F Av _ ca ms d _ cr _ k1 (.slice D c.N.length k2) (.slice E c.M.length k3) (.slice Pa P.length kp) (.slice Ta T.length kt) ks id x less U rfl ((hk.q (Nat.le_refl _) q).more q.size) rfl (hG.q q).r.rds
  have CRx := Lib.hid (CRp.out px)
  have CRy := Lib.hid (CRp.out py)
  rw [hx] at CRx
  rw [hy] at CRy
  have CNx := Lib.hid (CN.out rx)
  have CNy := Lib.hid (CN.out ry)
  rw [hv] at CNx
  rw [hu] at CNy
  have CLuv := Lib.hid (CLs.out (u : Int) (v : Int))
  rw [hless] at CLuv
  have hmay : mayV R ks c.V.length rx (u : Int) true = true := by
    unfold mayV
    rw [hv, if_pos (by omega)]
    exact less_flip (by omega) hless
  have CMy := Lib.hid (CM.out rx (u : Int) true)
  rw [hmay] at CMy
  have CWt := Lib.hid (fun (A' : Option Addr) (c' : Nat) (U : World) (q : Q w U) (hd : row.length ≤ c') (hI : IntsP U (fun b => K b ∨ w.heap.size + 4 ≤ b) A' row) => with12P (fun b => K b ∨ w.heap.size + 4 ≤ b) Pa A' P.length kp row.length c' P row u U rfl rfl (by omega) (by omega) hd ((hG.p.q q).toP (Nat.le_refl _) (fun _ _ _ => rfl) (fun b hb _ => .inl hb)) hI)
  have e1 : ((v : Int) == (u : Int)) = false := beq_eq_false_iff_ne.2 (by omega)
  have d1 : decide (0 ≤ (v : Int)) = true := decide_eq_true (by omega)
  have d2 : decide ((u : Int) < 0) = false := decide_eq_false (by omega)
  have j0 : (0 : Int) ≤ (v : Int) := Int.natCast_nonneg _
  have j1 : (0 : Int) ≤ (u : Int) := Int.natCast_nonneg _
  have j2 : (u : Int) < (P.length : Int) := by omega
  have j3 : (u : Int) < (T.length : Int) := by omega
  -- the rows' cells
  obtain ⟨lad, hla, -, hlb, hlc⟩ := hG.p (by omega)
  obtain ⟨sa, sc, hsc, hs0, hsI⟩ := hlc u P[u] (List.getElem?_eq_getElem (by omega))
  obtain ⟨gad, hga, -, hgb, hgc⟩ := hG.t (by omega)
  obtain ⟨ra, rc, hrc, hr0, hrI⟩ := hgc u T[u] (List.getElem?_eq_getElem (by omega))
  obtain ⟨lr, hlr⟩ : ∃ lr, lr = rowG P u := ⟨_, rfl⟩
  obtain ⟨gr, hgr⟩ : ∃ gr, gr = rowG T u := ⟨_, rfl⟩
  have hlr2 : P[u]'(by omega) = lr := by rw [hlr]; unfold rowG; rw [rows_at (by omega)]
  have hgr2 : T[u]'(by omega) = gr := by rw [hgr]; unfold rowG; rw [rows_at (by omega)]
  rw [hlr2] at hs0 hsI hsc
  rw [hgr2] at hr0 hrI hrc
  rw [← hlr] at HLay
  have HSc := Lib.hid hsc
  have HSI := Lib.hid hsI
  have HRI := Lib.hid hrI
  have HGl : Hid (gr.length ≤ 1000000) := by rw [← hgr2]; exact sT _ (List.getElem_mem _)
  have hS1 : (lad.add u).block < w.heap.size := by rw [Tr.add_block]; exact hlb
  have hS2 : (gad.add u).block < w.heap.size := by rw [Tr.add_block]; exact hgb
  have ALL : Hid (∀ U, Q w U → U.cell? (lad.add u) = some (.slice sa lr.length sc) ∧ U.cell? (gad.add u) = some (.slice ra gr.length rc)) := fun U q => ⟨(q.cell hS1).trans hs0, (q.cell hS2).trans hr0⟩
  obtain ⟨i0, hi, hz0, hz1, hz2⟩ := info_parts pairInfo
  have Hi := Lib.hid hi
  have Hz0 := Lib.hid hz0
  have Hz1 := Lib.hid hz1
  have Hz2 := Lib.hid hz2
  have HGlb : gr.length ≤ 1000000 := HGl.out
  clear hi hz0 hz1 hz2 hk hl hs hG hKw hlv hPn hTn sP sT hC hrow hx hy hv hu hvl hul hvu hless hlay q0 X Y X2 hmay hlc hgc hsc hs0 hsI hrc hr0 hrI hlr hgr hlr2 hgr2 hS1 hS2 hlb hgb CN CLs CM
  subst hla hga
  go_enter Tryz.func55, Tryz.ntmps55
  go_upto_region 1 with fail
  generalize (((w.alloc (Obj.cells #[.slice A ks.length ca, .slice S ms d] 26)).alloc (Obj.cells #[.slice F R.length cr, .slice Av c.V.length k1, .slice D c.N.length k2, .slice E c.M.length k3, .slice (some lad) P.length kp, .slice (some gad) T.length kt] 31)).alloc (Obj.cells #[.int .i64 px, .int .i64 py] 76)).alloc (Obj.cells #[.slice none 0 0, .slice none 0 0, .slice none 0 0, .slice none 0 0, .slice none 0 0, .slice none 0 0] 31) = W0 at *
  have p0 := HBp.out.c0
  have p1 := HBp.out.c1
  have a0 := (HBa.out.q (Q.refl W0)).c0
  have a1 := (HBa.out.q (Q.refl W0)).c1
  have g0 := (HBg.out.q (Q.refl W0)).c0
  have g1 := (HBg.out.q (Q.refl W0)).c1
  have g2 := (HBg.out.q (Q.refl W0)).c2
  have g3 := (HBg.out.q (Q.refl W0)).c3
  have g4 := (HBg.out.q (Q.refl W0)).c4
  have g5 := (HBg.out.q (Q.refl W0)).c5
  go_upto_region 2 with (go_at_call 115; refine (CRx.out W0 HQ0.out).mono ?_; rintro e w1 ⟨rfl, q1⟩; have HQ1 := Lib.hid q1; clear q1 p0 p1; clear a0 a1 g0 g1 g2 g3 g4 g5)
  have p0 := (HBp.out.q HQ1.out).c0
  have p1 := (HBp.out.q HQ1.out).c1
  have a0 := (HBa.out.q HQ1.out).c0
  have a1 := (HBa.out.q HQ1.out).c1
  have g0 := (HBg.out.q HQ1.out).c0
  have g1 := (HBg.out.q HQ1.out).c1
  have g2 := (HBg.out.q HQ1.out).c2
  have g3 := (HBg.out.q HQ1.out).c3
  have g4 := (HBg.out.q HQ1.out).c4
  have g5 := (HBg.out.q HQ1.out).c5
  go_upto_region 3 with (go_at_call 115; refine (CRy.out w1 (HQ0.out.trans HQ1.out)).mono ?_; rintro e w2 ⟨rfl, q2⟩; have HQ2 := Lib.hid (HQ1.out.trans q2); clear q2 p0 p1; clear a0 a1 g0 g1 g2 g3 g4 g5)
  have a0 := (HBa.out.q HQ2.out).c0
  have a1 := (HBa.out.q HQ2.out).c1
  have g0 := (HBg.out.q HQ2.out).c0
  have g1 := (HBg.out.q HQ2.out).c1
  have g2 := (HBg.out.q HQ2.out).c2
  have g3 := (HBg.out.q HQ2.out).c3
  have g4 := (HBg.out.q HQ2.out).c4
  have g5 := (HBg.out.q HQ2.out).c5
  go_upto_region 4 with (go_at_call 104; refine (CNx.out w2 (HQ0.out.trans HQ2.out)).mono ?_; rintro e w3 ⟨rfl, q3⟩; have HQ3 := Lib.hid (HQ2.out.trans q3); clear q3; clear a0 a1 g0 g1 g2 g3 g4 g5)
  have a0 := (HBa.out.q HQ3.out).c0
  have a1 := (HBa.out.q HQ3.out).c1
  have g0 := (HBg.out.q HQ3.out).c0
  have g1 := (HBg.out.q HQ3.out).c1
  have g2 := (HBg.out.q HQ3.out).c2
  have g3 := (HBg.out.q HQ3.out).c3
  have g4 := (HBg.out.q HQ3.out).c4
  have g5 := (HBg.out.q HQ3.out).c5
  go_upto_region 5 with (go_at_call 104; refine (CNy.out w3 (HQ0.out.trans HQ3.out)).mono ?_; rintro e w4 ⟨rfl, q4⟩; have HQ4 := Lib.hid (HQ3.out.trans q4); clear q4; clear a0 a1 g0 g1 g2 g3 g4 g5)
  have a0 := (HBa.out.q HQ4.out).c0
  have a1 := (HBa.out.q HQ4.out).c1
  have g0 := (HBg.out.q HQ4.out).c0
  have g1 := (HBg.out.q HQ4.out).c1
  have g2 := (HBg.out.q HQ4.out).c2
  have g3 := (HBg.out.q HQ4.out).c3
  have g4 := (HBg.out.q HQ4.out).c4
  have g5 := (HBg.out.q HQ4.out).c5
  go_upto_region 18 with (go_at_call 110; refine (CLuv.out w4 (HQ0.out.trans HQ4.out)).mono ?_; rintro e w5 ⟨rfl, q5⟩; have HQ5 := Lib.hid (HQ4.out.trans q5); clear q5; clear a0 a1 g0 g1 g2 g3 g4 g5)
  have a0 := (HBa.out.q HQ5.out).c0
  have a1 := (HBa.out.q HQ5.out).c1
  have g0 := (HBg.out.q HQ5.out).c0
  have g1 := (HBg.out.q HQ5.out).c1
  have g2 := (HBg.out.q HQ5.out).c2
  have g3 := (HBg.out.q HQ5.out).c3
  have g4 := (HBg.out.q HQ5.out).c4
  have g5 := (HBg.out.q HQ5.out).c5
  go_upto_region 19 with (go_at_call 116; refine (CMy.out w5 (HQ0.out.trans HQ5.out)).mono ?_; rintro e w6 ⟨rfl, q6⟩; have HQ6 := Lib.hid (HQ5.out.trans q6); clear q6; clear a0 a1 g0 g1 g2 g3 g4 g5)
  have a0 := (HBa.out.q HQ6.out).c0
  have a1 := (HBa.out.q HQ6.out).c1
  have g0 := (HBg.out.q HQ6.out).c0
  have g1 := (HBg.out.q HQ6.out).c1
  have g2 := (HBg.out.q HQ6.out).c2
  have g3 := (HBg.out.q HQ6.out).c3
  have g4 := (HBg.out.q HQ6.out).c4
  have g5 := (HBg.out.q HQ6.out).c5
  obtain ⟨s0, s1⟩ := ALL.out w6 (HQ0.out.trans HQ6.out)
  go_upto_region 22 with (go_at_call 117; refine (HLay.out sa sc w6 ((HSI.out.q (HQ0.out.trans HQ6.out)).ints) HSc.out).mono ?_; rintro e w7 ⟨A7, c7, rfl, hc7, hI7, q7⟩; have HS67 : Hid (w6.heap.size ≤ w7.heap.size) := Lib.hid q7.size; have HC7 := Lib.hid hc7; have HI7 := Lib.hid hI7; have HQ7 := Lib.hid (HQ6.out.trans q7); clear hc7 hI7 q7 s0 s1; clear a0 a1 g0 g1 g2 g3 g4 g5)
  have HQw7 := Lib.hid (HQ0.out.trans HQ7.out)
  have HS7 : Hid (w.heap.size + 4 ≤ w6.heap.size ∧ w6.heap.size ≤ w7.heap.size) := by have h1 := HZ.out; have h2 := HQ6.out.size; exact ⟨by omega, HS67.out⟩
  have ALS : Hid (∀ U, Q w7 U → U.cell? ⟨w.heap.size, 0, none⟩ = some (.slice A ks.length ca) ∧ U.cell? ⟨w.heap.size, 1, none⟩ = some (.slice S ms d) ∧ U.cell? ⟨w.heap.size + 1, 0, none⟩ = some (.slice F R.length cr) ∧ U.cell? ⟨w.heap.size + 1, 1, none⟩ = some (.slice Av c.V.length k1) ∧ U.cell? ⟨w.heap.size + 1, 2, none⟩ = some (.slice D c.N.length k2) ∧ U.cell? ⟨w.heap.size + 1, 3, none⟩ = some (.slice E c.M.length k3) ∧ U.cell? ⟨w.heap.size + 1, 4, none⟩ = some (.slice (some lad) P.length kp) ∧ U.cell? ⟨w.heap.size + 1, 5, none⟩ = some (.slice (some gad) T.length kt) ∧ U.cell? (gad.add u) = some (.slice ra gr.length rc)) := fun U q => by
    have h1 := HBa.out.q (HQ7.out.trans q)
    have h2 := HBg.out.q (HQ7.out.trans q)
    exact ⟨h1.c0, h1.c1, h2.c0, h2.c1, h2.c2, h2.c3, h2.c4, h2.c5, (ALL.out U (HQw7.out.trans q)).2⟩
  have ALG : Hid (∀ U, Q w7 U → U.cell? ⟨w.heap.size + 1, 0, none⟩ = some (.slice F R.length cr) ∧ U.cell? ⟨w.heap.size + 1, 1, none⟩ = some (.slice Av c.V.length k1) ∧ U.cell? ⟨w.heap.size + 1, 2, none⟩ = some (.slice D c.N.length k2) ∧ U.cell? ⟨w.heap.size + 1, 3, none⟩ = some (.slice E c.M.length k3) ∧ U.cell? ⟨w.heap.size + 1, 4, none⟩ = some (.slice (some lad) P.length kp) ∧ U.cell? ⟨w.heap.size + 1, 5, none⟩ = some (.slice (some gad) T.length kt)) := fun U q => by
    have h2 := HBg.out.q (HQ7.out.trans q)
    exact ⟨h2.c0, h2.c1, h2.c2, h2.c3, h2.c4, h2.c5⟩
  clear CRx CRy CNx CNy CLuv CMy HLay
  go_wp2_with fail
  go_loopw [13, 21] (fun ov i wr => ∃ (k : Nat) (cs : List Value), k ≤ gr.length ∧ i = .int .i64 k ∧ Hid (wr.ownsRow w7.heap.size 76 2 ov k cs) ∧ Hid (Q w7 wr)) (fun _ i _ => gr.length - (intOf i).toNat)
  case atStart => exact ⟨0, [], Nat.zero_le _, rfl, Lib.hid (World.ownsRow_nil _ _ _ _), Lib.hid (Q.refl _)⟩
  case round =>
    obtain ⟨k, cs, hkl, rfl, HR, HQr⟩ := hrel
    obtain ⟨ov, hov⟩ : ∃ ov, ov = u13 := ⟨_, rfl⟩
    subst hov
    obtain ⟨z0, z1, z2, z3, z4, z5, z6, z7, z8⟩ := ALS.out wr HQr.out
    by_cases hlt : k < gr.length
    · obtain ⟨rad, hra, hrb, hr0⟩ := (Tr.Rds.int_at (ints_rds (HRI.out.ints)) hlt)
      subst hra
      have hrb2 : (rad.add k).block < w.heap.size := by rw [Tr.add_block]; exact hrb
      have ALR : Hid (∀ U, Q w7 U → U.cell? ⟨w.heap.size, 0, none⟩ = some (.slice A ks.length ca) ∧ U.cell? ⟨w.heap.size, 1, none⟩ = some (.slice S ms d) ∧ U.cell? ⟨w.heap.size + 1, 0, none⟩ = some (.slice F R.length cr) ∧ U.cell? ⟨w.heap.size + 1, 1, none⟩ = some (.slice Av c.V.length k1) ∧ U.cell? ⟨w.heap.size + 1, 2, none⟩ = some (.slice D c.N.length k2) ∧ U.cell? ⟨w.heap.size + 1, 3, none⟩ = some (.slice E c.M.length k3) ∧ U.cell? ⟨w.heap.size + 1, 4, none⟩ = some (.slice (some lad) P.length kp) ∧ U.cell? ⟨w.heap.size + 1, 5, none⟩ = some (.slice (some gad) T.length kt) ∧ U.cell? (gad.add u) = some (.slice (some rad) gr.length rc) ∧ U.cell? (rad.add k) = some (.int .i64 gr[k])) := fun U q => by
        obtain ⟨z0, z1, z2, z3, z4, z5, z6, z7, z8⟩ := ALS.out U q
        exact ⟨z0, z1, z2, z3, z4, z5, z6, z7, z8, ((HQw7.out.trans q).cell hrb2).trans hr0⟩
      have d3 : decide ((k : Int) < (gr.length : Int)) = true := decide_eq_true (by omega)
      have d4 : decide (k < gr.length) = true := decide_eq_true hlt
      have j4 : (k : Int) < (gr.length : Int) := by omega
      have j5 : (0 : Int) ≤ (k : Int) := Int.natCast_nonneg _
      clear hrb hrb2 hr0
      go_upto_region 25 with fail
      clear z0 z1 z2 z3 z4 z5 z6 z7 z8 d3 d4
      refine begin_t (S := fun U => U.cell? ⟨w.heap.size, 0, none⟩ = some (.slice A ks.length ca) ∧ U.cell? ⟨w.heap.size, 1, none⟩ = some (.slice S ms d) ∧ U.cell? ⟨w.heap.size + 1, 0, none⟩ = some (.slice F R.length cr) ∧ U.cell? ⟨w.heap.size + 1, 1, none⟩ = some (.slice Av c.V.length k1) ∧ U.cell? ⟨w.heap.size + 1, 2, none⟩ = some (.slice D c.N.length k2) ∧ U.cell? ⟨w.heap.size + 1, 3, none⟩ = some (.slice E c.M.length k3) ∧ U.cell? ⟨w.heap.size + 1, 4, none⟩ = some (.slice (some lad) P.length kp) ∧ U.cell? ⟨w.heap.size + 1, 5, none⟩ = some (.slice (some gad) T.length kt) ∧ U.cell? (gad.add u) = some (.slice (some rad) gr.length rc) ∧ U.cell? (rad.add k) = some (.int .i64 gr[k])) (z := 16) (by kernel_rfl) ?_ (fun hHeld => ?_)
      · exact ALR.out _ (Q.drew HQr.out)
      refine take_y (i := 0) (d := some 150) (v := ?_) rfl (by kernel_rfl) (by kernel_rfl) (by kernel_rfl) (by kernel_rfl) (fun _ _ _ h => h) rfl (by rfl) ?_ (by assumption) ?_
      rotate_left
      · (intro w; go_simp; (try with_reducible rfl))
      try simp only [Act.put, List.setIfInBounds_toArray, List.set_cons_zero, List.set_cons_succ]
      refine take_y (i := 1) (d := some 151) (v := ?_) rfl (by kernel_rfl) (by kernel_rfl) (by kernel_rfl) (by kernel_rfl) (fun _ _ _ h => h) rfl (by rfl) ?_ (by assumption) ?_
      rotate_left
      · (intro w; go_simp; (try with_reducible rfl))
      try simp only [Act.put, List.setIfInBounds_toArray, List.set_cons_zero, List.set_cons_succ]
      refine take_t (i := 2) (d := some 152) (v := ?_) rfl (by kernel_rfl) (by kernel_rfl) (by kernel_rfl) (by kernel_rfl) (fun _ _ _ h => h) rfl (by rfl) ?_ (by assumption) ?_
      rotate_left
      · (intro w hSw; (try dsimp only at hSw); go_simp; (try with_reducible rfl))
      try simp only [Act.put, List.setIfInBounds_toArray, List.set_cons_zero, List.set_cons_succ]
      refine take_t (i := 3) (d := some 153) (v := ?_) rfl (by kernel_rfl) (by kernel_rfl) (by kernel_rfl) (by kernel_rfl) (fun _ _ _ h => h) rfl (by rfl) ?_ (by assumption) ?_
      rotate_left
      · (intro w hSw; (try dsimp only at hSw); go_simp; (try with_reducible rfl))
      try simp only [Act.put, List.setIfInBounds_toArray, List.set_cons_zero, List.set_cons_succ]
      refine take_y (i := 4) (d := some 154) (v := ?_) rfl (by kernel_rfl) (by kernel_rfl) (by kernel_rfl) (by kernel_rfl) (fun _ _ _ h => h) rfl (by rfl) ?_ (by assumption) ?_
      rotate_left
      · (intro w; go_simp; (try with_reducible rfl))
      try simp only [Act.put, List.setIfInBounds_toArray, List.set_cons_zero, List.set_cons_succ]
      refine take_t (i := 5) (d := some 155) (v := ?_) rfl (by kernel_rfl) (by kernel_rfl) (by kernel_rfl) (by kernel_rfl) (fun _ _ _ h => h) rfl (by rfl) ?_ (by assumption) ?_
      rotate_left
      · (intro w hSw; (try dsimp only at hSw); go_simp; (try with_reducible rfl))
      try simp only [Act.put, List.setIfInBounds_toArray, List.set_cons_zero, List.set_cons_succ]
      refine take_y (i := 6) (d := some 156) (v := ?_) rfl (by kernel_rfl) (by kernel_rfl) (by kernel_rfl) (by kernel_rfl) (fun _ _ _ h => h) rfl (by rfl) ?_ (by assumption) ?_
      rotate_left
      · (intro w; go_simp; (try with_reducible rfl))
      try simp only [Act.put, List.setIfInBounds_toArray, List.set_cons_zero, List.set_cons_succ]
      refine take_y (i := 7) (d := some 157) (v := ?_) rfl (by kernel_rfl) (by kernel_rfl) (by kernel_rfl) (by kernel_rfl) (fun _ _ _ h => h) rfl (by rfl) ?_ (by assumption) ?_
      rotate_left
      · (intro w; go_simp; (try with_reducible rfl))
      try simp only [Act.put, List.setIfInBounds_toArray, List.set_cons_zero, List.set_cons_succ]
      refine take_t (i := 8) (d := some 158) (v := ?_) rfl (by kernel_rfl) (by kernel_rfl) (by kernel_rfl) (by kernel_rfl) (fun _ _ _ h => h) rfl (by rfl) ?_ (by assumption) ?_
      rotate_left
      · (intro w hSw; (try dsimp only at hSw); go_simp; (try with_reducible rfl))
      try simp only [Act.put, List.setIfInBounds_toArray, List.set_cons_zero, List.set_cons_succ]
      refine take_y (i := 9) (d := some 159) (v := ?_) rfl (by kernel_rfl) (by kernel_rfl) (by kernel_rfl) (by kernel_rfl) (fun _ _ _ h => h) rfl (by rfl) ?_ (by assumption) ?_
      rotate_left
      · (intro w; go_simp; (try with_reducible rfl))
      try simp only [Act.put, List.setIfInBounds_toArray, List.set_cons_zero, List.set_cons_succ]
      refine take_y (i := 10) (d := some 160) (v := ?_) rfl (by kernel_rfl) (by kernel_rfl) (by kernel_rfl) (by kernel_rfl) (fun _ _ _ h => h) rfl (by rfl) ?_ (by assumption) ?_
      rotate_left
      · (intro w; go_simp; (try with_reducible rfl))
      try simp only [Act.put, List.setIfInBounds_toArray, List.set_cons_zero, List.set_cons_succ]
      refine take_t (i := 11) (d := some 161) (v := ?_) rfl (by kernel_rfl) (by kernel_rfl) (by kernel_rfl) (by kernel_rfl) (fun _ _ _ h => h) rfl (by rfl) ?_ (by assumption) ?_
      rotate_left
      · (intro w hSw; (try dsimp only at hSw); go_simp; (try with_reducible rfl))
      try simp only [Act.put, List.setIfInBounds_toArray, List.set_cons_zero, List.set_cons_succ]
      refine call_t (i := 12) rfl (by kernel_rfl) (by rfl) (fun K hK => ?_)
      go_simp
      go_at_call 115
      refine (CRp.out gr[k] wr.drew (HQw7.out.trans (Q.drew HQr.out))).mono ?_
      rintro e w8 ⟨rfl, q8⟩
      have HQ8 := Lib.hid ((Q.drew (Q.refl wr)).trans q8)
      clear q8
      have hHeld : ((fun U => U.cell? ⟨w.heap.size, 0, none⟩ = some (.slice A ks.length ca) ∧ U.cell? ⟨w.heap.size, 1, none⟩ = some (.slice S ms d) ∧ U.cell? ⟨w.heap.size + 1, 0, none⟩ = some (.slice F R.length cr) ∧ U.cell? ⟨w.heap.size + 1, 1, none⟩ = some (.slice Av c.V.length k1) ∧ U.cell? ⟨w.heap.size + 1, 2, none⟩ = some (.slice D c.N.length k2) ∧ U.cell? ⟨w.heap.size + 1, 3, none⟩ = some (.slice E c.M.length k3) ∧ U.cell? ⟨w.heap.size + 1, 4, none⟩ = some (.slice (some lad) P.length kp) ∧ U.cell? ⟨w.heap.size + 1, 5, none⟩ = some (.slice (some gad) T.length kt) ∧ U.cell? (gad.add u) = some (.slice (some rad) gr.length rc) ∧ U.cell? (rad.add k) = some (.int .i64 gr[k])) : World → Prop) _ := ALR.out _ (HQr.out.trans HQ8.out)
      refine hK.out _ _ (fun _ => hHeld) ?_
      clear hK K
      try simp only [Act.put, List.setIfInBounds_toArray, List.set_cons_zero, List.set_cons_succ]
      refine take_y (i := 13) (d := some 163) (v := ?_) rfl (by kernel_rfl) (by kernel_rfl) (by kernel_rfl) (by kernel_rfl) (fun _ _ _ h => h) rfl (by rfl) ?_ (by assumption) ?_
      rotate_left
      · (intro w; go_simp; (try with_reducible rfl))
      try simp only [Act.put, List.setIfInBounds_toArray, List.set_cons_zero, List.set_cons_succ]
      refine call_t (i := 14) rfl (by kernel_rfl) (by rfl) (fun K hK => ?_)
      go_simp
      have hHeld : ((fun U => U.cell? ⟨w.heap.size, 0, none⟩ = some (.slice A ks.length ca) ∧ U.cell? ⟨w.heap.size, 1, none⟩ = some (.slice S ms d) ∧ U.cell? ⟨w.heap.size + 1, 0, none⟩ = some (.slice F R.length cr) ∧ U.cell? ⟨w.heap.size + 1, 1, none⟩ = some (.slice Av c.V.length k1) ∧ U.cell? ⟨w.heap.size + 1, 2, none⟩ = some (.slice D c.N.length k2) ∧ U.cell? ⟨w.heap.size + 1, 3, none⟩ = some (.slice E c.M.length k3) ∧ U.cell? ⟨w.heap.size + 1, 4, none⟩ = some (.slice (some lad) P.length kp) ∧ U.cell? ⟨w.heap.size + 1, 5, none⟩ = some (.slice (some gad) T.length kt) ∧ U.cell? (gad.add u) = some (.slice (some rad) gr.length rc) ∧ U.cell? (rad.add k) = some (.int .i64 gr[k])) : World → Prop) _ := ALR.out _ (HQr.out.trans (HQ8.out.alloc (Obj.cells #[.int .i64 rx, .int .i64 (repV ks c.V gr[k])] 76)))
      refine hK.out _ _ (fun _ => hHeld) ?_
      clear hK K
      try simp only [Act.put, List.setIfInBounds_toArray, List.set_cons_zero, List.set_cons_succ]
      refine call_t (i := 15) rfl (by kernel_rfl) (by rfl) (fun K hK => ?_)
      have HOw := Lib.hid (Tr.row_kept HR.out (HQ8.out.alloc (Obj.cells #[.int .i64 rx, .int .i64 (repV ks c.V gr[k])] 76)) (Nat.le_refl _))
      have HQa := Lib.hid ((HQr.out.trans HQ8.out).alloc (Obj.cells #[.int .i64 rx, .int .i64 (repV ks c.V gr[k])] 76))
      refine wp_append_src _ (.tmp 150) (.tmp 164) _ rfl w7.heap.size 76 i0 _ 2 16 Tryz.underlying37 Hi.out Hz0.out Hz1.out Hz2.out rfl (by omega) _ k cs rfl HOw.out (some ⟨w8.heap.size, 0, none⟩) 1 1 [.int .i64 rx, .int .i64 (repV ks c.V gr[k])] rfl rfl (src_block (cs := #[.int .i64 rx, .int .i64 (repV ks c.V gr[k])]) (heap_alloc_new w8 (Obj.cells #[.int .i64 rx, .int .i64 (repV ks c.V gr[k])] 76))) (by simp [Value.oneCell']) (by unfold maxLen; omega) (by omega) HQa.out.size ?_
      intro v9 w9 own9 gr9 at9
      have HQ9 : Hid (Q w7 w9) := Lib.hid (HQa.out.grown gr9 HQa.out.size (fun b hb => (HOw.out.lt b hb).1))
      have Own9 := Lib.hid own9
      clear own9 gr9 at9
      have hHeld : ((fun U => U.cell? ⟨w.heap.size, 0, none⟩ = some (.slice A ks.length ca) ∧ U.cell? ⟨w.heap.size, 1, none⟩ = some (.slice S ms d) ∧ U.cell? ⟨w.heap.size + 1, 0, none⟩ = some (.slice F R.length cr) ∧ U.cell? ⟨w.heap.size + 1, 1, none⟩ = some (.slice Av c.V.length k1) ∧ U.cell? ⟨w.heap.size + 1, 2, none⟩ = some (.slice D c.N.length k2) ∧ U.cell? ⟨w.heap.size + 1, 3, none⟩ = some (.slice E c.M.length k3) ∧ U.cell? ⟨w.heap.size + 1, 4, none⟩ = some (.slice (some lad) P.length kp) ∧ U.cell? ⟨w.heap.size + 1, 5, none⟩ = some (.slice (some gad) T.length kt) ∧ U.cell? (gad.add u) = some (.slice (some rad) gr.length rc) ∧ U.cell? (rad.add k) = some (.int .i64 gr[k])) : World → Prop) _ := ALR.out _ HQ9.out
      refine hK.out _ _ (fun _ => hHeld) ?_
      clear hK K
      try simp only [Act.put]
      refine call_t (i := 16) rfl (by kernel_rfl) (by rfl) (fun K hK => ?_)
      go_simp
      refine hK.out _ _ (fun hz => by cases hz) ?_
      clear hK K
      try simp only [Act.put]
      refine done_t (by kernel_rfl) ?_ _
      go_wp2_with fail
      go_roundw
      case rel => exact ⟨k + 1, _, by omega, by go_num, Own9, HQ9⟩
      case measure => simp [intOf]; omega
    · obtain rfl : k = gr.length := by omega
      have d3 : decide ((gr.length : Int) < (gr.length : Int)) = false := decide_eq_false (by omega)
      have d4 : decide (gr.length < gr.length) = false := decide_eq_false (by omega)
      go_upto_region 26 with fail
      clear z0 z1 z2 z3 z4 z5 z6 z7 z8 d3 d4
      refine begin_t (S := fun U => U.cell? ⟨w.heap.size + 1, 0, none⟩ = some (.slice F R.length cr) ∧ U.cell? ⟨w.heap.size + 1, 1, none⟩ = some (.slice Av c.V.length k1) ∧ U.cell? ⟨w.heap.size + 1, 2, none⟩ = some (.slice D c.N.length k2) ∧ U.cell? ⟨w.heap.size + 1, 3, none⟩ = some (.slice E c.M.length k3) ∧ U.cell? ⟨w.heap.size + 1, 4, none⟩ = some (.slice (some lad) P.length kp) ∧ U.cell? ⟨w.heap.size + 1, 5, none⟩ = some (.slice (some gad) T.length kt)) (z := 13) (by kernel_rfl) ?_ (fun hHeld => ?_)
      · exact ALG.out _ (Q.drew HQr.out)
      refine take_y (i := 0) (d := some 166) (v := ?_) rfl (by kernel_rfl) (by kernel_rfl) (by kernel_rfl) (by kernel_rfl) (fun _ _ _ h => h) rfl (by rfl) ?_ (by assumption) ?_
      rotate_left
      · (intro w; go_simp; (try with_reducible rfl))
      try simp only [Act.put, List.setIfInBounds_toArray, List.set_cons_zero, List.set_cons_succ]
      refine take_t (i := 1) (d := some 167) (v := ?_) rfl (by kernel_rfl) (by kernel_rfl) (by kernel_rfl) (by kernel_rfl) (fun _ _ _ h => h) rfl (by rfl) ?_ (by assumption) ?_
      rotate_left
      · (intro w hSw; (try dsimp only at hSw); go_simp; (try with_reducible rfl))
      try simp only [Act.put, List.setIfInBounds_toArray, List.set_cons_zero, List.set_cons_succ]
      refine take_y (i := 2) (d := some 168) (v := ?_) rfl (by kernel_rfl) (by kernel_rfl) (by kernel_rfl) (by kernel_rfl) (fun _ _ _ h => h) rfl (by rfl) ?_ (by assumption) ?_
      rotate_left
      · (intro w; go_simp; (try with_reducible rfl))
      try simp only [Act.put, List.setIfInBounds_toArray, List.set_cons_zero, List.set_cons_succ]
      refine take_t (i := 3) (d := some 169) (v := ?_) rfl (by kernel_rfl) (by kernel_rfl) (by kernel_rfl) (by kernel_rfl) (fun _ _ _ h => h) rfl (by rfl) ?_ (by assumption) ?_
      rotate_left
      · (intro w hSw; (try dsimp only at hSw); go_simp; (try with_reducible rfl))
      try simp only [Act.put, List.setIfInBounds_toArray, List.set_cons_zero, List.set_cons_succ]
      refine take_y (i := 4) (d := some 170) (v := ?_) rfl (by kernel_rfl) (by kernel_rfl) (by kernel_rfl) (by kernel_rfl) (fun _ _ _ h => h) rfl (by rfl) ?_ (by assumption) ?_
      rotate_left
      · (intro w; go_simp; (try with_reducible rfl))
      try simp only [Act.put, List.setIfInBounds_toArray, List.set_cons_zero, List.set_cons_succ]
      refine take_t (i := 5) (d := some 171) (v := ?_) rfl (by kernel_rfl) (by kernel_rfl) (by kernel_rfl) (by kernel_rfl) (fun _ _ _ h => h) rfl (by rfl) ?_ (by assumption) ?_
      rotate_left
      · (intro w hSw; (try dsimp only at hSw); go_simp; (try with_reducible rfl))
      try simp only [Act.put, List.setIfInBounds_toArray, List.set_cons_zero, List.set_cons_succ]
      refine take_y (i := 6) (d := some 172) (v := ?_) rfl (by kernel_rfl) (by kernel_rfl) (by kernel_rfl) (by kernel_rfl) (fun _ _ _ h => h) rfl (by rfl) ?_ (by assumption) ?_
      rotate_left
      · (intro w; go_simp; (try with_reducible rfl))
      try simp only [Act.put, List.setIfInBounds_toArray, List.set_cons_zero, List.set_cons_succ]
      refine take_y (i := 7) (d := some 173) (v := ?_) rfl (by kernel_rfl) (by kernel_rfl) (by kernel_rfl) (by kernel_rfl) (fun _ _ _ h => h) rfl (by rfl) ?_ (by assumption) ?_
      rotate_left
      · (intro w; go_simp; (try with_reducible rfl))
      try simp only [Act.put, List.setIfInBounds_toArray, List.set_cons_zero, List.set_cons_succ]
      refine take_y (i := 9) (d := some 175) (v := ?_) rfl (by kernel_rfl) (by kernel_rfl) (by kernel_rfl) (by kernel_rfl) (fun _ _ _ h => h) rfl (by rfl) ?_ (by assumption) ?_
      rotate_left
      · (intro w; go_simp; (try with_reducible rfl))
      try simp only [Act.put, List.setIfInBounds_toArray, List.set_cons_zero, List.set_cons_succ]
      refine take_t (i := 10) (d := some 176) (v := ?_) rfl (by kernel_rfl) (by kernel_rfl) (by kernel_rfl) (by kernel_rfl) (fun _ _ _ h => h) rfl (by rfl) ?_ (by assumption) ?_
      rotate_left
      · (intro w hSw; (try dsimp only at hSw); go_simp; (try with_reducible rfl))
      try simp only [Act.put, List.setIfInBounds_toArray, List.set_cons_zero, List.set_cons_succ]
      refine take_y (i := 12) (d := some 178) (v := ?_) rfl (by kernel_rfl) (by kernel_rfl) (by kernel_rfl) (by kernel_rfl) (fun _ _ _ h => h) rfl (by rfl) ?_ (by assumption) ?_
      rotate_left
      · (intro w; go_simp; (try with_reducible rfl))
      try simp only [Act.put, List.setIfInBounds_toArray, List.set_cons_zero, List.set_cons_succ]
      refine call_t (i := 8) rfl (by kernel_rfl) (by rfl) (fun K hK => ?_)
      go_simp
      go_at_call 118
      refine (CWt.out A7 c7 wr.drew (HQw7.out.trans (Q.drew HQr.out)) HC7.out (IntsP.toP (HI7.out.q (Q.drew HQr.out)) (Nat.le_refl _) (fun _ _ _ => rfl) (fun b hb _ => .inr (by have := HS7.out; omega)))).mono ?_
      rintro e w9 ⟨g8, cp8, rfl, hcp8, hk8, q8⟩
      have HK8 := Lib.hid hk8
      have HCp8 := Lib.hid hcp8
      have HQ9 := Lib.hid (HQr.out.trans ((Q.drew (Q.refl wr)).trans q8))
      have HQd9 := Lib.hid q8
      clear hk8 q8 hcp8
      have hHeld : ((fun U => U.cell? ⟨w.heap.size + 1, 0, none⟩ = some (.slice F R.length cr) ∧ U.cell? ⟨w.heap.size + 1, 1, none⟩ = some (.slice Av c.V.length k1) ∧ U.cell? ⟨w.heap.size + 1, 2, none⟩ = some (.slice D c.N.length k2) ∧ U.cell? ⟨w.heap.size + 1, 3, none⟩ = some (.slice E c.M.length k3) ∧ U.cell? ⟨w.heap.size + 1, 4, none⟩ = some (.slice (some lad) P.length kp) ∧ U.cell? ⟨w.heap.size + 1, 5, none⟩ = some (.slice (some gad) T.length kt)) : World → Prop) _ := ALG.out _ HQ9.out
      refine hK.out _ _ (fun _ => hHeld) ?_
      clear hK K
      try simp only [Act.put, List.setIfInBounds_toArray, List.set_cons_zero, List.set_cons_succ]
      refine take_y (i := 11) (d := some 177) (v := ?_) rfl (by kernel_rfl) (by kernel_rfl) (by kernel_rfl) (by kernel_rfl) (fun _ _ _ h => h) rfl (by rfl) ?_ (by assumption) ?_
      rotate_left
      · (intro w; go_simp; (try with_reducible rfl))
      try simp only [Act.put, List.setIfInBounds_toArray, List.set_cons_zero, List.set_cons_succ]
      have hx9 := HX.out.q (HQ7.out.trans HQ9.out)
      have HX9 := Lib.hid hx9
      have x0 := hx9.c.c0
      have x1 := hx9.c.c1
      have x2 := hx9.c.c2
      have x3 := hx9.c.c3
      have x4 := hx9.c.c4
      have x5 := hx9.c.c5
      have xf0 := hx9.f0
      have xf1 := hx9.f1
      have xf2 := hx9.f2
      have xf3 := hx9.f3
      have xf4 := hx9.f4
      have xf5 := hx9.f5
      clear hx9
      refine call_t (i := 13) rfl (by kernel_rfl) (by rfl) (fun K hK => ?_)
      go_simp
      refine hK.out _ _ (fun hz => by cases hz) ?_
      clear hK K
      try simp only [Act.put, List.setIfInBounds_toArray, List.set_cons_zero, List.set_cons_succ]
      clear x0 x1 x2 x3 x4 x5 xf0 xf1 xf2 xf3 xf4 xf5
      refine call_t (i := 14) rfl (by kernel_rfl) (by rfl) (fun K hK => ?_)
      go_simp
      refine hK.out _ _ (fun hz => by cases hz) ?_
      clear hK K
      try simp only [Act.put, List.setIfInBounds_toArray, List.set_cons_zero, List.set_cons_succ]
      refine call_t (i := 15) rfl (by kernel_rfl) (by rfl) (fun K hK => ?_)
      go_simp
      refine hK.out _ _ (fun hz => by cases hz) ?_
      clear hK K
      try simp only [Act.put, List.setIfInBounds_toArray, List.set_cons_zero, List.set_cons_succ]
      refine done_t (by kernel_rfl) ?_ _
      go_wp2_with fail
      have hz := HX9.out.set (.slice F R.length cr) (.slice Av c.V.length k1) (.slice D c.N.length k2) (.slice E c.M.length k3) (.slice (some ⟨g8, 0, none⟩) P.length cp8) (.slice (some gad) T.length kt)
      have y0 := hz.c.c0
      have y1 := hz.c.c1
      have y2 := hz.c.c2
      have y3 := hz.c.c3
      have y4 := hz.c.c4
      have y5 := hz.c.c5
      have gw := set6_grown w9 (w.heap.size + 1 + 1 + 1) (.slice F R.length cr) (.slice Av c.V.length k1) (.slice D c.N.length k2) (.slice E c.M.length k3) (.slice (some ⟨g8, 0, none⟩) P.length cp8) (.slice (some gad) T.length kt)
      have hq9 := HQw7.out.trans HQ9.out
      have ag := agree_row (P := fun b => (K b ∨ w.heap.size + 4 ≤ b) ∨ wr.drew.heap.size ≤ b) gw (fun r e hp => by
        injection e with e
        have h1 := HS7.out
        have h2 := HQr.out.size
        have h3 : wr.drew.heap.size = wr.heap.size := rfl
        rcases hp with (hp | hp) | hp
        · have := HKw.out r hp; omega
        · omega
        · omega)
      have hg9 := (HG.out.q hq9).to (K' := fun b => K b ∨ w.heap.size ≤ b) (agree_row (P := K) gw (fun r e hp => by injection e with e; have := HKw.out r hp; omega)) (fun b hb _ => .inl hb)
      have hk9 := HK8.out.toP (P' := fun b => K b ∨ w.heap.size ≤ b) ag.1 ag.2 (fun b hb _ => by
        have h1 := HS7.out
        have h2 := HQr.out.size
        have h3 : wr.drew.heap.size = wr.heap.size := rfl
        rcases hb with (hb | hb) | hb
        · exact .inl hb
        · exact .inr (by omega)
        · exact .inr (by omega))
      refine bodyPost_ret (v := .tuple #[.agg #[.slice F R.length cr, .slice Av c.V.length k1, .slice D c.N.length k2, .slice E c.M.length k3, .slice (some ⟨g8, 0, none⟩) P.length cp8, .slice (some gad) T.length kt], ov, .bool true]) (by simp [results, Tryz.f55, go_sem, y0, y1, y2, y3, y4, y5]) rfl
        ⟨F, Av, D, E, some ⟨g8, 0, none⟩, some gad, cr, k1, k2, k3, cp8, kt, ov, ?_, ⟨hg9.r, hg9.v, hg9.n, hg9.m, hk9, hg9.t, hg9.lv, hg9.ln, hg9.lm⟩, grown_q gw hq9 (by omega)⟩
      unfold gvP
      rw [show (P.set u row).length = P.length from List.length_set]
end Go.Proofs.YtnifmfdlocgefaaGreat.Ig

namespace Go.Proofs.YtnifmfdlocgefaaGreat.Cy
open Go Go.RowKit Go.Lib Go.Sort Go.Shelf Kit Uf Ig Tr
open Go.Proofs.YtnifmfdlocgefaaGreat.Hs (Keys Ints KeysP IntsP BoxT)
attribute [local go_sem] Oper.semAt_some

set_option maxRecDepth 100000 in
set_option maxHeartbeats 4000000 in
theorem all13p_any (R : List Int) (c : Cells) (P T ks : List (List Int)) (A S F Av D E Pa Ta : Option Addr) (ca ms d nr cr k1 k2 k3 kp kt : Nat) (w : World)
    (hk : Keys w w.heap.size A ks) (hkey : ∀ k ∈ ks, k.length ≤ 100000) (hl : ks.length ≤ 1000000) (h : Rd w c Av k1 D k2 E k3) (hC : Cl R c.V) (hlv : c.V.length ≤ 1000000)
    (hP : Keys w w.heap.size Pa P) (hT : Keys w w.heap.size Ta T) (lP : P.length = c.V.length) (lT : T.length = c.V.length) (sP : ∀ x ∈ P, x.length ≤ 1000000) (sT : ∀ x ∈ T, x.length ≤ 1000000) (hE : (edgesN ks c.V P T).length ≤ 1000000) :
    Calls Tryz.prog 72 #[.agg #[.slice A ks.length ca, .slice S ms d], .agg #[.slice F nr cr, .slice Av c.V.length k1, .slice D c.N.length k2, .slice E c.M.length k3, .slice Pa P.length kp, .slice Ta T.length kt]] w fun e w' => ∃ ad, e = .returned (.slice ad c.V.length c.V.length) ∧ Keys w' w'.heap.size ad (rowsOf (edgesN ks c.V P T) c.V.length) ∧ Q w w' := by
  obtain ⟨i0, hi, hz0, hz1, hz2⟩ := info_parts intInfo
  have Hi := Lib.hid hi
  have Hz0 := Lib.hid hz0
  have Hz1 := Lib.hid hz1
  have Hz2 := Lib.hid hz2
  clear hi hz0 hz1 hz2
  have HMx : Tryz.prog.follows .mixedOrders = true := by kernel_rfl
  have hmk := make_slices c.V.length hlv
  have q0 := ((Q.refl w).alloc (Obj.cells #[.slice A ks.length ca, .slice S ms d] 26)).alloc (Obj.cells #[.slice F nr cr, .slice Av c.V.length k1, .slice D c.N.length k2, .slice E c.M.length k3, .slice Pa P.length kp, .slice Ta T.length kt] 31)
  have HBa := Lib.hid ((BoxT.new w (.slice A ks.length ca) (.slice S ms d) 26).q ((Q.refl _).alloc (Obj.cells #[.slice F nr cr, .slice Av c.V.length k1, .slice D c.N.length k2, .slice E c.M.length k3, .slice Pa P.length kp, .slice Ta T.length kt] 31)))
  have X := Box6.new (w.alloc (Obj.cells #[.slice A ks.length ca, .slice S ms d] 26)) (.slice F nr cr) (.slice Av c.V.length k1) (.slice D c.N.length k2) (.slice E c.M.length k3) (.slice Pa P.length kp) (.slice Ta T.length kt) 31
  rw [World.size_alloc] at X
  have HBg := Lib.hid X
  have HQ0 := Lib.hid q0
  have CG := Lib.hid (fun (U : World) (K : Nat → Prop) (Ba Bg : Nat) (q : Q w U) (hK : ∀ b, b < w.heap.size → K b) (ba : BoxT U Ba (.slice A ks.length ca) (.slice S ms d)) (bg : Box6 U Bg (.slice F nr cr) (.slice Av c.V.length k1) (.slice D c.N.length k2) (.slice E c.M.length k3) (.slice Pa P.length kp) (.slice Ta T.length kt)) (kg : K Bg) =>
    edges_gives R c P T ks A S F Av D E Pa Ta ca ms d nr cr k1 k2 k3 kp kt Ba Bg K U ba bg kg ((hk.q (Nat.le_refl _) q).more q.size) hkey hl (h.q q) hC hlv (Hs.Keys.p (hP.q (Nat.le_refl _) q) q.size hK) (Hs.Keys.p (hT.q (Nat.le_refl _) q) q.size hK) lP lT sP sT)
  have HE := Lib.hid hE
  have HEin : Hid (∀ x ∈ edgesN ks c.V P T, x.1 < c.V.length) := fun x hx => (eB_of ((mem_edges (a := x.1) (b := x.2) hC).1 hx)).1.1
  have HLv := Lib.hid hlv
  clear hk hkey hl h hC hP hT lP lT sP sT hE X q0
  refine callsIn_wide.1 (callsIn_of_wp_marks (n := 5) Tryz.func72 rfl trivial ?_ rfl)
  simp only [Tryz.ntmps72, List.size_toArray, List.length_cons, List.length_nil, Nat.reduceAdd, Nat.reduceSub, Array.replicate_succ, Array.replicate_zero, List.push_toArray, List.append_toArray, List.nil_append, List.cons_append]
  refine wpIn_wide.2 ?_
  go_upto_region 1 with fail
  have HZ0 : Hid (((w.alloc (Obj.cells #[.slice A ks.length ca, .slice S ms d] 26)).alloc (Obj.cells #[.slice F nr cr, .slice Av c.V.length k1, .slice D c.N.length k2, .slice E c.M.length k3, .slice Pa P.length kp, .slice Ta T.length kt] 31)).heap.size = w.heap.size + 2) := by unfold Hid; simp
  generalize (w.alloc (Obj.cells #[.slice A ks.length ca, .slice S ms d] 26)).alloc (Obj.cells #[.slice F nr cr, .slice Av c.V.length k1, .slice D c.N.length k2, .slice E c.M.length k3, .slice Pa P.length kp, .slice Ta T.length kt] 31) = W0 at *
  have g1 := HBg.out.c1
  have hm := hmk W0
  go_upto_region 2 with fail
  clear g1 hm hmk
  have qa := ((Q.refl W0).alloc (.cells (madeCells #[.slice none 0 0] c.V.length) 24)).alloc (.cells #[.slice (some ⟨W0.heap.size, 0, none⟩) c.V.length c.V.length] 23)
  have hb5 := cell_new (W0.alloc (.cells (madeCells #[.slice none 0 0] c.V.length) 24)) (.slice (some ⟨W0.heap.size, 0, none⟩) c.V.length c.V.length) 23 (W0.heap.size + 1) (by simp)
  have hcs : ∀ i, i < c.V.length → ((W0.alloc (.cells (madeCells #[.slice none 0 0] c.V.length) 24)).alloc (.cells #[.slice (some ⟨W0.heap.size, 0, none⟩) c.V.length c.V.length] 23)).cell? ⟨W0.heap.size, i, none⟩ = some (.slice none 0 0) ∧ ((W0.alloc (.cells (madeCells #[.slice none 0 0] c.V.length) 24)).alloc (.cells #[.slice (some ⟨W0.heap.size, 0, none⟩) c.V.length c.V.length] 23)).frozen? ⟨W0.heap.size, i, none⟩ = false := fun i hi => by
    have qb := (Q.refl (W0.alloc (.cells (madeCells #[.slice none 0 0] c.V.length) 24))).alloc (.cells #[.slice (some ⟨W0.heap.size, 0, none⟩) c.V.length c.V.length] 23)
    have h := made_slices W0 c.V.length 24 hi
    exact ⟨(qb.cell (p := ⟨W0.heap.size, i, none⟩) (by simp)).trans h.1, (qb.frozen (p := ⟨W0.heap.size, i, none⟩) (by simp)).trans h.2⟩
  have hs3 : ((W0.alloc (.cells (madeCells #[.slice none 0 0] c.V.length) 24)).alloc (.cells #[.slice (some ⟨W0.heap.size, 0, none⟩) c.V.length c.V.length] 23)).heap.size = W0.heap.size + 2 := by simp
  have HQ3 := Lib.hid qa
  have HB5 := Lib.hid hb5
  have HCs := Lib.hid hcs
  have HS3 := Lib.hid hs3
  clear qa hb5 hcs hs3
  generalize (W0.alloc (.cells (madeCells #[.slice none 0 0] c.V.length) 24)).alloc (.cells #[.slice (some ⟨W0.heap.size, 0, none⟩) c.V.length c.V.length] 23) = W3 at *
  have a0 := (HBa.out.q HQ3.out).c0
  have a1 := (HBa.out.q HQ3.out).c1
  have g0 := (HBg.out.q HQ3.out).c0
  have g1 := (HBg.out.q HQ3.out).c1
  have g2 := (HBg.out.q HQ3.out).c2
  have g3 := (HBg.out.q HQ3.out).c3
  have g4 := (HBg.out.q HQ3.out).c4
  have g5 := (HBg.out.q HQ3.out).c5
  go_wp2_with (go_at_call 66; refine (edges13_any _ _ _ _ _ _ _ _ _).mono ?_; rintro e W5 ⟨rfl, hW5⟩; have ba := (BoxT.new W3 (.slice A ks.length ca) (.slice S ms d) 26).q ((Q.refl _).alloc (Obj.cells #[.slice F nr cr, .slice Av c.V.length k1, .slice D c.N.length k2, .slice E c.M.length k3, .slice Pa P.length kp, .slice Ta T.length kt] 31)); have bg := Box6.new (W3.alloc (Obj.cells #[.slice A ks.length ca, .slice S ms d] 26)) (.slice F nr cr) (.slice Av c.V.length k1) (.slice D c.N.length k2) (.slice E c.M.length k3) (.slice Pa P.length kp) (.slice Ta T.length kt) 31; have q5 : Q W3 W5 := (by rw [hW5]; exact ((Q.refl W3).alloc _).alloc _); have hs5 : Hid (W5.heap.size = W3.heap.size + 2) := (by rw [hW5]; unfold Hid; simp); rw [World.size_alloc] at bg; rw [← hW5] at ba bg; clear a0 a1 g0 g1 g2 g3 g4 g5 hW5)
  have hs5 := hs5.out
  have hs3 := HS3.out
  have hs0 := HZ0.out
  have HNx0 : Hid (NaI w W5.heap.size W0.heap.size (W0.heap.size + 1) c.V.length [] (fun b => b = W0.heap.size) W5) :=
    ⟨fun _ => .slice none 0 0, fun b => ⟨.inl, fun h => h.elim id (fun ⟨_, _, e⟩ => by cases e)⟩, (q5.cell (p := ⟨W0.heap.size + 1, 0, none⟩) (by show W0.heap.size + 1 < _; omega)).trans HB5.out, fun i hi => ⟨(q5.cell (p := ⟨W0.heap.size, i, none⟩) (by show W0.heap.size < _; omega)).trans (HCs.out i hi).1, (q5.frozen (p := ⟨W0.heap.size, i, none⟩) (by show W0.heap.size < _; omega)).trans (HCs.out i hi).2, own_nil W5 _⟩, fun i j r _ _ e _ => (by cases e), Nat.le_refl _, (HQ0.out.trans HQ3.out).trans q5⟩
  have HG5 := Lib.hid (CG.out W5 (fun b => b ≠ W0.heap.size) W3.heap.size (W3.heap.size + 1) ((HQ0.out.trans HQ3.out).trans q5) (fun b hb => by omega) ba bg (by omega))
  have HMd : Hid (Mind W5.heap.size (NaI w W5.heap.size W0.heap.size (W0.heap.size + 1) c.V.length)) := NaI.mind (by omega) (by omega) (by omega)
  have H78 : Hid (W0.heap.size < W5.heap.size ∧ W0.heap.size + 1 < W5.heap.size ∧ W0.heap.size + 1 ≠ W0.heap.size ∧ w.heap.size ≤ W0.heap.size) := ⟨by omega, by omega, by omega, by omega⟩
  clear hs3 hs0 hs5 ba bg q5
  refine (wpIn_wide (n := 5)).1 ?_
  refine range_gives (gf := 134) (lb := #[.pointer (some ⟨W3.heap.size, 0, none⟩), .pointer (some ⟨W3.heap.size + 1, 0, none⟩)]) rfl (enters_of Tryz.func134 (by kernel_rfl) rfl)
    HG5.out (Q.refl _) (fun x => rfl) (NaI w W5.heap.size W0.heap.size (W0.heap.size + 1) c.V.length) HMd.out (fun b => b = W0.heap.size) (fun k hk hm => hk hm) HNx0.out
    (fun e => { tmps := #[.agg #[.slice A ks.length ca, .slice S ms d], .agg #[.slice F nr cr, .slice Av c.V.length k1, .slice D c.N.length k2, .slice E c.M.length k3, .slice Pa P.length kp, .slice Ta T.length kt], .pointer (some ⟨w.heap.size, 0, none⟩), .pointer (some ⟨w.heap.size + 1, 0, none⟩), .slice none 0 0, .pointer (some ⟨W0.heap.size + 1, 0, none⟩), .int .i64 (e.1 : Int), .int .i64 (e.2 : Int), .pointer (some ⟨w.heap.size + 1, 1, none⟩), .pointer (some ⟨w.heap.size + 1, 1, none⟩), .slice Av c.V.length k1, .int .i64 (c.V.length : Int), .slice (some ⟨W0.heap.size, 0, none⟩) c.V.length c.V.length, .agg #[.slice A ks.length ca, .slice S ms d], .agg #[.slice F nr cr, .slice Av c.V.length k1, .slice D c.N.length k2, .slice E c.M.length k3, .slice Pa P.length kp, .slice Ta T.length kt], .func (.func 134) #[] #[.pointer (some ⟨W3.heap.size, 0, none⟩), .pointer (some ⟨W3.heap.size + 1, 0, none⟩)], .int .i64 (e.1 : Int), .int .i64 (e.2 : Int), undef, undef, undef, undef, undef, undef, undef, undef, undef, undef, undef], defers := [] }) ?assign ?body ?done
  case assign =>
    intro l' e U K' hK'
    gi_wp2
    exact hK'
  case body =>
    rintro l' pre e M1 U hN hpre
    obtain ⟨v, hM, b5, hc, hd, hs, q⟩ := hN
    have hin : e.1 < c.V.length := HEin.out e (by obtain ⟨post, hp⟩ := hpre; rw [← hp]; simp)
    have hlen : (toOf pre e.1).length < 1000000 := by
      obtain ⟨post, hp⟩ := hpre
      have h1 := toOf_len pre e.1
      have h2 := HE.out
      rw [← hp, List.length_append, List.length_cons] at h2
      omega
    obtain ⟨Ae, ce, hve, -, -⟩ := own_o (hc e.1 hin).2.2
    have c1 := (hc e.1 hin).1
    rw [hve] at c1
    have HVe := Lib.hid hve
    have HO : Hid (U.ownsRow W5.heap.size 3 1 (.slice Ae (toOf pre e.1).length ce) (toOf pre e.1).length (cellsI (toOf pre e.1))) := by have := (hc e.1 hin).2.2; rwa [hve] at this
    have HM := Lib.hid hM
    have HC := Lib.hid hc
    have HDd := Lib.hid hd
    have Hs := Lib.hid hs
    have Hq := Lib.hid q
    have Hb5 := Lib.hid b5
    have Hc1 := Lib.hid c1
    have Hf1 := Lib.hid (hc e.1 hin).2.1
    have HvB : Hid (∀ r, (Value.slice Ae (toOf pre e.1).length ce).ownBlock = some r → W5.heap.size ≤ r) := fun r e => (HO.out.lt r e).1
    have hje : (e.1 : Int) < (c.V.length : Int) := by omega
    clear hM hc hd hs q hpre hve
    have qd : Q U (U.drew.alloc (.cells #[.int .i64 (e.2 : Int)] 3)) := ((Q.refl U).drew).alloc _
    have hsd : (U.drew.alloc (.cells #[.int .i64 (e.2 : Int)] 3)).heap.size = U.heap.size + 1 := by
      rw [World.size_alloc]
      rfl
    obtain ⟨v', w3, hrun, own', gr', -, hat⟩ := run_append_own_at (P := Tryz.prog) (U.drew.alloc (.cells #[.int .i64 (e.2 : Int)] 3)) W5.heap.size 24 24 3 i0 (.int .i64 0) 1 8 Tryz.underlying24 Hi.out Hz0.out Hz1.out Hz2.out rfl (by decide) (.slice Ae (toOf pre e.1).length ce) (toOf pre e.1).length _ (HO.out.kept (grown_of_q qd) (Decidable.byCases (fun e => .inl e) (fun e => .inr e)))
      ⟨U.heap.size, 0, none⟩ 1 1 [.int .i64 (e.2 : Int)] rfl (cell_one_new U.drew _ _) (by simp [Value.oneCell']) (by unfold maxLen; omega) (by omega) (by have := Hs.out; rw [hsd]; omega)
    obtain ⟨Ao, co, rfl, -, -⟩ := own_o own'
    have Hrun := Lib.hid hrun
    have HL1 : Hid ((U.drew.alloc (.cells #[.int .i64 (e.2 : Int)] 3)).cell? ⟨W0.heap.size + 1, 0, none⟩ = some (.slice (some ⟨W0.heap.size, 0, none⟩) c.V.length c.V.length) ∧ (U.drew.alloc (.cells #[.int .i64 (e.2 : Int)] 3)).cell? ⟨W0.heap.size, e.1, none⟩ = some (.slice Ae (toOf pre e.1).length ce)) := ⟨(qd.cell (p := ⟨W0.heap.size + 1, 0, none⟩) (World.block_lt_of_cell? _ _ Hb5.out)).trans Hb5.out, (qd.cell (p := ⟨W0.heap.size, e.1, none⟩) (World.block_lt_of_cell? _ _ Hc1.out)).trans Hc1.out⟩
    clear hrun
    have hv8 : ∀ r, (Value.slice Ae (toOf pre e.1).length ce).ownBlock = some r → r ≠ W0.heap.size ∧ r ≠ W0.heap.size + 1 := fun r e => by have := HvB.out r e; have := H78.out; omega
    have y5 := cell_grown gr' ((qd.cell (p := ⟨W0.heap.size + 1, 0, none⟩) (World.block_lt_of_cell? _ _ Hb5.out)).trans Hb5.out) (fun r e => (hv8 r e).2)
    have y1 := cell_grown gr' ((qd.cell (p := ⟨W0.heap.size, e.1, none⟩) (World.block_lt_of_cell? _ _ Hc1.out)).trans Hc1.out) (fun r e => (hv8 r e).1)
    have z1 := (frozen_grown gr' ((qd.cell (p := ⟨W0.heap.size, e.1, none⟩) (World.block_lt_of_cell? _ _ Hc1.out)).trans Hc1.out) (fun r e => (hv8 r e).1)).trans ((qd.frozen (p := ⟨W0.heap.size, e.1, none⟩) (World.block_lt_of_cell? _ _ Hc1.out)).trans Hf1.out)
    have HOw := Lib.hid own'
    have HGr := Lib.hid gr'
    have HAt := Lib.hid hat
    have HQd := Lib.hid qd
    have HSd := Lib.hid hsd
    have hlt5 := World.block_lt_of_cell? _ _ Hb5.out
    have hlt1 := World.block_lt_of_cell? _ _ Hc1.out
    clear own' gr' hat qd hsd hv8
    refine wpIn_block ?_
    refine round_begin_t (by rintro ⟨_, _, h⟩; exact h) (by kernel_rfl) (S := fun X => X.cell? ⟨W0.heap.size + 1, 0, none⟩ = some (.slice (some ⟨W0.heap.size, 0, none⟩) c.V.length c.V.length) ∧ X.cell? ⟨W0.heap.size, e.1, none⟩ = some (.slice Ae (toOf pre e.1).length ce)) (z := 10) (by kernel_rfl) ?_ (fun hHeld => ?_)
    · exact ⟨Hb5.out, Hc1.out⟩
    refine take_t (i := 0) (d := some 18) (v := ?_) rfl (by kernel_rfl) (by kernel_rfl) (by kernel_rfl) (by kernel_rfl) (fun _ _ _ h => h) rfl (by rfl) ?_ (by assumption) ?_
    rotate_left
    · (intro w hSw; (try dsimp only at hSw); go_simp; (try with_reducible rfl))
    try simp only [Act.put, List.setIfInBounds_toArray, List.set_cons_zero, List.set_cons_succ]
    refine take_t (i := 1) (d := some 19) (v := ?_) rfl (by kernel_rfl) (by kernel_rfl) (by kernel_rfl) (by kernel_rfl) (fun _ _ _ h => h) rfl (by rfl) ?_ (by assumption) ?_
    rotate_left
    · (intro w hSw; (try dsimp only at hSw); go_simp; (try with_reducible rfl))
    try simp only [Act.put, List.setIfInBounds_toArray, List.set_cons_zero, List.set_cons_succ]
    refine take_t (i := 2) (d := some 20) (v := ?_) rfl (by kernel_rfl) (by kernel_rfl) (by kernel_rfl) (by kernel_rfl) (fun _ _ _ h => h) rfl (by rfl) ?_ (by assumption) ?_
    rotate_left
    · (intro w hSw; (try dsimp only at hSw); go_simp; (try with_reducible rfl))
    try simp only [Act.put, List.setIfInBounds_toArray, List.set_cons_zero, List.set_cons_succ]
    refine take_t (i := 3) (d := some 21) (v := ?_) rfl (by kernel_rfl) (by kernel_rfl) (by kernel_rfl) (by kernel_rfl) (fun _ _ _ h => h) rfl (by rfl) ?_ (by assumption) ?_
    rotate_left
    · (intro w hSw; (try dsimp only at hSw); go_simp; (try with_reducible rfl))
    try simp only [Act.put, List.setIfInBounds_toArray, List.set_cons_zero, List.set_cons_succ]
    refine take_t (i := 4) (d := some 22) (v := ?_) rfl (by kernel_rfl) (by kernel_rfl) (by kernel_rfl) (by kernel_rfl) (fun _ _ _ h => h) rfl (by rfl) ?_ (by assumption) ?_
    rotate_left
    · (intro w hSw; (try dsimp only at hSw); go_simp; (try with_reducible rfl))
    try simp only [Act.put, List.setIfInBounds_toArray, List.set_cons_zero, List.set_cons_succ]
    refine take_t (i := 5) (d := some 23) (v := ?_) rfl (by kernel_rfl) (by kernel_rfl) (by kernel_rfl) (by kernel_rfl) (fun _ _ _ h => h) rfl (by rfl) ?_ (by assumption) ?_
    rotate_left
    · (intro w hSw; (try dsimp only at hSw); go_simp; (try with_reducible rfl))
    try simp only [Act.put, List.setIfInBounds_toArray, List.set_cons_zero, List.set_cons_succ]
    refine take_t (i := 6) (d := some 24) (v := ?_) rfl (by kernel_rfl) (by kernel_rfl) (by kernel_rfl) (by kernel_rfl) (fun _ _ _ h => h) rfl (by rfl) ?_ (by assumption) ?_
    rotate_left
    · (intro w hSw; (try dsimp only at hSw); go_simp; (try with_reducible rfl))
    try simp only [Act.put, List.setIfInBounds_toArray, List.set_cons_zero, List.set_cons_succ]
    refine call_t (i := 7) rfl (by kernel_rfl) (by rfl) (fun K hK => ?_)
    go_simp
    have hHeld : ((fun X => X.cell? ⟨W0.heap.size + 1, 0, none⟩ = some (.slice (some ⟨W0.heap.size, 0, none⟩) c.V.length c.V.length) ∧ X.cell? ⟨W0.heap.size, e.1, none⟩ = some (.slice Ae (toOf pre e.1).length ce)) : World → Prop) _ := HL1.out
    refine hK.out _ _ (fun _ => hHeld) ?_
    clear hK K
    try simp only [Act.put, List.setIfInBounds_toArray, List.set_cons_zero, List.set_cons_succ]
    refine call_t (i := 8) rfl (by kernel_rfl) (by rfl) (fun K hK => ?_)
    refine op_append13 (.tmp 23) (.tmp 25) 24 rfl rfl rfl Hrun.out ?_
    have hHeld : ((fun X => X.cell? ⟨W0.heap.size + 1, 0, none⟩ = some (.slice (some ⟨W0.heap.size, 0, none⟩) c.V.length c.V.length) ∧ X.cell? ⟨W0.heap.size, e.1, none⟩ = some (.slice Ae (toOf pre e.1).length ce)) : World → Prop) _ := ⟨y5, y1⟩
    refine hK.out _ _ (fun _ => hHeld) ?_
    clear hK K
    try simp only [Act.put, List.setIfInBounds_toArray]
    refine take_t (i := 9) (d := some 27) (v := ?_) rfl (by kernel_rfl) (by kernel_rfl) (by kernel_rfl) (by kernel_rfl) (fun _ _ _ h => h) rfl (by rfl) ?_ (by assumption) ?_
    rotate_left
    · (intro w hSw; (try dsimp only at hSw); go_simp; (try with_reducible rfl))
    try simp only [Act.put]
    refine call_t (i := 10) rfl (by kernel_rfl) (by rfl) (fun K hK => ?_)
    go_simp
    refine hK.out _ _ (fun hz => by cases hz) ?_
    clear hK K
    try simp only [Act.put, List.setIfInBounds_toArray, List.set_cons_zero, List.set_cons_succ]
    refine done_t (by kernel_rfl) ?_ _
    exact NaI.add H78.out.1 H78.out.2.1 H78.out.2.2.1 H78.out.2.2.2 HM.out Hb5.out HC.out HDd.out Hs.out Hq.out hin HQd.out HSd.out HOw.out (by rw [HVe.out]; exact HGr.out) (by rw [HVe.out]; exact HAt.out)
  case done =>
    rintro Dd M1 U1 hN hD hDM hdef
    obtain ⟨v, hM, b5, hc, hd, hs, q⟩ := id hN
    simp only [Exit.inBlock, Exit.then]
    have HNN := Lib.hid hN
    have HDf := Lib.hid hdef
    have HD1 := Lib.hid hD
    have HDM := Lib.hid hDM
    clear hM hc hd hs q hdef hDM hN hD
    go_wp2_with fail
    show LeavesInM Fence.wide 5 Tryz.prog Tryz.f72 _ _ [{ target := Target.collected Dd, args := #[] }] .returning U1
    refine ⟨by simp, .inl ⟨_, _, rfl, run_takeDeferred HDf.out, ?_⟩⟩
    have hm := HMd.out.own _ _ _ _ (some Dd) HNN.out (grownBy_putObj' U1 Dd (.deferred none)) (fun r e => by injection e with e; subst e; exact ⟨HD1.out, HDM.out⟩)
    have hlt := HMd.out.lt _ _ _ hm W0.heap.size (by
      obtain ⟨v, hM, _⟩ := HNN.out
      exact (hM _).2 (.inl rfl))
    refine ⟨_, results_tmp rfl _ _ _, _, rfl, hm.keys hlt, ?_⟩
    obtain ⟨_, _, _, _, _, _, q⟩ := hm
    exact q
end Go.Proofs.YtnifmfdlocgefaaGreat.Cy

namespace Go.Proofs.YtnifmfdlocgefaaGreat.Cy
open Go Go.RowKit Go.Maps Go.WideMaps Go.Shelf Kit Uf Ig Tr
open Go.Proofs.YtnifmfdlocgefaaGreat.Tm (Wf lawI zeroI)
/-- block b has the map f -/
def WayM (w : World) (b n : Nat) (f : Int → Option Int) : Prop :=
  ∃ D : DataW Unit, w.ownsMap Tryz.prog 3 (plainElem Tryz.prog 3) b n D ∧ ∀ x : Int, Maps.has D (.int .i64 x) = (f x).isSome ∧ D.atKey (.int .i64 x) (.lit (.int .i64 0)) = .lit (.int .i64 ((f x).getD 0))
theorem way_made (w : World) : WayM (w.alloc (.map #[] 0)) w.heap.size 0 fun _ => none := ⟨_, World.ownsMap_made w _ _ _, fun _ => ⟨rfl, rfl⟩⟩
theorem WayM.kept {w w' : World} {b n : Nat} {f : Int → Option Int} (h : WayM w b n f) (hb : w'.heap[b]? = w.heap[b]?) : WayM w' b n f := by
  obtain ⟨D, ⟨es, clock, h1, h2⟩, h3⟩ := h
  exact ⟨D, ⟨es, clock, hb.trans h1, h2⟩, h3⟩
theorem WayM.lt {w : World} {b n : Nat} {f : Int → Option Int} (h : WayM w b n f) : b < w.heap.size := by obtain ⟨D, h1, _⟩ := h; exact h1.lt
theorem WayM.q {w w' : World} {b n : Nat} {f : Int → Option Int} (h : WayM w b n f) (q : Q w w') : WayM w' b n f := h.kept (q.block b h.lt)
theorem WayM.congr {w : World} {b n : Nat} {f g : Int → Option Int} (h : WayM w b n f) (e : ∀ x, g x = f x) : WayM w b n g := by
  obtain ⟨D, h1, h2⟩ := h
  exact ⟨D, h1, fun x => by rw [e]; exact h2 x⟩
theorem way_look2 {w : World} {b n : Nat} {f : Int → Option Int} (h : WayM w b n f) {x : Int} (hx : Wf x) :
    (Instr.lookup 116 (.map (some b)) (.int .i64 x) true).run Tryz.prog w = .ok (.tuple #[.int .i64 ((f x).getD 0), .bool (f x).isSome]) w := by
  obtain ⟨D, h1, h2⟩ := h
  obtain ⟨v, ps, hrun, hv⟩ := h1.look_ok lawI Tryz.underlying116 (zeroI w) (plainElem_int Tryz.underlying3 (by decide)) (keyOf_int_mk Tryz.underlying3 hx.lit)
  obtain ⟨c, rfl, hc, _⟩ := plainElem_int_inv Tryz.underlying3 hv
  rw [(h2 x).2] at hc
  simp only [Prod.mk.injEq, DataW.lit.injEq, Lit.int.injEq, true_and] at hc
  rw [hrun, (h2 x).1, hc.1]
theorem way_look {w : World} {b n : Nat} {f : Int → Option Int} (h : WayM w b n f) {x : Int} (hx : Wf x) :
    (Instr.lookup 116 (.map (some b)) (.int .i64 x) false).run Tryz.prog w = .ok (.int .i64 ((f x).getD 0)) w := by
  obtain ⟨D, h1, h2⟩ := h
  obtain ⟨v, ps, hrun, hv⟩ := h1.lookup lawI Tryz.underlying116 (zeroI w) (plainElem_int Tryz.underlying3 (by decide)) (keyOf_int_mk Tryz.underlying3 hx.lit)
  obtain ⟨c, rfl, hc, _⟩ := plainElem_int_inv Tryz.underlying3 hv
  rw [(h2 x).2] at hc
  simp only [Prod.mk.injEq, DataW.lit.injEq, Lit.int.injEq, true_and] at hc
  rw [hrun, hc.1]
def setW (f : Int → Option Int) (x v : Int) : Int → Option Int := fun y => if y = x then some v else f y
theorem way_put {w : World} {b n : Nat} {f : Int → Option Int} (h : WayM w b n f) {x v : Int} (hx : Wf x) (hv : Wf v) (hn : n ≤ 2000000) :
    ∃ w', (Instr.mapUpdate 116 (.map (some b)) (.int .i64 x) (.int .i64 v)).run Tryz.prog w = .ok () w' ∧ WayM w' b (n + 1) (setW f x v) ∧ w.grownBy w' (some b) := by
  obtain ⟨D, h1, h2⟩ := h
  obtain ⟨w', hrun, h3, hg⟩ := h1.update (val := .int .i64 v) lawI Tryz.underlying116 (by unfold maxLen; omega) (keyOf_int_mk Tryz.underlying3 hx.lit) (plainElem_int Tryz.underlying3 hv.lit)
  refine ⟨w', hrun, ⟨_, h3, fun y => ?_⟩, hg⟩
  unfold setW
  by_cases e : y = x
  · subst e
    rw [Maps.has_put_same h1.isMap (by trivial), Maps.atKey_put_same h1.isMap (by trivial), if_pos rfl]
    exact ⟨rfl, rfl⟩
  · rw [Maps.has_put_other (fun h => e (by injection h)), Maps.atKey_put_other (fun h => e (by injection h)), if_neg e]
    exact h2 y
theorem has13_any (b n : Nat) (f : Int → Option Int) (x : Int) (w : World) (h : WayM w b n f) (hx : Wf x) :
    Calls Tryz.prog 141 #[.map (some b), .int .i64 x] w fun e w' => e = .returned (.bool (f x).isSome) ∧ w' = w := by
  have hl := way_look2 h hx
  go_enter Tryz.func141, Tryz.ntmps141
  go_wp2_with fail
  go_ret
  exact ⟨rfl, rfl⟩
end Go.Proofs.YtnifmfdlocgefaaGreat.Cy

namespace Go.Proofs.YtnifmfdlocgefaaGreat.Cy
open Uf Ig Tr

/-- round k, in the midst: of all ahead of v who is next to them is reached, and of v's the first ones, l -/
def dm (N : Nat) (e : Nat → Nat → Bool) (s k v : Nat) (l : List Int) (u : Nat) : Int :=
  if dl N e s k u < 0 ∧ ((List.range v).any (fun x => decide (dl N e s k x = (k : Int)) && e x u) = true ∨ (u : Int) ∈ l) then ((k + 1 : Nat) : Int) else dl N e s k u
def rowF (N : Nat) (f : Nat → Int) : List Int := (List.range N).map f
theorem rowF_len (N : Nat) (f : Nat → Int) : (rowF N f).length = N := by simp [rowF]
theorem rowF_at {N : Nat} {f : Nat → Int} {i : Nat} (h : i < N) : (rowF N f)[i]'(by rw [rowF_len]; exact h) = f i := by simp [rowF]
theorem rowF_set {N : Nat} {f g : Nat → Int} {i : Nat} {x : Int} (_h : i < N) (hi : g i = x) (ho : ∀ u, u ≠ i → g u = f u) : (rowF N f).set i x = rowF N g := by
  apply List.ext_getElem
  · rw [List.length_set, rowF_len, rowF_len]
  · intro j h1 h2
    rw [List.getElem_set]
    have hj : j < N := by rw [rowF_len] at h2; exact h2
    by_cases e : i = j
    · subst e; rw [if_pos rfl, rowF_at hj, hi]
    · rw [if_neg e, rowF_at hj, rowF_at hj, ho j (Ne.symm e)]
theorem rowF_congr {N : Nat} {f g : Nat → Int} (h : ∀ u, u < N → f u = g u) : rowF N f = rowF N g := by
  unfold rowF
  exact List.map_congr_left fun u hu => h u (List.mem_range.1 hu)
section
variable {N : Nat} {e : Nat → Nat → Bool} {s : Nat}
theorem dm_start (k u : Nat) : dm N e s k 0 [] u = dl N e s k u := by
  unfold dm
  rw [if_neg]
  rintro ⟨_, h⟩
  simp at h
theorem dm_end (k u : Nat) : dm N e s k N [] u = dl N e s (k + 1) u := by
  unfold dm
  rw [dl_succ]
  simp
/-- v itself is as far as it was, if it is reached in this round -/
theorem dm_at (k v : Nat) (l : List Int) (u : Nat) : dm N e s k v l u = (k : Int) ↔ dl N e s k u = (k : Int) := by
  unfold dm
  by_cases h : dl N e s k u < 0 ∧ ((List.range v).any (fun x => decide (dl N e s k x = (k : Int)) && e x u) = true ∨ (u : Int) ∈ l)
  · rw [if_pos h]
    constructor
    · intro h1; omega
    · intro h1; omega
  · rw [if_neg h]
theorem dm_skip {k v : Nat} (h : dl N e s k v ≠ (k : Int)) (u : Nat) : dm N e s k v [] u = dm N e s k (v + 1) [] u := by
  unfold dm
  rw [List.range_succ, List.any_append]
  simp [h]
theorem dm_whole {k v : Nat} (h : dl N e s k v = (k : Int)) {u : Nat} (hu : u < N) : dm N e s k v (those N (e v)) u = dm N e s k (v + 1) [] u := by
  unfold dm
  have h1 : (List.range (v + 1)).any (fun x => decide (dl N e s k x = (k : Int)) && e x u) = ((List.range v).any (fun x => decide (dl N e s k x = (k : Int)) && e x u) || e v u) := by
    rw [List.range_succ, List.any_append]
    simp [h]
  rw [h1]
  have h2 : ((u : Int) ∈ those N (e v)) ↔ e v u = true := by
    rw [mem_those]
    constructor
    · rintro ⟨n, _, hn, he⟩
      rw [show u = n by omega]; exact hn
    · intro he; exact ⟨u, hu, he, rfl⟩
  simp only [h2, Bool.or_eq_true, List.not_mem_nil, or_false]
theorem dm_step {k v : Nat} {l : List Int} {x : Nat} (h : dm N e s k v l x < 0) : dm N e s k v (l ++ [(x : Int)]) x = ((k + 1 : Nat) : Int) ∧ ∀ u, u ≠ x → dm N e s k v (l ++ [(x : Int)]) u = dm N e s k v l u := by
  unfold dm at h ⊢
  constructor
  · by_cases hc : dl N e s k x < 0 ∧ ((List.range v).any (fun y => decide (dl N e s k y = (k : Int)) && e y x) = true ∨ (x : Int) ∈ l)
    · rw [if_pos hc] at h; omega
    · rw [if_neg hc] at h
      rw [if_pos ⟨h, .inr (by simp)⟩]
  · intro u hu
    have : ((u : Int) ∈ l ++ [(x : Int)]) ↔ (u : Int) ∈ l := by
      rw [List.mem_append, List.mem_singleton]
      constructor
      · rintro (h | h)
        · exact h
        · omega
      · exact .inl
    simp only [this]
theorem dm_still {k v : Nat} {l : List Int} {x : Nat} (h : ¬ dm N e s k v l x < 0) (u : Nat) : dm N e s k v (l ++ [(x : Int)]) u = dm N e s k v l u := by
  by_cases hu : u = x
  · subst hu
    unfold dm at h ⊢
    by_cases hc : dl N e s k u < 0 ∧ ((List.range v).any (fun y => decide (dl N e s k y = (k : Int)) && e y u) = true ∨ (u : Int) ∈ l)
    · rw [if_pos hc, if_pos ⟨hc.1, hc.2.elim .inl (fun h => .inr (by simp [h]))⟩]
    · rw [if_neg hc] at h
      rw [if_neg hc, if_neg (fun hh => h hh.1)]
  · unfold dm
    have : ((u : Int) ∈ l ++ [(x : Int)]) ↔ (u : Int) ∈ l := by
      rw [List.mem_append, List.mem_singleton]
      constructor
      · rintro (h | h)
        · exact h
        · omega
      · exact .inl
    simp only [this]
end
end Go.Proofs.YtnifmfdlocgefaaGreat.Cy

namespace Go.Proofs.YtnifmfdlocgefaaGreat.Cy
open Uf Ig Tr

/-- x is the least from v on that has p, or -1 -/
def Low (N : Nat) (p : Nat → Bool) (v : Nat) (x : Int) : Prop :=
  (x = -1 ∧ ∀ u, v ≤ u → u < N → p u = false) ∨ ∃ y : Nat, x = (y : Int) ∧ v ≤ y ∧ y < N ∧ p y = true ∧ ∀ u, v ≤ u → u < y → p u = false
theorem Low.start (N : Nat) (p : Nat → Bool) : Low N p N (-1) := .inl ⟨rfl, fun u h1 h2 => by omega⟩
theorem Low.yes {N : Nat} {p : Nat → Bool} {v : Nat} (hv : v < N) (h : p v = true) : Low N p v (v : Int) := .inr ⟨v, rfl, Nat.le_refl _, hv, h, fun u h1 h2 => by omega⟩
theorem Low.no {N : Nat} {p : Nat → Bool} {v : Nat} {x : Int} (L : Low N p (v + 1) x) (h : p v = false) : Low N p v x := by
  rcases L with ⟨rfl, hn⟩ | ⟨y, rfl, h1, h2, h3, h4⟩
  · refine .inl ⟨rfl, fun u hu hN => ?_⟩
    by_cases e : u = v
    · subst e; exact h
    · exact hn u (by omega) hN
  · refine .inr ⟨y, rfl, by omega, h2, h3, fun u hu hy => ?_⟩
    by_cases e : u = v
    · subst e; exact h
    · exact h4 u (by omega) hy
theorem Low.prev {N : Nat} {e : Nat → Nat → Bool} {D : Nat → Int} {k v : Nat} {x : Int} (L : Low N (fun u => decide (D u = (k : Int)) && e u v) 0 x) (h : ∃ u, u < N ∧ D u = (k : Int) ∧ e u v = true) : x = (prev N e D k v : Int) := by
  obtain ⟨u, hu, h1, h2⟩ := h
  rcases L with ⟨_, hn⟩ | ⟨y, rfl, _, hy, h3, h4⟩
  · have := hn u (Nat.zero_le _) hu
    simp [h1, h2] at this
  · have : (List.range N).find? (fun u => decide (D u = (k : Int)) && e u v) = some y := by
      rw [List.find?_range_eq_some]
      exact ⟨h3, List.mem_range.2 hy, fun j hj => by have h5 : (decide (D j = (k : Int)) && e j v) = false := h4 j (Nat.zero_le _) hj; rw [h5]; rfl⟩
    unfold Cy.prev
    rw [this]; rfl
theorem back_prev {N : Nat} {e : Nat → Nat → Bool} {D : Nat → Int} (k v : Nat) {i : Nat} (hi : i < k) : ∃ u, (back N e D k v)[i + 1]? = some u ∧ (back N e D k v)[i]? = some (prev N e D i u) := by
  induction k generalizing v with
  | zero => omega
  | succ k ih =>
    by_cases e1 : i = k
    · subst e1
      refine ⟨v, back_last _ _ _, ?_⟩
      rw [back, List.getElem?_append_left (by rw [back_len]; omega), back_last]
    · obtain ⟨u, h1, h2⟩ := ih (prev N e D k v) (by omega)
      refine ⟨u, ?_, ?_⟩
      · rw [back, List.getElem?_append_left (by rw [back_len]; omega)]; exact h1
      · rw [back, List.getElem?_append_left (by rw [back_len]; omega)]; exact h2
/-- a row whose cells from k on are those of a path -/
def From (l : List Int) (p : List Nat) (k : Nat) : Prop := l.length = p.length ∧ ∀ i, k ≤ i → l[i]? = p[i]?.map fun (n : Nat) => (n : Int)
theorem From.set {l : List Int} {p : List Nat} {k x : Nat} (h : From l p (k + 1)) (hk : k < l.length) (hx : p[k]? = some x) : From (l.set k (x : Int)) p k := by
  refine ⟨by rw [List.length_set]; exact h.1, fun i hi => ?_⟩
  by_cases e : k = i
  · subst e; rw [List.getElem?_set_self hk, hx]; rfl
  · rw [List.getElem?_set_ne e]; exact h.2 i (by omega)
theorem From.all {l : List Int} {p : List Nat} (h : From l p 0) : l = p.map fun (n : Nat) => (n : Int) :=
  List.ext_getElem? fun i => by rw [h.2 i (Nat.zero_le _), List.getElem?_map]
theorem From.start (p : List Nat) : From (List.replicate p.length 0) p p.length :=
  ⟨List.length_replicate, fun i hi => by rw [List.getElem?_eq_none (by simpa using hi), List.getElem?_eq_none hi]; rfl⟩
end Go.Proofs.YtnifmfdlocgefaaGreat.Cy

namespace Go.Proofs.YtnifmfdlocgefaaGreat.Cy
open Uf Ig Tr

/-- pairs gone through: who isn't there yet is put -/
structure FoldOk (L : List (Int × Int)) (f0 f : Int → Option Int) (out : List Int) : Prop where
  val : ∀ x, f x = match f0 x with | some v => some v | none => (L.find? (fun p => p.2 == x)).map Prod.fst
  nd : out.Nodup
  mem : ∀ x, x ∈ out ↔ f0 x = none ∧ ∃ p ∈ L, p.2 = x
theorem FoldOk.start (f0 : Int → Option Int) : FoldOk [] f0 f0 [] := ⟨fun x => by cases f0 x <;> rfl, List.nodup_nil, fun x => by simp⟩
theorem FoldOk.isSome {L : List (Int × Int)} {f0 f : Int → Option Int} {out : List Int} (h : FoldOk L f0 f out) (x : Int) : (f x).isSome = true ↔ (f0 x).isSome = true ∨ ∃ p ∈ L, p.2 = x := by
  rw [h.val]
  cases f0 x with
  | some v => simp
  | none =>
    simp only [Option.isSome_map, Option.isSome_none, Bool.false_eq_true, false_or]
    rw [List.find?_isSome]
    simp
theorem FoldOk.was {L : List (Int × Int)} {f0 f : Int → Option Int} {out : List Int} (h : FoldOk L f0 f out) (a b : Int) (hb : (f b).isSome = true) : FoldOk (L ++ [(a, b)]) f0 f out := by
  have hb' := (h.isSome b).1 hb
  refine ⟨fun x => ?_, h.nd, fun x => ?_⟩
  · rw [h.val x]
    cases e : f0 x with
    | some v => rfl
    | none =>
      simp only [List.find?_append]
      cases e2 : L.find? (fun p => p.2 == x) with
      | some p => rfl
      | none =>
        have hne : b ≠ x := fun hbx => by
          subst hbx
          rcases hb' with h1 | ⟨p, h1, h2⟩
          · rw [e] at h1; cases h1
          · have := List.find?_eq_none.1 e2 p h1
            simp [h2] at this
        simp [hne]
  · rw [h.mem x]
    constructor
    · rintro ⟨h1, p, h2, h3⟩
      exact ⟨h1, p, List.mem_append_left _ h2, h3⟩
    · rintro ⟨h1, p, h2, h3⟩
      refine ⟨h1, ?_⟩
      rcases List.mem_append.1 h2 with h2 | h2
      · exact ⟨p, h2, h3⟩
      · obtain rfl := List.mem_singleton.1 h2
        have h3 : b = x := h3
        subst h3
        rcases hb' with h4 | h4
        · rw [h1] at h4; cases h4
        · exact h4
theorem FoldOk.new {L : List (Int × Int)} {f0 f : Int → Option Int} {out : List Int} (h : FoldOk L f0 f out) (a b : Int) (hb : (f b).isSome = false) : FoldOk (L ++ [(a, b)]) f0 (setW f b a) (out ++ [b]) := by
  have hb' : ¬ ((f0 b).isSome = true ∨ ∃ p ∈ L, p.2 = b) := fun h1 => by have := (h.isSome b).2 h1; rw [hb] at this; cases this
  have f0b : f0 b = none := by
    cases e : f0 b with
    | none => rfl
    | some v => exact absurd (.inl (by rw [e]; rfl)) hb'
  refine ⟨fun x => ?_, ?_, fun x => ?_⟩
  · unfold setW
    by_cases e : x = b
    · subst e
      rw [if_pos rfl, f0b]
      have : L.find? (fun p => p.2 == x) = none := List.find?_eq_none.2 fun p hp => by simp; exact fun e => hb' (.inr ⟨p, hp, e⟩)
      simp [List.find?_append, this]
    · rw [if_neg e, h.val x]
      cases f0 x with
      | some v => rfl
      | none =>
        have hne : b ≠ x := fun e2 => e e2.symm
        simp only [List.find?_append]
        cases L.find? (fun p => p.2 == x) <;> simp [hne]
  · refine List.nodup_append.2 ⟨h.nd, by simp, fun x hx y hy => ?_⟩
    obtain rfl := List.mem_singleton.1 hy
    rintro rfl
    exact hb' (.inr ((h.mem x).1 hx).2)
  · rw [List.mem_append, h.mem x, List.mem_singleton]
    constructor
    · rintro (⟨h1, p, h2, h3⟩ | rfl)
      · exact ⟨h1, p, List.mem_append_left _ h2, h3⟩
      · exact ⟨f0b, (a, x), by simp, rfl⟩
    · rintro ⟨h1, p, h2, h3⟩
      rcases List.mem_append.1 h2 with h2 | h2
      · exact .inl ⟨h1, p, h2, h3⟩
      · obtain rfl := List.mem_singleton.1 h2
        exact .inr h3.symm
/-- what is gone through in a round -/
def pairsI (nx : Nat → List Int) (us : List Nat) : List (Int × Int) := us.flatMap fun u => (nx u).map fun w => ((u : Int), w)
theorem pairsI_snoc (nx : Nat → List Int) (us : List Nat) (u : Nat) : pairsI nx (us ++ [u]) = pairsI nx us ++ (nx u).map fun w => ((u : Int), w) := by
  unfold pairsI; rw [List.flatMap_append]; simp
theorem pairsI_find (nx : Nat → List Int) (x : Int) : ∀ us : List Nat, ((pairsI nx us).find? (fun p => p.2 == x)).map Prod.fst = (us.find? fun u => decide (x ∈ nx u)).map fun (n : Nat) => (n : Int)
  | [] => rfl
  | u :: us => by
    have ih := pairsI_find nx x us
    unfold pairsI at ih ⊢
    rw [List.flatMap_cons, List.find?_append, List.find?_cons]
    by_cases h : x ∈ nx u
    · rw [decide_eq_true h]
      have : ((nx u).map fun w => ((u : Int), w)).find? (fun p => p.2 == x) = some ((u : Int), x) := by
        rw [List.find?_map]
        have hf : (nx u).find? ((fun p : Int × Int => p.2 == x) ∘ fun w => ((u : Int), w)) = some x := by
          have : ((fun p : Int × Int => p.2 == x) ∘ fun w => ((u : Int), w)) = fun w => w == x := rfl
          rw [this]
          cases e : (nx u).find? (fun w => w == x) with
          | none => exact absurd (by simp) (List.find?_eq_none.1 e x h)
          | some y => have := List.find?_some e; simp at this; rw [this]
        rw [hf]; rfl
      rw [this]; rfl
    · rw [decide_eq_false h]
      have : ((nx u).map fun w => ((u : Int), w)).find? (fun p => p.2 == x) = none := List.find?_eq_none.2 fun p hp => by
        obtain ⟨w, hw, rfl⟩ := List.mem_map.1 hp
        simp
        rintro rfl
        exact h hw
      rw [this]
      exact ih
section
variable {N : Nat} {e : Nat → Nat → Bool} {s : Nat}
/-- who reached whom, j rounds having been gone -/
def wayF (N : Nat) (e : Nat → Nat → Bool) (s j : Nat) (x : Int) : Option Int :=
  if 0 ≤ x ∧ x < (N : Int) ∧ 0 ≤ dl N e s j x.toNat then some (if dl N e s j x.toNat = 0 then (s : Int) else (prev N e (dl N e s j) ((dl N e s j x.toNat).toNat - 1) x.toNat : Int)) else none
theorem wayF_isSome (j : Nat) (v : Nat) (hv : v < N) : (wayF N e s j (v : Int)).isSome = decide (0 ≤ dl N e s j v) := by
  unfold wayF
  by_cases h : 0 ≤ dl N e s j v
  · rw [if_pos ⟨by omega, by omega, by simpa using h⟩, decide_eq_true h]; rfl
  · rw [if_neg (fun hc => h (by simpa using hc.2.2)), decide_eq_false h]; rfl
def reachL (N : Nat) (e : Nat → Nat → Bool) (s j : Nat) : List Nat := (List.range N).filter fun v => decide (dl N e s j v = (j : Int))
theorem reach_those (j : Nat) : those N (fun v => decide (dl N e s j v = (j : Int))) = (reachL N e s j).map fun (n : Nat) => (n : Int) := rfl
theorem wayF_zero (hs : s < N) (x : Int) : wayF N e s 0 x = if x = (s : Int) then some (s : Int) else none := by
  unfold wayF
  by_cases h : x = (s : Int)
  · subst h
    rw [if_pos rfl, if_pos ⟨by omega, by omega, by simp [dl]⟩]
    simp [dl]
  · rw [if_neg h]
    refine if_neg fun hc => ?_
    obtain ⟨n, hn⟩ := Int.eq_ofNat_of_zero_le hc.1
    have hn : x = (n : Int) := hn
    subst hn
    have h3 := hc.2.2
    simp only [Int.toNat_natCast, dl] at h3
    by_cases e2 : n = s
    · exact h (by rw [e2])
    · rw [if_neg e2] at h3; omega
theorem reach_zero (hs : s < N) : reachL N e s 0 = [s] := by
  have h1 : (reachL N e s 0).map (fun (n : Nat) => (n : Int)) = [s].map fun (n : Nat) => (n : Int) := by
    rw [← reach_those]
    symm
    refine those_is (by simp) fun x => ?_
    simp only [List.map_cons, List.map_nil, List.mem_singleton]
    constructor
    · rintro rfl; exact ⟨s, hs, by simp [dl], rfl⟩
    · rintro ⟨n, _, h, rfl⟩
      have h := of_decide_eq_true h
      rw [dl_zero (k := 0) h]
  exact (List.map_inj_right (fun a b h => by have h : (a : Int) = (b : Int) := h; omega)).1 h1
theorem level {nx : Nat → List Int} {j : Nat} {f : Int → Option Int} {out : List Int} (hnx : ∀ u, u < N → dl N e s j u = (j : Int) → ∀ x, x ∈ nx u ↔ ∃ v : Nat, v < N ∧ e u v = true ∧ x = (v : Int))
    (h : FoldOk (pairsI nx (reachL N e s j)) (wayF N e s j) f out) : (∀ x, f x = wayF N e s (j + 1) x) ∧ sortI out = those N (fun v => decide (dl N e s (j + 1) v = ((j + 1 : Nat) : Int))) := by
  have hre : ∀ u, u ∈ reachL N e s j ↔ u < N ∧ dl N e s j u = (j : Int) := fun u => by simp [reachL]
  have hL : ∀ x, (∃ p ∈ pairsI nx (reachL N e s j), p.2 = x) ↔ ∃ u v : Nat, u < N ∧ dl N e s j u = (j : Int) ∧ v < N ∧ e u v = true ∧ x = (v : Int) := fun x => by
    unfold pairsI
    constructor
    · rintro ⟨p, hp, rfl⟩
      obtain ⟨u, hu, hp⟩ := List.mem_flatMap.1 hp
      obtain ⟨w, hw, rfl⟩ := List.mem_map.1 hp
      obtain ⟨h1, h2⟩ := (hre u).1 hu
      obtain ⟨v, h3, h4, h5⟩ := (hnx u h1 h2 w).1 hw
      exact ⟨u, v, h1, h2, h3, h4, h5⟩
    · rintro ⟨u, v, h1, h2, h3, h4, rfl⟩
      exact ⟨((u : Int), (v : Int)), List.mem_flatMap.2 ⟨u, (hre u).2 ⟨h1, h2⟩, List.mem_map.2 ⟨_, (hnx u h1 h2 _).2 ⟨v, h3, h4, rfl⟩, rfl⟩⟩, rfl⟩
  have hsucc : ∀ v : Nat, v < N → (dl N e s (j + 1) v = ((j + 1 : Nat) : Int) ↔ dl N e s j v < 0 ∧ ∃ u, u < N ∧ dl N e s j u = (j : Int) ∧ e u v = true) := fun v _ => by
    rw [dl_succ]
    by_cases hc : dl N e s j v < 0 ∧ (List.range N).any (fun u => decide (dl N e s j u = (j : Int)) && e u v) = true
    · rw [if_pos hc]
      exact ⟨fun _ => ⟨hc.1, (any_iff j v).1 hc.2⟩, fun _ => rfl⟩
    · rw [if_neg hc]
      have hb := (dl_bound (N := N) (e := e) (s := s) j v).2
      constructor
      · intro h; omega
      · rintro ⟨h1, h2⟩; exact absurd ⟨h1, (any_iff j v).2 h2⟩ hc
  refine ⟨fun x => ?_, ?_⟩
  · rw [h.val x]
    by_cases hx : 0 ≤ x ∧ x < (N : Int)
    · obtain ⟨v, hv⟩ := Int.eq_ofNat_of_zero_le hx.1
      have hv : x = (v : Int) := hv
      subst hv
      have hvN : v < N := by omega
      by_cases hd : 0 ≤ dl N e s j v
      · have e1 : wayF N e s j (v : Int) = some (if dl N e s j v = 0 then (s : Int) else (prev N e (dl N e s j) ((dl N e s j v).toNat - 1) v : Int)) := by unfold wayF; rw [if_pos ⟨by omega, by omega, by simpa using hd⟩]; simp
        have hst := dl_stay hd 1
        have e2 : wayF N e s (j + 1) (v : Int) = some (if dl N e s j v = 0 then (s : Int) else (prev N e (dl N e s (j + 1)) ((dl N e s j v).toNat - 1) v : Int)) := by unfold wayF; rw [if_pos ⟨by omega, by omega, by simp only [Int.toNat_natCast]; rw [hst]; exact hd⟩]; simp only [Int.toNat_natCast]; rw [hst]
        rw [e1, e2]
        have hb := (dl_bound (N := N) (e := e) (s := s) j v).2
        have hp : prev N e (dl N e s j) ((dl N e s j v).toNat - 1) v = prev N e (dl N e s (j + 1)) ((dl N e s j v).toNat - 1) v := prev_congr fun u _ => dl_same (by omega) (by omega)
        rw [hp]
      · have e1 : wayF N e s j (v : Int) = none := by unfold wayF; exact if_neg fun hc => hd (by simpa using hc.2.2)
        rw [e1]
        show ((pairsI nx (reachL N e s j)).find? (fun p => p.2 == (v : Int))).map Prod.fst = _
        rw [pairsI_find]
        have hcg : ∀ l : List Nat, (∀ u ∈ l, u < N) → (l.filter fun u => decide (dl N e s j u = (j : Int))).find? (fun u => decide ((v : Int) ∈ nx u)) = l.find? fun u => decide (dl N e s j u = (j : Int)) && e u v := by
          intro l
          induction l with
          | nil => intro _; rfl
          | cons y l ih =>
            intro hl
            have hy := hl y (List.mem_cons_self ..)
            have ih := ih fun u hu => hl u (List.mem_cons_of_mem _ hu)
            rw [List.filter_cons, List.find?_cons]
            by_cases hc : dl N e s j y = (j : Int)
            · rw [decide_eq_true hc, if_pos rfl, List.find?_cons, ih]
              have : decide ((v : Int) ∈ nx y) = e y v := by
                rw [Bool.eq_iff_iff, decide_eq_true_eq, hnx y hy hc]
                constructor
                · rintro ⟨v', _, h2, h3⟩
                  have : v = v' := by omega
                  rw [this]; exact h2
                · exact fun h2 => ⟨v, hvN, h2, rfl⟩
              rw [this, Bool.true_and]
            · rw [decide_eq_false hc, if_neg (by simp), ih, Bool.false_and]
        have e3 := hcg (List.range N) fun u hu => List.mem_range.1 hu
        unfold reachL
        rw [e3]
        cases hf : (List.range N).find? (fun u => decide (dl N e s j u = (j : Int)) && e u v) with
        | some u =>
          have h1 := List.find?_some hf
          have h2 := List.mem_range.1 (List.mem_of_find?_eq_some hf)
          simp only [Bool.and_eq_true, decide_eq_true_eq] at h1
          have hd1 := (hsucc v hvN).2 ⟨by omega, u, h2, h1.1, h1.2⟩
          unfold wayF
          rw [if_pos ⟨by omega, by omega, by simp only [Int.toNat_natCast]; omega⟩]
          simp only [Int.toNat_natCast]
          rw [hd1, if_neg (by omega)]
          have hp : prev N e (dl N e s (j + 1)) j v = u := by
            have : prev N e (dl N e s j) j v = prev N e (dl N e s (j + 1)) j v := prev_congr fun u _ => dl_same (Nat.le_refl _) (by omega)
            rw [← this]
            unfold prev
            rw [hf]; rfl
          simp only [Int.toNat_natCast, Nat.add_sub_cancel]
          rw [hp]; rfl
        | none =>
          have hno : ¬ ∃ u, u < N ∧ dl N e s j u = (j : Int) ∧ e u v = true := by
            rintro ⟨u, h1, h2, h3⟩
            have := List.find?_eq_none.1 hf u (List.mem_range.2 h1)
            simp [h2, h3] at this
          unfold wayF
          rw [if_neg]
          · rfl
          · rintro ⟨_, _, h3⟩
            simp only [Int.toNat_natCast] at h3
            rw [dl_succ, if_neg (fun hc => hno ((any_iff j v).1 hc.2))] at h3
            exact hd h3
    · have e1 : ∀ i, wayF N e s i x = none := fun i => by unfold wayF; exact if_neg fun hc => hx ⟨hc.1, hc.2.1⟩
      rw [e1, e1]
      show ((pairsI nx (reachL N e s j)).find? (fun p => p.2 == x)).map Prod.fst = none
      have : (pairsI nx (reachL N e s j)).find? (fun p => p.2 == x) = none := List.find?_eq_none.2 fun p hp => by
        simp
        intro h2
        obtain ⟨u, v, _, _, h3, _, h4⟩ := (hL x).1 ⟨p, hp, h2⟩
        exact hx ⟨by omega, by omega⟩
      rw [this]; rfl
  · refine sort_those h.nd fun x => ?_
    rw [h.mem x, hL x]
    constructor
    · rintro ⟨h0, u, v, h1, h2, h3, h4, rfl⟩
      refine ⟨v, h3, decide_eq_true ((hsucc v h3).2 ⟨?_, u, h1, h2, h4⟩), rfl⟩
      have := wayF_isSome (N := N) (e := e) (s := s) j v h3
      rw [h0] at this
      have := of_decide_eq_false this.symm
      omega
    · rintro ⟨v, hv, h1, rfl⟩
      obtain ⟨h2, u, h3, h4, h5⟩ := (hsucc v hv).1 (of_decide_eq_true h1)
      refine ⟨?_, u, v, h3, h4, hv, h5, rfl⟩
      unfold wayF
      exact if_neg fun hc => by have := hc.2.2; simp only [Int.toNat_natCast] at this; omega
end
end Go.Proofs.YtnifmfdlocgefaaGreat.Cy
