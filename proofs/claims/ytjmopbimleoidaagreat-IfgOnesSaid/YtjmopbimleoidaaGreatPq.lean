/-
  What the proofs lean on, part 17 of 17.
-/
import Derived.Test.YtjmopbimleoidaaGreatPp
namespace Go.Proofs.YtjmopbimleoidaaGreat.Ig
open Go.RowKit Kit Tr Uf
open Go.Proofs.YtjmopbimleoidaaGreat.Hs (Keys Ints BoxT layI KeysP IntsP)
open Go.Proofs.YtjmopbimleoidaaGreat.Tm (Tm termAt of_any Box4)
set_option maxRecDepth 100000 in
set_option maxHeartbeats 8000000 in
theorem right_ex (R : List Int) (c : Cells) (P T : List (List Int)) (A S F Av D E Pa Ta : Option Addr) (cr k1 k2 k3 kp kt : Nat) (w : World) (hR0 : R = []) (hc0 : c = c2) (hP0 : P = [[], [2]]) (hT0 : T = [[], []]) (hk : Keys w w.heap.size A twoK)
    (hG : GRP w (fun _ => True) R c P T F Av D E Pa Ta cr k1 k2 k3 kp kt) :
    Calls Tryz.prog 31 #[.agg #[.slice A 4 4, .slice S 8 8], .agg #[.slice F R.length cr, .slice Av c.V.length k1, .slice D c.N.length k2, .slice E 0 k3, .slice Pa P.length kp, .slice Ta T.length kt]] w fun e w' => e = .returned (.bool true) ∧ Q w w' := by
  have q0 := ((Q.refl w).alloc (Obj.cells #[.slice A 4 4, .slice S 8 8] 26)).alloc (Obj.cells #[.slice F R.length cr, .slice Av c.V.length k1, .slice D c.N.length k2, .slice E 0 k3, .slice Pa P.length kp, .slice Ta T.length kt] 31)
  have HBa := Lib.hid ((BoxT.new w (.slice A 4 4) (.slice S 8 8) 26).q ((Q.refl _).alloc (Obj.cells #[.slice F R.length cr, .slice Av c.V.length k1, .slice D c.N.length k2, .slice E 0 k3, .slice Pa P.length kp, .slice Ta T.length kt] 31)))
  have X := Box6.new (w.alloc (Obj.cells #[.slice A 4 4, .slice S 8 8] 26)) (.slice F R.length cr) (.slice Av c.V.length k1) (.slice D c.N.length k2) (.slice E 0 k3) (.slice Pa P.length kp) (.slice Ta T.length kt) 31
  rw [World.size_alloc] at X
  have HBg := Lib.hid X
  have HG := Lib.hid hG
  have HQ0 := Lib.hid q0
  have HK := Lib.hid hk
  have HR0 := Lib.hid hR0
  have HC0 := Lib.hid hc0
  have HP0 := Lib.hid hP0
  have HT0 := Lib.hid hT0
  have HPl : Hid (P.length = c.V.length ∧ T.length = c.V.length ∧ c.V.length = 2 ∧ c.M.length = 0) := by unfold Hid; rw [hP0, hT0, hc0]; decide
  have CU : Hid (∀ U, Q w U → Calls Tryz.prog 70 #[.agg #[.slice Av c.V.length k1, .slice D c.N.length k2, .slice E 0 k3], .slice F R.length cr] U fun e w' => e = .returned (.bool true) ∧ Q U w') := fun U q =>
    rightU_true R c Av D E F _ k1 _ k2 0 k3 _ cr U rfl rfl HPl.out.2.2.2.symm rfl (HG.out.rd.q q) (HG.out.r.rds.q q) (by rw [HC0.out]; exact ⟨by decide, by decide, by decide⟩) (by rw [HC0.out, HR0.out]; exact cl2) (by rw [HC0.out]; decide)
  have HV2 : Hid (∀ (v : Nat) (hv : v < c.V.length), c.V[v] = (v : Int)) := by unfold Hid; rw [hc0]; decide
  have CP : Hid (∀ (B : Nat) (U : World), Q w U → BoxT U B (.slice A 4 4) (.slice S 8 8) → Box6 U (B + 1) (.slice F R.length cr) (.slice Av c.V.length k1) (.slice D c.N.length k2) (.slice E 0 k3) (.slice Pa P.length kp) (.slice Ta T.length kt) → Calls Tryz.prog 71 #[.agg #[.slice Av c.V.length k1, .slice D c.N.length k2, .slice E 0 k3], .slice Pa P.length kp, mayFn B] U fun e w' => e = .returned (.bool true) ∧ Q U w') := fun B U q b1 b2 =>
    areRows_one B c P Av D E Pa _ k1 _ k2 0 k3 _ kp U rfl (HG.out.v.rds.q q) rfl ((HG.out.p.keys.q (Nat.le_refl _) q).more q.size) HPl.out.1 (by have := HPl.out; omega) (by rw [HP0.out]; decide) HV2.out (fun v hv p W hp qW => by
      have hv1 : v = 1 ∧ p = 2 := by
        have hP := HP0.out
        subst hP
        match v, hv, hp with
        | 0, _, hp => simp at hp
        | 1, _, hp => exact ⟨rfl, by simpa using hp⟩
        | v + 2, hv, _ => exact absurd hv (by simp)
      obtain ⟨rfl, rfl⟩ := hv1
      have qq := q.trans qW
      exact mayVar_any B A S F Av Pa Ta 4 4 8 8 R.length cr c.V.length k1 P.length kp T.length kt (.slice D c.N.length k2) (.slice E 0 k3) R twoK 1 2 ⟨2, 0, 0, []⟩ W rfl ((HK.out.q (Nat.le_refl _) qq).more qq.size) (by decide) rfl (HG.out.r.rds.q qq) HPl.out.1 HPl.out.2.1 (b1.q qW) (b2.q qW) rfl rfl ⟨by decide, by have := HPl.out; show (0 : Int) < _; omega⟩ (by rw [HR0.out]; decide))
  have CS : Hid (∀ (B : Nat) (U : World), Q w U → Calls Tryz.prog 71 #[.agg #[.slice Av c.V.length k1, .slice D c.N.length k2, .slice E 0 k3], .slice Ta T.length kt, mayFn B] U fun e w' => e = .returned (.bool true) ∧ Q U w') := fun B U q =>
    areRows_one B c T Av D E Ta _ k1 _ k2 0 k3 _ kt U rfl (HG.out.v.rds.q q) rfl ((HG.out.t.keys.q (Nat.le_refl _) q).more q.size) HPl.out.2.1 (by have := HPl.out; omega) (by rw [HT0.out]; decide) HV2.out (fun v hv p W hp _ => by
      have hT := HT0.out
      subst hT
      match v, hv, hp with
      | 0, _, hp => simp at hp
      | 1, _, hp => simp at hp
      | v + 2, hv, _ => exact absurd hv (by simp))
  clear X q0 hG hk hR0 hc0 hP0 hT0
  unfold mayFn at CP CS
  go_enter Tryz.func31, Tryz.ntmps31
  go_upto_region 1 with fail
  generalize (w.alloc (Obj.cells #[.slice A 4 4, .slice S 8 8] 26)).alloc (Obj.cells #[.slice F R.length cr, .slice Av c.V.length k1, .slice D c.N.length k2, .slice E 0 k3, .slice Pa P.length kp, .slice Ta T.length kt] 31) = W0 at *
  have ALL : Hid (∀ U, Q W0 U → U.cell? ⟨w.heap.size, 0, none⟩ = some (.slice A 4 4) ∧ U.cell? ⟨w.heap.size, 1, none⟩ = some (.slice S 8 8) ∧ U.cell? ⟨w.heap.size + 1, 0, none⟩ = some (.slice F R.length cr) ∧ U.cell? ⟨w.heap.size + 1, 1, none⟩ = some (.slice Av c.V.length k1) ∧ U.cell? ⟨w.heap.size + 1, 2, none⟩ = some (.slice D c.N.length k2) ∧ U.cell? ⟨w.heap.size + 1, 3, none⟩ = some (.slice E 0 k3) ∧ U.cell? ⟨w.heap.size + 1, 4, none⟩ = some (.slice Pa P.length kp) ∧ U.cell? ⟨w.heap.size + 1, 5, none⟩ = some (.slice Ta T.length kt)) := fun U q => by
    have h1 := HBa.out.q q
    have h2 := HBg.out.q q
    exact ⟨h1.c0, h1.c1, h2.c0, h2.c1, h2.c2, h2.c3, h2.c4, h2.c5⟩
  obtain ⟨s0, s1, s2, s3, s4, s5, s6, s7⟩ := ALL.out W0 (Q.refl _)
  go_upto_region 3 with (go_at_call 70; refine (CU.out _ HQ0.out).mono ?_; rintro e w1 ⟨rfl, q1⟩; have HQ1 := Lib.hid q1; clear s0 s1 s2 s3 s4 s5 s6 s7 q1; obtain ⟨s0, s1, s2, s3, s4, s5, s6, s7⟩ := ALL.out w1 HQ1.out)
  go_region_held3 (fun w' => w'.cell? ⟨w.heap.size, 0, none⟩ = some (.slice A 4 4) ∧ w'.cell? ⟨w.heap.size, 1, none⟩ = some (.slice S 8 8) ∧ w'.cell? ⟨w.heap.size + 1, 0, none⟩ = some (.slice F R.length cr) ∧ w'.cell? ⟨w.heap.size + 1, 1, none⟩ = some (.slice Av c.V.length k1) ∧ w'.cell? ⟨w.heap.size + 1, 2, none⟩ = some (.slice D c.N.length k2) ∧ w'.cell? ⟨w.heap.size + 1, 3, none⟩ = some (.slice E 0 k3) ∧ w'.cell? ⟨w.heap.size + 1, 4, none⟩ = some (.slice Pa P.length kp) ∧ w'.cell? ⟨w.heap.size + 1, 5, none⟩ = some (.slice Ta T.length kt))
    (first
      | (with_reducible exact ALL.out _ p5)
      | (with_reducible exact ALL.out _ p4)
      | (with_reducible exact ALL.out _ p3)
      | (with_reducible exact ALL.out _ p2)
      | exact ⟨s0, s1, s2, s3, s4, s5, s6, s7⟩
      | go_keep)
    (first
      | (go_at_call 72; refine (inPre_any _ _ _ _ _ _ _ _ _).mono ?_; rintro e w2 ⟨B, rfl, hb1, hb2, q2⟩; unfold mayFn; have HB1 := Lib.hid hb1; have HB2 := Lib.hid hb2; have p2 : Q W0 w2 := HQ1.out.drew.trans q2; clear hb1 hb2 q2)
      | (go_at_call 71; (with_reducible refine (CP.out B w2 (HQ0.out.trans p2) HB1.out HB2.out).mono ?_); rintro e w3 ⟨rfl, q3⟩; have p3 : Q W0 w3 := p2.trans q3; clear q3)
      | (go_at_call 73; refine (inSuc_any _ _ _ _ _ _ _ _ _).mono ?_; rintro e w4 ⟨B', rfl, hb1, hb2, q4⟩; unfold mayFn; have p4 : Q W0 w4 := p3.trans q4; clear hb1 hb2 q4)
      | (go_at_call 71; (with_reducible refine (CS.out B' w4 (HQ0.out.trans p4)).mono ?_); rintro e w5 ⟨rfl, q5⟩; have p5 : Q W0 w5 := p4.trans q5; clear q5)
      | fail)
  go_wp2_with fail
  go_ret
  exact ⟨rfl, HQ0.out.trans p5⟩
end Go.Proofs.YtjmopbimleoidaaGreat.Ig

namespace Go.Proofs.YtjmopbimleoidaaGreat.Ig
open Go.RowKit Kit Tr Uf
open Go.Proofs.YtjmopbimleoidaaGreat.Hs (Keys Ints BoxT layI KeysP IntsP)
open Go.Proofs.YtjmopbimleoidaaGreat.Tm (Tm termAt of_any Box4)
/-- the example's graphs as values -/
def gv2 (F A D E Pa Ta : Option Addr) (cr k1 k2 k3 kp kt : Nat) : Value := .agg #[.slice F 0 cr, .slice A 2 k1, .slice D 2 k2, .slice E 0 k3, .slice Pa 2 kp, .slice Ta 2 kt]
def e2 : List (List Int) := [[], []]
def p2 : List (List Int) := [[], [2]]
set_option maxRecDepth 100000 in
set_option maxHeartbeats 4000000 in
theorem new_ex (w : World) : Calls Tryz.prog 29 #[.slice none 0 0, .int .i64 2] w fun e w' => ∃ F A D E Pa Ta cr k1 k2 k3 kp kt, e = .returned (gv2 F A D E Pa Ta cr k1 k2 k3 kp kt) ∧ GRP w' (fun _ => True) [] c2 e2 e2 F A D E Pa Ta cr k1 k2 k3 kp kt ∧ Q w w' := by
  have HX := Lib.hid (BoxW.new w (.slice none 0 0) (.slice none 0 0) (.slice none 0 0) (.slice none 0 0) (.slice none 0 0) (.slice none 0 0) 31)
  have HQ0 := Lib.hid ((Q.refl w).alloc (Obj.cells #[.slice none 0 0, .slice none 0 0, .slice none 0 0, .slice none 0 0, .slice none 0 0, .slice none 0 0] 31))
  go_enter Tryz.func29, Tryz.ntmps29
  go_upto_region 1 with fail
  have HZ : Hid ((w.alloc (Obj.cells #[.slice none 0 0, .slice none 0 0, .slice none 0 0, .slice none 0 0, .slice none 0 0, .slice none 0 0] 31)).heap.size = w.heap.size + 1) := by unfold Hid; simp
  generalize w.alloc (Obj.cells #[.slice none 0 0, .slice none 0 0, .slice none 0 0, .slice none 0 0, .slice none 0 0, .slice none 0 0] 31) = W0 at *
  have CM : Hid (Calls Tryz.prog 57 #[.agg #[.slice none 0 0, .slice none 0 0, .slice none 0 0, .slice none 0 0, .slice none 0 0, .slice none 0 0], .int .i64 2] W0 (GAns [] c2 e2 e2 W0)) :=
    more12 [] ⟨[], [], []⟩ [] [] none none none none none none 0 0 0 0 0 0 0 0 0 0 0 0 2 W0 rfl rfl rfl rfl rfl rfl (Tr.Rds.nil _ _ _) ⟨Tr.Rds.nil _ _ _, Tr.Rds.nil _ _ _, Tr.Rds.nil _ _ _, Nat.le_refl _, Nat.le_refl _, Nat.le_refl _⟩ (fun h => absurd h (by simp)) (fun h => absurd h (by simp)) (by simp) ⟨by simp, by simp, by simp⟩ (by simp) (by simp) (by simp) (by simp) (by omega)
  go_wp2_with (go_at_call 57; refine CM.out.mono ?_; rintro e w1 ⟨F1, A1, D1, E1, P1, T1, cr, k1, k2, k3, kp, kt, rfl, hg, q1⟩; rw [show gvP [] c2 e2 e2 F1 A1 D1 E1 P1 T1 cr k1 k2 k3 kp kt = gv2 F1 A1 D1 E1 P1 T1 cr k1 k2 k3 kp kt from rfl]; unfold gv2; have HG := Lib.hid hg; have HQ1 := Lib.hid q1; have hx := HX.out.q q1; have x0 := hx.c.c0; have x1 := hx.c.c1; have x2 := hx.c.c2; have x3 := hx.c.c3; have x4 := hx.c.c4; have x5 := hx.c.c5; have xf0 := hx.f0; have xf1 := hx.f1; have xf2 := hx.f2; have xf3 := hx.f3; have xf4 := hx.f4; have xf5 := hx.f5; clear hg q1 hx)
  clear x0 x1 x2 x3 x4 x5 xf0 xf1 xf2 xf3 xf4 xf5
  have bz := (HX.out.q HQ1.out).set (.slice F1 0 cr) (.slice A1 2 k1) (.slice D1 2 k2) (.slice E1 0 k3) (.slice P1 2 kp) (.slice T1 2 kt)
  have y0 := bz.c.c0
  have y1 := bz.c.c1
  have y2 := bz.c.c2
  have y3 := bz.c.c3
  have y4 := bz.c.c4
  have y5 := bz.c.c5
  have hgr := set6_grown w1 w.heap.size (.slice F1 0 cr) (.slice A1 2 k1) (.slice D1 2 k2) (.slice E1 0 k3) (.slice P1 2 kp) (.slice T1 2 kt)
  refine bodyPost_ret (v := gv2 F1 A1 D1 E1 P1 T1 cr k1 k2 k3 kp kt) (by unfold gv2; simp [results, Tryz.f29, go_sem, y0, y1, y2, y3, y4, y5]) rfl ⟨F1, A1, D1, E1, P1, T1, cr, k1, k2, k3, kp, kt, rfl, ?_, grown_q hgr (HQ0.out.trans HQ1.out) (Nat.le_refl _)⟩
  have hz := HZ.out
  exact HG.out.to (agree_grown (P := fun b => W0.heap.size ≤ b) hgr (by show ¬ W0.heap.size ≤ w.heap.size; omega)) (fun _ _ _ => trivial)

theorem right2_any (A S F Av D E Pa Ta : Option Addr) (cr k1 k2 k3 kp kt : Nat) (w : World) (hk : Keys w w.heap.size A twoK) (hG : GRP w (fun _ => True) [] c2 p2 e2 F Av D E Pa Ta cr k1 k2 k3 kp kt) :
    Calls Tryz.prog 31 #[.agg #[.slice A 4 4, .slice S 8 8], .agg #[.slice F 0 cr, .slice Av 2 k1, .slice D 2 k2, .slice E 0 k3, .slice Pa 2 kp, .slice Ta 2 kt]] w fun e w' => e = .returned (.bool true) ∧ Q w w' :=
  right_ex [] c2 p2 e2 A S F Av D E Pa Ta cr k1 k2 k3 kp kt w rfl rfl rfl rfl hk hG
theorem rep2_any (A S F Av D E Pa Ta : Option Addr) (cr k1 k2 k3 kp kt : Nat) (w : World) (hk : Keys w w.heap.size A twoK) (hS : Ints w w.heap.size S (layI twoK)) (hG : GRP w (fun _ => True) [] c2 p2 e2 F Av D E Pa Ta cr k1 k2 k3 kp kt) :
    Calls Tryz.prog 30 #[.agg #[.slice A 4 4, .slice S 8 8], .agg #[.slice F 0 cr, .slice Av 2 k1, .slice D 2 k2, .slice E 0 k3, .slice Pa 2 kp, .slice Ta 2 kt], .int .i64 3] w fun e w' => e = .returned (.int .i64 3) ∧ Q w w' := by
  have h := rep12 [] c2.V A S Av D E Pa Ta c2.N c2.M 4 4 8 8 2 k1 2 k2 0 k3 kp kt 2 2 (.slice F 0 cr) twoK 3 w rfl lay_two.symm hk hS okS_two rfl hG.rd rfl rfl cl2 (by decide) rfl rfl all_2
  rw [rep_3] at h
  exact h
theorem add2_any (A S F Av D E Pa Ta : Option Addr) (cr k1 k2 k3 kp kt : Nat) (w : World) (hk : Keys w w.heap.size A twoK) (hS : Ints w w.heap.size S (layI twoK)) (hG : GRP w (fun _ => True) [] c2 e2 e2 F Av D E Pa Ta cr k1 k2 k3 kp kt) :
    Calls Tryz.prog 27 #[.agg #[.slice A 4 4, .slice S 8 8], .agg #[.slice F 0 cr, .slice Av 2 k1, .slice D 2 k2, .slice E 0 k3, .slice Pa 2 kp, .slice Ta 2 kt], .agg #[.int .i64 2, .int .i64 3]] w fun e w' => ∃ F A D E Pa Ta cr k1 k2 k3 kp kt Al cl, e = .returned (.tuple #[gv2 F A D E Pa Ta cr k1 k2 k3 kp kt, .slice Al 0 cl, .bool true]) ∧ GRP w' (fun b => w.heap.size ≤ b) [] c2 p2 e2 F A D E Pa Ta cr k1 k2 k3 kp kt ∧ Q w w' :=
  add_ex [] c2 e2 e2 A S F Av D E Pa Ta cr k1 k2 k3 kp kt w rfl rfl rfl rfl hk hS hG

set_option maxRecDepth 100000 in
set_option maxHeartbeats 8000000 in
theorem shown12_any (w : World) : Calls Tryz.prog 8 #[] w fun e w' => e = .returned (.bool true) ∧ Q w w' := by
  go_enter Tryz.func8, Tryz.ntmps8
  go_upto_region 2 with (first
    | (go_at_call 28; refine (two_any _).mono ?_; rintro e w1 ⟨A1, S1, rfl, hk, hs, q1⟩; have HK := Lib.hid hk; have HS := Lib.hid hs; have HQ1 := Lib.hid q1; clear hk hs q1)
    | (go_at_call 29; refine (new_ex _).mono ?_; rintro e w2 ⟨F, A, D, E, Pa, Ta, cr, k1, k2, k3, kp, kt, rfl, hg, q2⟩; unfold gv2; have HG := Lib.hid hg; have HQ12 := Lib.hid q2; clear hg q2)
    | (go_at_call 27; refine (add2_any A1 S1 F A D E Pa Ta cr k1 k2 k3 kp kt w2 ((HK.out.q (Nat.le_refl _) HQ12.out).more HQ12.out.size) ((HS.out.q (Nat.le_refl _) HQ12.out).more HQ12.out.size) HG.out).mono ?_; rintro e w3 ⟨F3, A3, D3, E3, P3, T3, cr3, l1, l2, l3, lp, lt, Al, cl, rfl, hg3, q3⟩; unfold gv2; have HG3 := Lib.hid hg3; have HQ3 := Lib.hid ((HQ1.out.trans HQ12.out).trans q3); clear hg3 q3)
    | fail)
  have HB := Lib.hid (Box6.new w3 (.slice F3 0 cr3) (.slice A3 2 l1) (.slice D3 2 l2) (.slice E3 0 l3) (.slice P3 2 lp) (.slice T3 2 lt) 31)
  have HQ4 := Lib.hid (HQ3.out.alloc (Obj.cells #[.slice F3 0 cr3, .slice A3 2 l1, .slice D3 2 l2, .slice E3 0 l3, .slice P3 2 lp, .slice T3 2 lt] 31))
  have HG4 : Hid (GRP (w3.alloc (Obj.cells #[.slice F3 0 cr3, .slice A3 2 l1, .slice D3 2 l2, .slice E3 0 l3, .slice P3 2 lp, .slice T3 2 lt] 31)) (fun _ => True) [] c2 p2 e2 F3 A3 D3 E3 P3 T3 cr3 l1 l2 l3 lp lt) := Lib.hid (HG3.out.to (agree_q (P := fun b => w2.heap.size ≤ b) ((Q.refl w3).alloc _)) (fun _ _ _ => trivial))
  generalize w3.alloc (Obj.cells #[.slice F3 0 cr3, .slice A3 2 l1, .slice D3 2 l2, .slice E3 0 l3, .slice P3 2 lp, .slice T3 2 lt] 31) = W4 at *
  generalize w3.heap.size = B at *
  obtain ⟨pa, epa, hpb, Ar, cr5, hcr5, hp0, hri⟩ := HG4.out.p.keys.at_ (k := 1) (by decide)
  obtain ⟨ra, era, hrb, hr0⟩ := hri.at_ (k := 0) (by decide)
  have hp0' : W4.cell? ⟨pa.block, pa.off + 1, none⟩ = some (.slice (some ra) 1 cr5) := by rw [← era, ← show pa.add 1 = ⟨pa.block, pa.off + 1, none⟩ by simp [Addr.add]]; exact hp0
  have hr0' : W4.cell? ra = some (.int .i64 2) := by rw [show ra.add 0 = ra by simp [Addr.add]] at hr0; exact hr0
  subst epa
  have Hp0 := Lib.hid hp0'
  have Hr0 := Lib.hid hr0'
  have Hpb := Lib.hid hpb
  have Hrb := Lib.hid hrb
  clear hp0 hp0' hr0 hr0' hri hcr5 hpb hrb era
  have ALL : Hid (∀ U, Q W4 U → U.cell? ⟨B, 0, none⟩ = some (.slice F3 0 cr3) ∧ U.cell? ⟨B, 1, none⟩ = some (.slice A3 2 l1) ∧ U.cell? ⟨B, 2, none⟩ = some (.slice D3 2 l2) ∧ U.cell? ⟨B, 3, none⟩ = some (.slice E3 0 l3) ∧ U.cell? ⟨B, 4, none⟩ = some (.slice (some pa) 2 lp) ∧ U.cell? ⟨B, 5, none⟩ = some (.slice T3 2 lt) ∧ U.cell? ⟨pa.block, pa.off + 1, none⟩ = some (.slice (some ra) 1 cr5) ∧ U.cell? ra = some (.int .i64 2)) := fun U q => by
    have h := HB.out.q q
    exact ⟨h.c0, h.c1, h.c2, h.c3, h.c4, h.c5, (q.cell (p := ⟨pa.block, pa.off + 1, none⟩) Hpb.out).trans Hp0.out, (q.cell (p := ra) Hrb.out).trans Hr0.out⟩
  obtain ⟨s0, s1, s2, s3, s4, s5, s6, s7⟩ := ALL.out W4 (Q.refl _)
  have GU : Hid (∀ U, Q W4 U → GRP U (fun _ => True) [] c2 p2 e2 F3 A3 D3 E3 (some pa) T3 cr3 l1 l2 l3 lp lt) := fun U q => HG4.out.to (agree_q (P := fun _ => True) q) (fun _ _ _ => trivial)
  go_region_held3 (fun w' => w'.cell? ⟨B, 0, none⟩ = some (.slice F3 0 cr3) ∧ w'.cell? ⟨B, 1, none⟩ = some (.slice A3 2 l1) ∧ w'.cell? ⟨B, 2, none⟩ = some (.slice D3 2 l2) ∧ w'.cell? ⟨B, 3, none⟩ = some (.slice E3 0 l3) ∧ w'.cell? ⟨B, 4, none⟩ = some (.slice (some pa) 2 lp) ∧ w'.cell? ⟨B, 5, none⟩ = some (.slice T3 2 lt) ∧ w'.cell? ⟨pa.block, pa.off + 1, none⟩ = some (.slice (some ra) 1 cr5) ∧ w'.cell? ra = some (.int .i64 2))
    (first
      | (with_reducible exact ALL.out _ p8)
      | (with_reducible exact ALL.out _ p7)
      | (with_reducible exact ALL.out _ p6)
      | (with_reducible exact ALL.out _ p5)
      | exact ⟨s0, s1, s2, s3, s4, s5, s6, s7⟩
      | go_keep)
    (first
      | (go_at_call 28; (with_reducible refine (two_any W4.drew).mono ?_); rintro e w5 ⟨A5, S5, rfl, hk, hs, q5⟩; have HK5 := Lib.hid hk; have HS5 := Lib.hid hs; have p5 : Q W4 w5 := (Q.refl W4).drew.trans q5; clear hk hs q5)
      | (go_at_call 30; (with_reducible refine (rep2_any A5 S5 F3 A3 D3 E3 (some pa) T3 cr3 l1 l2 l3 lp lt w5 HK5.out HS5.out (GU.out _ p5)).mono ?_); rintro e w6 ⟨rfl, q6⟩; have p6 : Q W4 w6 := p5.trans q6; clear q6)
      | (go_at_call 28; (with_reducible refine (two_any w6).mono ?_); rintro e w7 ⟨A7, S7, rfl, hk, hs, q7⟩; have HK7 := Lib.hid hk; have p7 : Q W4 w7 := p6.trans q7; clear hk hs q7)
      | (go_at_call 31; (with_reducible refine (right2_any A7 S7 F3 A3 D3 E3 (some pa) T3 cr3 l1 l2 l3 lp lt w7 HK7.out (GU.out _ p7)).mono ?_); rintro e w8 ⟨rfl, q8⟩; have p8 : Q W4 w8 := p7.trans q8; clear q8)
      | fail)
  go_wp2_with fail
  go_ret
  exact ⟨rfl, HQ4.out.trans p8⟩
end Go.Proofs.YtjmopbimleoidaaGreat.Ig
