/-
  What the proofs lean on, part 12 of 12.
-/
import Derived.Test.YtjmopbimleoidaaGreatPd
import Derived.Test.YtjmopbimleoidaaGreatPf
import Derived.Test.YtjmopbimleoidaaGreatPg
import Derived.Test.YtjmopbimleoidaaGreatPh
import Derived.Test.YtjmopbimleoidaaGreatPi
import Derived.Test.YtjmopbimleoidaaGreatPj
import Derived.Test.YtjmopbimleoidaaGreatPk
import Derived.Test.YtjmopbimleoidaaGreatRows
import Derived.OpenShut
import Derived.RegionTactic
import Derived.Deep.CutBlock
namespace Go.Proofs.YtjmopbimleoidaaGreat.Ig
open Go.RowKit Kit Tr Uf
open Go.Proofs.YtjmopbimleoidaaGreat.Hs (Keys Ints BoxT layI KeysP IntsP)
open Go.Proofs.YtjmopbimleoidaaGreat.Tm (Tm termAt of_any Box4)
theorem rep_2 : repV twoK c2.V 2 = 2 := by decide
theorem rep_3 : repV twoK c2.V 3 = 3 := by decide
theorem num_2 : varN twoK 2 2 = 0 ∧ decide (0 ≤ numV twoK 2 2) = true := by decide
theorem num_3 : varN twoK 2 3 = 1 ∧ decide (0 ≤ numV twoK 2 3) = true := by decide
theorem all_2 : allV twoK 2 = true := by decide
theorem variable12e (A S Av Pa Ta : Option Addr) (n c ms d m cv mp cp mt ct : Nat) (r b2 b3 : Value) (ks : List (List Int)) (id : Int) (w : World) (hp : mp = m) (ht : mt = m) (hn : n = ks.length) (hk : Keys w w.heap.size A ks) (hO : OkS ks) :
    Calls Tryz.prog 67 #[.agg #[.slice A n c, .slice S ms d], .agg #[r, .slice Av m cv, b2, b3, .slice Pa mp cp, .slice Ta mt ct], .int .i64 id] w fun e w' => e = .returned (.tuple #[.int .i64 (varN ks m id), .bool (decide (0 ≤ numV ks m id))]) ∧ Q w w' := by
  subst hp ht
  exact variable12 A S Av Pa Ta n c ms d _ cv cp ct r b2 b3 ks id w hn hk hO

set_option maxRecDepth 100000 in
set_option maxHeartbeats 8000000 in
theorem add_ex (R : List Int) (c : Cells) (P T : List (List Int)) (A S F Av D E Pa Ta : Option Addr) (cr k1 k2 k3 kp kt : Nat) (w : World) (hR0 : R = []) (hc0 : c = c2) (hP0 : P = [[], []]) (hT0 : T = [[], []]) (hk : Keys w w.heap.size A twoK) (hS : Ints w w.heap.size S (layI twoK))
    (hG : GRP w (fun _ => True) R c P T F Av D E Pa Ta cr k1 k2 k3 kp kt) :
    Calls Tryz.prog 27 #[.agg #[.slice A 4 4, .slice S 8 8], .agg #[.slice F R.length cr, .slice Av c.V.length k1, .slice D c.N.length k2, .slice E c.M.length k3, .slice Pa P.length kp, .slice Ta T.length kt], .agg #[.int .i64 2, .int .i64 3]] w fun e w' => ∃ F A D E Pa Ta cr k1 k2 k3 kp kt Al cl, e = .returned (.tuple #[gvP R c [[], [2]] T F A D E Pa Ta cr k1 k2 k3 kp kt, .slice Al 0 cl, .bool true]) ∧ GRP w' (fun b => w.heap.size ≤ b) R c [[], [2]] T F A D E Pa Ta cr k1 k2 k3 kp kt ∧ Q w w' := by
  have q0 := ((((Q.refl w).alloc (Obj.cells #[.slice A 4 4, .slice S 8 8] 26)).alloc (Obj.cells #[.slice F R.length cr, .slice Av c.V.length k1, .slice D c.N.length k2, .slice E c.M.length k3, .slice Pa P.length kp, .slice Ta T.length kt] 31)).alloc (Obj.cells #[.int .i64 2, .int .i64 3] 48)).alloc (Obj.cells #[.slice none 0 0, .slice none 0 0, .slice none 0 0, .slice none 0 0, .slice none 0 0, .slice none 0 0] 31)
  have HBa := Lib.hid ((BoxT.new w (.slice A 4 4) (.slice S 8 8) 26).q ((((Q.refl _).alloc (Obj.cells #[.slice F R.length cr, .slice Av c.V.length k1, .slice D c.N.length k2, .slice E c.M.length k3, .slice Pa P.length kp, .slice Ta T.length kt] 31)).alloc (Obj.cells #[.int .i64 2, .int .i64 3] 48)).alloc (Obj.cells #[.slice none 0 0, .slice none 0 0, .slice none 0 0, .slice none 0 0, .slice none 0 0, .slice none 0 0] 31)))
  have X := (Box6.new (w.alloc (Obj.cells #[.slice A 4 4, .slice S 8 8] 26)) (.slice F R.length cr) (.slice Av c.V.length k1) (.slice D c.N.length k2) (.slice E c.M.length k3) (.slice Pa P.length kp) (.slice Ta T.length kt) 31).q (((Q.refl _).alloc (Obj.cells #[.int .i64 2, .int .i64 3] 48)).alloc (Obj.cells #[.slice none 0 0, .slice none 0 0, .slice none 0 0, .slice none 0 0, .slice none 0 0, .slice none 0 0] 31))
  rw [World.size_alloc] at X
  have HBg := Lib.hid X
  have X3 := (own_new12 ((w.alloc (Obj.cells #[.slice A 4 4, .slice S 8 8] 26)).alloc (Obj.cells #[.slice F R.length cr, .slice Av c.V.length k1, .slice D c.N.length k2, .slice E c.M.length k3, .slice Pa P.length kp, .slice Ta T.length kt] 31)) [.int .i64 2, .int .i64 3] 48).q ((Q.refl _).alloc (Obj.cells #[.slice none 0 0, .slice none 0 0, .slice none 0 0, .slice none 0 0, .slice none 0 0, .slice none 0 0] 31))
  rw [World.size_alloc, World.size_alloc] at X3
  have X2 := BoxW.new (((w.alloc (Obj.cells #[.slice A 4 4, .slice S 8 8] 26)).alloc (Obj.cells #[.slice F R.length cr, .slice Av c.V.length k1, .slice D c.N.length k2, .slice E c.M.length k3, .slice Pa P.length kp, .slice Ta T.length kt] 31)).alloc (Obj.cells #[.int .i64 2, .int .i64 3] 48)) (.slice none 0 0) (.slice none 0 0) (.slice none 0 0) (.slice none 0 0) (.slice none 0 0) (.slice none 0 0) 31
  rw [World.size_alloc, World.size_alloc, World.size_alloc] at X2
  obtain ⟨Bp, hBp⟩ : ∃ B, B = w.heap.size + 1 + 1 := ⟨_, rfl⟩
  obtain ⟨Br, hBr⟩ : ∃ B, B = w.heap.size + 1 + 1 + 1 := ⟨_, rfl⟩
  rw [← hBp] at X3
  rw [← hBr] at X2
  have HX := Lib.hid X2
  have HBp := Lib.hid X3
  have HBr : Hid (Br = w.heap.size + 3) := hBr
  have HZ : Hid (((((w.alloc (Obj.cells #[.slice A 4 4, .slice S 8 8] 26)).alloc (Obj.cells #[.slice F R.length cr, .slice Av c.V.length k1, .slice D c.N.length k2, .slice E c.M.length k3, .slice Pa P.length kp, .slice Ta T.length kt] 31)).alloc (Obj.cells #[.int .i64 2, .int .i64 3] 48)).alloc (Obj.cells #[.slice none 0 0, .slice none 0 0, .slice none 0 0, .slice none 0 0, .slice none 0 0, .slice none 0 0] 31)).heap.size = w.heap.size + 4) := by unfold Hid; simp
  have HG := Lib.hid hG
  have HQ0 := Lib.hid q0
  have HK := Lib.hid hk
  have HS := Lib.hid hS
  have HR0 := Lib.hid hR0
  have HC0 := Lib.hid hc0
  have HP0 := Lib.hid hP0
  have HT0 := Lib.hid hT0
  have HPl : Hid (P.length = c.V.length ∧ T.length = c.V.length ∧ c.V.length = 2 ∧ c.V.length ≤ 1000000) := by unfold Hid; rw [hP0, hT0, hc0]; decide
  clear X X2 X3 q0 hG hk hS hR0 hc0 hP0 hT0
  have CR : Hid (∀ (id r : Int) (U : World), Q w U → repV twoK c2.V id = r → Calls Tryz.prog 30 #[.agg #[.slice A 4 4, .slice S 8 8], .agg #[.slice F R.length cr, .slice Av c.V.length k1, .slice D c.N.length k2, .slice E c.M.length k3, .slice Pa P.length kp, .slice Ta T.length kt], .int .i64 id] U fun e w' => e = .returned (.int .i64 r) ∧ Q U w') := fun id r U q hr => by
    have h := rep12 R c.V A S Av D E Pa Ta c.N c.M 4 4 8 8 c.V.length k1 c.N.length k2 c.M.length k3 kp kt P.length T.length (.slice F R.length cr) twoK id U rfl lay_two.symm ((HK.out.q (Nat.le_refl _) q).more q.size) ((HS.out.q (Nat.le_refl _) q).more q.size) okS_two rfl (HG.out.rd.q q) rfl rfl (by rw [HC0.out, HR0.out]; exact cl2) HPl.out.2.2.2 HPl.out.1 HPl.out.2.1 (by rw [HC0.out]; exact all_2)
    rw [HC0.out] at h ⊢
    rw [hr] at h
    exact h
  have CV : Hid (∀ (id r : Int) (U : World), Q w U → (varN twoK 2 id = r ∧ decide (0 ≤ numV twoK 2 id) = true) → Calls Tryz.prog 67 #[.agg #[.slice A 4 4, .slice S 8 8], .agg #[.slice F R.length cr, .slice Av c.V.length k1, .slice D c.N.length k2, .slice E c.M.length k3, .slice Pa P.length kp, .slice Ta T.length kt], .int .i64 id] U fun e w' => e = .returned (.tuple #[.int .i64 r, .bool true]) ∧ Q U w') := fun id r U q hr => by
    have h := variable12e A S Av Pa Ta 4 4 8 8 c.V.length k1 P.length kp T.length kt (.slice F R.length cr) (.slice D c.N.length k2) (.slice E c.M.length k3) twoK id U HPl.out.1 HPl.out.2.1 rfl ((HK.out.q (Nat.le_refl _) q).more q.size) okS_two
    have e := HPl.out.2.2.1
    rw [show varN twoK c.V.length id = r by rw [e]; exact hr.1, show decide (0 ≤ numV twoK c.V.length id) = true by rw [e]; exact hr.2] at h
    exact h
  have CL : Hid (∀ U, Q w U → Calls Tryz.prog 40 #[.slice F R.length cr, .int .i64 1, .int .i64 0] U fun e w' => e = .returned (.bool false) ∧ Q U w') := fun U q => by
    have h := less_any R F R.length cr 1 0 U rfl (HG.out.r.rds.q q)
    rw [show lessB R 1 0 = false by rw [HR0.out]; decide] at h
    exact h
  have CP : Hid (∀ U, Q w U → Calls Tryz.prog 69 #[.agg #[.slice A 4 4, .slice S 8 8], .agg #[.slice F R.length cr, .slice Av c.V.length k1, .slice D c.N.length k2, .slice E c.M.length k3, .slice Pa P.length kp, .slice Ta T.length kt], .int .i64 2, .int .i64 1] U fun e w' => ∃ F A D E Pa Ta cr k1 k2 k3 kp kt Al cl, e = .returned (.tuple #[gvP R c [[], [2]] T F A D E Pa Ta cr k1 k2 k3 kp kt, .slice Al 0 cl, .bool true]) ∧ GRP w' (fun b => U.heap.size ≤ b) R c [[], [2]] T F A D E Pa Ta cr k1 k2 k3 kp kt ∧ Q U w') := fun U q =>
    addPre_ex R c P T A S F Av D E Pa Ta cr k1 k2 k3 kp kt U HR0.out HC0.out HP0.out HT0.out ((HK.out.q (Nat.le_refl _) q).more q.size) ((HS.out.q (Nat.le_refl _) q).more q.size) (HG.out.to (agree_q (P := fun _ => True) q) (fun _ _ _ => trivial))
  go_enter Tryz.func27, Tryz.ntmps27
  go_upto_region 1 with fail
  rw [← hBp, show Bp + 1 = Br by rw [hBp, hBr]]
  clear hBp hBr
  generalize (((w.alloc (Obj.cells #[.slice A 4 4, .slice S 8 8] 26)).alloc (Obj.cells #[.slice F R.length cr, .slice Av c.V.length k1, .slice D c.N.length k2, .slice E c.M.length k3, .slice Pa P.length kp, .slice Ta T.length kt] 31)).alloc (Obj.cells #[.int .i64 2, .int .i64 3] 48)).alloc (Obj.cells #[.slice none 0 0, .slice none 0 0, .slice none 0 0, .slice none 0 0, .slice none 0 0, .slice none 0 0] 31) = W0 at *
  have ALL : Hid (∀ U, Q W0 U → U.cell? ⟨w.heap.size, 0, none⟩ = some (.slice A 4 4) ∧ U.cell? ⟨w.heap.size, 1, none⟩ = some (.slice S 8 8) ∧ U.cell? ⟨w.heap.size + 1, 0, none⟩ = some (.slice F R.length cr) ∧ U.cell? ⟨w.heap.size + 1, 1, none⟩ = some (.slice Av c.V.length k1) ∧ U.cell? ⟨w.heap.size + 1, 2, none⟩ = some (.slice D c.N.length k2) ∧ U.cell? ⟨w.heap.size + 1, 3, none⟩ = some (.slice E c.M.length k3) ∧ U.cell? ⟨w.heap.size + 1, 4, none⟩ = some (.slice Pa P.length kp) ∧ U.cell? ⟨w.heap.size + 1, 5, none⟩ = some (.slice Ta T.length kt) ∧ U.cell? ⟨Bp, 0, none⟩ = some (.int .i64 2) ∧ U.cell? ⟨Bp, 1, none⟩ = some (.int .i64 3)) := fun U q => by
    have h1 := HBa.out.q q
    have h2 := HBg.out.q q
    have h3 := HBp.out.q q
    exact ⟨h1.c0, h1.c1, h2.c0, h2.c1, h2.c2, h2.c3, h2.c4, h2.c5, (h3.2 0 _ rfl).1, (h3.2 1 _ rfl).1⟩
  obtain ⟨s0, s1, s2, s3, s4, s5, s6, s7, s8, s9⟩ := ALL.out W0 (Q.refl _)
  go_region_held3 (fun w' => w'.cell? ⟨w.heap.size, 0, none⟩ = some (.slice A 4 4) ∧ w'.cell? ⟨w.heap.size, 1, none⟩ = some (.slice S 8 8) ∧ w'.cell? ⟨w.heap.size + 1, 0, none⟩ = some (.slice F R.length cr) ∧ w'.cell? ⟨w.heap.size + 1, 1, none⟩ = some (.slice Av c.V.length k1) ∧ w'.cell? ⟨w.heap.size + 1, 2, none⟩ = some (.slice D c.N.length k2) ∧ w'.cell? ⟨w.heap.size + 1, 3, none⟩ = some (.slice E c.M.length k3) ∧ w'.cell? ⟨w.heap.size + 1, 4, none⟩ = some (.slice Pa P.length kp) ∧ w'.cell? ⟨w.heap.size + 1, 5, none⟩ = some (.slice Ta T.length kt) ∧ w'.cell? ⟨Bp, 0, none⟩ = some (.int .i64 2) ∧ w'.cell? ⟨Bp, 1, none⟩ = some (.int .i64 3))
    (first
      | (with_reducible exact ALL.out _ p2)
      | (with_reducible exact ALL.out _ p1)
      | exact ⟨s0, s1, s2, s3, s4, s5, s6, s7, s8, s9⟩
      | go_keep)
    (first
      | (go_at_call 30; (with_reducible refine (CR.out 2 2 _ HQ0.out.drew rep_2).mono ?_); rintro e w1 ⟨rfl, q1⟩; have p1 : Q W0 w1 := (Q.refl W0).drew.trans q1)
      | (go_at_call 30; (with_reducible refine (CR.out 3 3 _ (HQ0.out.trans p1) rep_3).mono ?_); rintro e w2 ⟨rfl, q2⟩; have p2 : Q W0 w2 := p1.trans q2)
      | fail)
  have HQ2 := Lib.hid p2
  clear s0 s1 s2 s3 s4 s5 s6 s7 s8 s9 p1 p2 q1 q2
  obtain ⟨s0, s1, s2, s3, s4, s5, s6, s7, s8, s9⟩ := ALL.out w2 HQ2.out
  go_wp2_with (first
    | (go_at_call 67; (with_reducible refine (CV.out 2 0 w2 (HQ0.out.trans HQ2.out) num_2).mono ?_); rintro e w3 ⟨rfl, q3⟩; have HQ3 := Lib.hid (HQ2.out.trans q3); clear s0 s1 s2 s3 s4 s5 s6 s7 s8 s9 q3; obtain ⟨s0, s1, s2, s3, s4, s5, s6, s7, s8, s9⟩ := ALL.out w3 HQ3.out)
    | (go_at_call 67; (with_reducible refine (CV.out 3 1 w3 (HQ0.out.trans HQ3.out) num_3).mono ?_); rintro e w4 ⟨rfl, q4⟩; have HQ4 := Lib.hid (HQ3.out.trans q4); clear s0 s1 s2 s3 s4 s5 s6 s7 s8 s9 q4; obtain ⟨s0, s1, s2, s3, s4, s5, s6, s7, s8, s9⟩ := ALL.out w4 HQ4.out)
    | (go_at_call 40; refine (CL.out w4 (HQ0.out.trans HQ4.out)).mono ?_; rintro e w5 ⟨rfl, q5⟩; have HQ5 := Lib.hid (HQ4.out.trans q5); clear s0 s1 s2 s3 s4 s5 s6 s7 s8 s9 q5; obtain ⟨s0, s1, s2, s3, s4, s5, s6, s7, s8, s9⟩ := ALL.out w5 HQ5.out)
    | (go_at_call 69; refine (CP.out w5 (HQ0.out.trans HQ5.out)).mono ?_; rintro e w6 ⟨F6, A6, D6, E6, P6, T6, cr6, l1, l2, l3, lp, lt, Al, cl, rfl, hg6, q6⟩; unfold gvP; rw [show ([[], [2]] : List (List Int)).length = 2 from rfl]; have HG6 := Lib.hid hg6; have HQ6 := Lib.hid (HQ5.out.trans q6); have hx6 := HX.out.q (HQ5.out.trans q6); have x0 := hx6.c.c0; have x1 := hx6.c.c1; have x2 := hx6.c.c2; have x3 := hx6.c.c3; have x4 := hx6.c.c4; have x5 := hx6.c.c5; have xf0 := hx6.f0; have xf1 := hx6.f1; have xf2 := hx6.f2; have xf3 := hx6.f3; have xf4 := hx6.f4; have xf5 := hx6.f5; clear hg6 q6 hx6 s0 s1 s2 s3 s4 s5 s6 s7 s8 s9))
  clear x0 x1 x2 x3 x4 x5 xf0 xf1 xf2 xf3 xf4 xf5
  have bz := (HX.out.q HQ6.out).set (.slice F6 R.length cr6) (.slice A6 c.V.length l1) (.slice D6 c.N.length l2) (.slice E6 c.M.length l3) (.slice P6 2 lp) (.slice T6 T.length lt)
  have y0 := bz.c.c0
  have y1 := bz.c.c1
  have y2 := bz.c.c2
  have y3 := bz.c.c3
  have y4 := bz.c.c4
  have y5 := bz.c.c5
  have hgr := set6_grown w6 Br (.slice F6 R.length cr6) (.slice A6 c.V.length l1) (.slice D6 c.N.length l2) (.slice E6 c.M.length l3) (.slice P6 2 lp) (.slice T6 T.length lt)
  refine bodyPost_ret (v := .tuple #[gvP R c [[], [2]] T F6 A6 D6 E6 P6 T6 cr6 l1 l2 l3 lp lt, .slice Al 0 cl, .bool true]) (by unfold gvP; rw [show ([[], [2]] : List (List Int)).length = 2 from rfl]; simp [results, Tryz.f27, go_sem, y0, y1, y2, y3, y4, y5]) rfl ?_
  have hbr := HBr.out
  have h5 := HQ5.out.size
  have hz := HZ.out
  have hg2 := HG6.out.to (agree_grown (P := fun b => w5.heap.size ≤ b) hgr (by show ¬ w5.heap.size ≤ Br; omega)) (K' := fun b => w.heap.size ≤ b) (fun b hb _ => by have : w5.heap.size ≤ b := hb; show w.heap.size ≤ b; omega)
  exact ⟨_, _, _, _, _, _, _, _, _, _, _, _, Al, cl, rfl, hg2, grown_q hgr (HQ0.out.trans HQ6.out) (by omega)⟩
end Go.Proofs.YtjmopbimleoidaaGreat.Ig

namespace Go.Proofs.YtjmopbimleoidaaGreat.Uf
open Go.RowKit Kit Tr

theorem own_read {w : World} {base : Nat} {v : Value} {n : Nat} {l : List Int} (h : w.ownsRow base 3 1 v n (cellsI l)) (hn : n = l.length) : ∃ A c, v = .slice A l.length c ∧ l.length ≤ c ∧ Rds w w.heap.size A (cellsI l) := by
  subst hn
  have h2 := h
  obtain ⟨hl, ⟨rfl, h0⟩ | ⟨g, cap, cur, rfl, hg, hh, hc, _⟩⟩ := h
  · exact ⟨none, 0, by rw [h0], by omega, fun h => by rw [cellsI_len] at h; omega⟩
  · exact ⟨_, cap, rfl, hc, (OwnC.of_row h2).rds⟩
end Go.Proofs.YtjmopbimleoidaaGreat.Uf

namespace Go.Proofs.YtjmopbimleoidaaGreat.Uf
open Go.RowKit Kit Tr

theorem make_ints (n : Nat) (hn : n ≤ 100000000) (u : World) : (Instr.makeSlice 24 (.int .i64 (n : Int)) (.int .i64 (n : Int))).run Tryz.prog u = .ok (.slice (some ⟨u.heap.size, 0, none⟩) n n) (u.alloc (.cells (madeCells #[.int .i64 0] n) 3)) := by
  obtain ⟨i0, hi, hz0, hz1, hz2⟩ := info_parts intInfo
  have h := run_make (P := Tryz.prog) u 24 3 i0 _ Tryz.underlying24 hi hz0 .i64 .i64 (n : Int) (n : Int) (by omega) (by omega) (by rw [hz2]; omega) (by omega)
  rw [hz1, Nat.mul_one] at h
  exact h

end Go.Proofs.YtjmopbimleoidaaGreat.Uf

namespace Go.Proofs.YtjmopbimleoidaaGreat.Uf
open Go.RowKit Kit Tr

end Go.Proofs.YtjmopbimleoidaaGreat.Uf

namespace Go.Proofs.YtjmopbimleoidaaGreat.Uf
open Go.RowKit Kit Tr

set_option maxRecDepth 100000 in
set_option maxHeartbeats 1000000 in
theorem rightU_true (R : List Int) (c : Cells) (A D E F : Option Addr) (n1 k1 n2 k2 n3 k3 n4 k4 : Nat) (w : World) (h1 : n1 = c.V.length) (h2 : n2 = c.N.length) (h3 : n3 = c.M.length) (h4 : n4 = R.length) (h : Rd w c A k1 D k2 E k3) (hR : Rds w w.heap.size F (cellsI R)) (hf : Few c 1000000) (hC : Cl R c.V) (hr : rightB c = true) :
    Calls Tryz.prog 70 #[.agg #[.slice A n1 k1, .slice D n2 k2, .slice E n3 k3], .slice F n4 k4] w fun e w' => e = .returned (.bool true) ∧ Q w w' := by
  subst h1 h2 h3 h4
  have q0 := (Q.refl w).alloc (Obj.cells #[Value.slice A c.V.length k1, Value.slice D c.N.length k2, Value.slice E c.M.length k3] 29)
  have HB := Lib.hid (Box3.new w (Value.slice A c.V.length k1) (Value.slice D c.N.length k2) (Value.slice E c.M.length k3) 29)
  have HR := Lib.hid (h.q q0)
  have HRk := Lib.hid (hR.q q0)
  have HC := Lib.hid hC
  have Hf := Lib.hid hf
  have Hr := Lib.hid hr
  have fv := hf.1
  clear h hR hC hf hr
  go_enter Tryz.func70, Tryz.ntmps70
  go_upto_region 1 with fail
  generalize w.alloc (Obj.cells #[Value.slice A c.V.length k1, Value.slice D c.N.length k2, Value.slice E c.M.length k3] 29) = W0 at *
  have HF := Lib.hid (fun (a b : Int) W (q : Q (twoF W0 F R.length k4) W) => aheadF R F _ k4 rfl a b W0 W HRk.out q)
  have qF := twoF_q W0 F R.length k4
  go_upto_region 2 with (go_at_call 85; refine (order_any _ _ _ _).mono ?_; rintro e w1 ⟨rfl, rfl⟩)
  generalize twoF W0 F R.length k4 = W1 at *
  have HB1 := Lib.hid (HB.out.q qF)
  have HR1 := Lib.hid (HR.out.q qF)
  have b0 := HB1.out.c0
  have Hq1 := Lib.hid (q0.trans qF)
  go_wp2_with fail
  go_loopw [13] (fun i wr => ∃ (k : Nat), k ≤ c.V.length ∧ i = .int .i64 k ∧ Hid (Q W1 wr)) (fun i _ => c.V.length - (intOf i).toNat)
  case atStart => exact ⟨0, Nat.zero_le _, rfl, Lib.hid (Q.refl _)⟩
  case round =>
    clear b0
    obtain ⟨k, hk, rfl, HQ⟩ := hrel
    have b0 := (HB1.out.q HQ.out).c0
    have b1 := (HB1.out.q HQ.out).c1
    have b2 := (HB1.out.q HQ.out).c2
    by_cases hlt : k < c.V.length
    · obtain ⟨ad, e, _, c0⟩ := (HR1.out.v.q HQ.out).int_at hlt
      rw [HC.out.at hlt] at c0
      rw [e] at b0
      obtain ⟨p1, _, p3⟩ := HC.out.parent hlt
      clear e
      by_cases e : par c.V k = k
      · rw [e] at c0
        have e1 : ((k : Int) != (k : Int)) = false := by simp
        clear p3 e
        go_wp2_with fail
        go_roundw
        case rel => exact ⟨k + 1, by omega, by go_num, HQ⟩
        case measure => simp [intOf]; omega
      · have hl := p3.resolve_left e
        have C := Lib.hid (HF.out (par c.V k : Int) (k : Int) wr HQ.out)
        rw [hl] at C
        have e1 : ((par c.V k : Int) != (k : Int)) = true := bne_iff_ne.2 (by omega)
        have e2 : (par c.V k != k) = true := by simpa using e
        have hd : (decide (0 ≤ (par c.V k : Int)) && decide ((par c.V k : Int) < (c.V.length : Int))) = true := by rw [decide_eq_true (show (0 : Int) ≤ (par c.V k : Int) by omega), decide_eq_true (show (par c.V k : Int) < (c.V.length : Int) by omega)]; rfl
        clear p3 e hl
        go_wp2_with (first
          | (go_at_call 86; refine (placeU _ _ _).mono ?_; rintro e w4 ⟨rfl, rfl⟩; rw [hd])
          | (go_at_call 118; refine C.out.mono ?_; rintro e w4 ⟨rfl, hd4⟩; have q4 := q_drewN _ hd4; clear hd4))
        go_roundw
        case rel => exact ⟨k + 1, by omega, by go_num, Lib.hid (HQ.out.trans q4)⟩
        case measure => simp [intOf]; omega
    · have C := Lib.hid (right_true c A D E _ k1 _ k2 _ k3 wr rfl rfl rfl (HR1.out.q HQ.out) Hf.out Hr.out)
      go_wp2_with (go_at_call 113; refine C.out.mono ?_; rintro e w4 ⟨rfl, q4⟩)
      go_ret
      exact ⟨rfl, Hq1.out.trans (HQ.out.trans q4)⟩

def e0 : Cells := ⟨[], [], []⟩
def e1 : Cells := ⟨[0], [(-1, 0)], []⟩
def e2 : Cells := ⟨[0, 1], [(-1, 0), (-1, 0)], []⟩
def e3 : Cells := ⟨[0, 1, 2], [(-1, 0), (-1, 0), (-1, 0)], []⟩
def e4 : Cells := ⟨[0, 1, 1], [(-1, 0), (-1, 0), (-1, 0), (2, 2)], []⟩
end Go.Proofs.YtjmopbimleoidaaGreat.Uf

namespace Go.Proofs.YtjmopbimleoidaaGreat.Ig
open Go.RowKit Kit Tr Uf
open Go.Proofs.YtjmopbimleoidaaGreat.Hs (Keys Ints BoxT layI KeysP IntsP)
open Go.Proofs.YtjmopbimleoidaaGreat.Tm (Tm termAt of_any Box4)
set_option maxRecDepth 100000 in
set_option maxHeartbeats 8000000 in
theorem areRows_one (B : Nat) (c : Cells) (rows : List (List Int)) (A D E Pa : Option Addr) (n1 k1 n2 k2 n3 k3 np kp : Nat) (w : World) (hn1 : n1 = c.V.length) (hA : Tr.Rds w w.heap.size A (cellsI c.V)) (hnp : np = rows.length) (hP : Keys w w.heap.size Pa rows) (hn : rows.length = c.V.length) (hl : c.V.length ≤ 1000)
    (h1 : ∀ row ∈ rows, row.length ≤ 1) (h2 : ∀ (v : Nat) (hv : v < c.V.length), c.V[v] = (v : Int))
    (hC : ∀ (v : Nat) (hv : v < rows.length) (p : Int) (W : World), p ∈ rows[v] → Q w W → Calls Tryz.prog 148 #[.int .i64 (v : Int), .int .i64 p, .pointer (some ⟨B, 0, none⟩), .pointer (some ⟨B + 1, 0, none⟩), .pointer (some ⟨B + 1 + 1, 0, none⟩)] W fun e w' => e = .returned (.bool true) ∧ Q W w') :
    Calls Tryz.prog 71 #[.agg #[.slice A n1 k1, .slice D n2 k2, .slice E n3 k3], .slice Pa np kp, mayFn B] w fun e w' => e = .returned (.bool true) ∧ Q w w' := by
  subst hn1 hnp
  have q0 := (Q.refl w).alloc (Obj.cells #[.slice A c.V.length k1, .slice D n2 k2, .slice E n3 k3] 29)
  have HB := Lib.hid (Box3.new w (.slice A c.V.length k1) (.slice D n2 k2) (.slice E n3 k3) 29)
  have HA := Lib.hid (hA.q q0)
  have HP := Lib.hid ((hP.q (Nat.le_refl _) q0).more q0.size)
  have HQ0 := Lib.hid q0
  have H1 := Lib.hid h1
  have H2 := Lib.hid h2
  have HC := Lib.hid hC
  have HN := Lib.hid hn
  have d0 : ((rows.length : Int) != (c.V.length : Int)) = false := by rw [hn]; simp
  have hrl : rows.length ≤ 1000 := by omega
  clear hA hP q0 h1 h2 hC hn
  unfold mayFn
  go_enter Tryz.func71, Tryz.ntmps71
  go_upto_region 1 with fail
  generalize w.alloc (Obj.cells #[.slice A c.V.length k1, .slice D n2 k2, .slice E n3 k3] 29) = W0 at *
  have b0 := HB.out.c0
  go_wp2_with fail
  clear b0
  go_loopw [19] (fun i wr => ∃ k : Nat, k ≤ rows.length ∧ i = .int .i64 k ∧ Hid (Q W0 wr)) (fun i _ => rows.length - (intOf i).toNat)
  case atStart => exact ⟨0, Nat.zero_le _, rfl, Lib.hid (Q.refl _)⟩
  case round =>
    obtain ⟨k, hk, rfl, HQ⟩ := hrel
    by_cases hlt : k < rows.length
    · obtain ⟨ad, rfl, hadb, Ar, cr, hcr, p0, hri⟩ := ((HP.out.q (Nat.le_refl _) HQ.out).more HQ.out.size).at_ hlt
      have hkV : k < c.V.length := by have := HN.out; omega
      obtain ⟨va, rfl, hvb, v0⟩ := (HA.out.q HQ.out).int_at hkV
      rw [H2.out k hkV] at v0
      have b0 := (HB.out.q HQ.out).c0
      have HR1 := Lib.hid (H1.out _ (List.getElem_mem hlt))
      have HLT := Lib.hid hlt
      have HRi := Lib.hid hri
      have HCk : Hid (∀ (p : Int) (W : World), p ∈ rows[k] → Q w W → Calls Tryz.prog 148 #[.int .i64 (k : Int), .int .i64 p, .pointer (some ⟨B, 0, none⟩), .pointer (some ⟨B + 1, 0, none⟩), .pointer (some ⟨B + 1 + 1, 0, none⟩)] W fun e w' => e = .returned (.bool true) ∧ Q W w') := fun p W => HC.out k hlt p W
      clear hri hcr hadb hvb
      generalize rows[k] = row at *
      match hrow : row with
      | [] =>
        clear HCk HRi
        go_wp2_with fail
        go_loopw [38] (fun i wx => i = .int .i64 0 ∧ Hid (Q W0 wx)) (fun _ _ => 0)
        case atStart => exact ⟨rfl, HQ⟩
        case round =>
          obtain ⟨rfl, HQx⟩ := hrel
          go_wp2_with fail
          go_roundw
          case rel => exact ⟨k + 1, HLT.out, by go_num, HQx⟩
          case measure => have := HLT.out; simp [intOf]; omega
      | [p] =>
        obtain ⟨ra, rfl, hrb, r0⟩ := HRi.out.at_ (k := 0) (by simp)
        have CP := Lib.hid (HCk.out p)
        have HR0 : Hid (wr.cell? ra = some (.int .i64 p) ∧ ra.block < wr.heap.size) := by
          rw [show ra.add 0 = ra by simp [Addr.add]] at r0
          exact Lib.hid ⟨r0, hrb⟩
        clear HCk HRi r0 hrb
        go_wp2_with fail
        clear b0 p0 v0
        go_loopw [38] (fun i wx => ∃ j : Nat, j ≤ 1 ∧ i = .int .i64 j ∧ Hid (Q wr wx)) (fun i _ => 1 - (intOf i).toNat)
        case atStart => exact ⟨0, by omega, rfl, Lib.hid (Q.refl _)⟩
        case round =>
          obtain ⟨j, hj, rfl, HQx⟩ := hrel
          rcases j with _ | j
          · rename_i wx _ _ _
            have r0 := (HQx.out.cell (p := ra) HR0.out.2).trans HR0.out.1
            go_wp2_with (go_at_call 148; refine (CP.out _ (by simp) (HQ0.out.trans (HQ.out.trans HQx.out))).mono ?_; rintro e w4 ⟨rfl, q4⟩; have HQ4 := Lib.hid (HQx.out.trans q4))
            go_roundw
            case rel => exact ⟨1, by omega, by go_num, HQ4⟩
            case measure => simp [intOf]
          · obtain rfl : j = 0 := by omega
            go_wp2_with fail
            go_roundw
            case rel => exact ⟨k + 1, HLT.out, by go_num, Lib.hid (HQ.out.trans HQx.out)⟩
            case measure => have := HLT.out; simp [intOf]; omega
      | _ :: _ :: _ => exact absurd HR1.out (by simp)
    · go_wp2_with fail
      go_ret
      exact ⟨rfl, HQ0.out.trans HQ.out⟩
end Go.Proofs.YtjmopbimleoidaaGreat.Ig

namespace Go.Proofs.YtjmopbimleoidaaGreat.Ig
open Go.RowKit Kit Tr Uf
open Go.Proofs.YtjmopbimleoidaaGreat.Hs (Keys Ints BoxT layI KeysP IntsP)
open Go.Proofs.YtjmopbimleoidaaGreat.Tm (Tm termAt of_any Box4)
set_option maxRecDepth 100000 in
set_option maxHeartbeats 8000000 in
theorem right_ex (R : List Int) (c : Cells) (P T : List (List Int)) (A S F Av D E Pa Ta : Option Addr) (cr k1 k2 k3 kp kt : Nat) (w : World) (hR0 : R = []) (hc0 : c = c2) (hP0 : P = [[], [2]]) (hT0 : T = [[], []]) (hk : Keys w w.heap.size A twoK)
    (hG : GRP w (fun _ => True) R c P T F Av D E Pa Ta cr k1 k2 k3 kp kt) :
    Calls Tryz.prog 31 #[.agg #[.slice A 4 4, .slice S 8 8], .agg #[.slice F R.length cr, .slice Av c.V.length k1, .slice D c.N.length k2, .slice E 0 k3, .slice Pa P.length kp, .slice Ta T.length kt]] w fun e w' => e = .returned (.bool true) ∧ Q w w' := by
  have q0 := ((Q.refl w).alloc (Obj.cells #[.slice A 4 4, .slice S 8 8] 26)).alloc (Obj.cells #[.slice F R.length cr, .slice Av c.V.length k1, .slice D c.N.length k2, .slice E 0 k3, .slice Pa P.length kp, .slice Ta T.length kt] 31)
  have HBa := Lib.hid ((BoxT.new w (.slice A 4 4) (.slice S 8 8) 26).q ((Q.refl _).alloc (Obj.cells #[.slice F R.length cr, .slice Av c.V.length k1, .slice D c.N.length k2, .slice E 0 k3, .slice Pa P.length kp, .slice Ta T.length kt] 31)))
  have X := Box6.new (w.alloc (Obj.cells #[.slice A 4 4, .slice S 8 8] 26)) (.slice F R.length cr) (.slice Av c.V.length k1) (.slice D c.N.length k2) (.slice E 0 k3) (.slice Pa P.length kp) (.slice Ta T.length kt) 31
  rw [World.size_alloc] at X
  have HBg := Lib.hid X
  have HG := Lib.hid hG
  have HQ0 := Lib.hid q0
  have HK := Lib.hid hk
  have HR0 := Lib.hid hR0
  have HC0 := Lib.hid hc0
  have HP0 := Lib.hid hP0
  have HT0 := Lib.hid hT0
  have HPl : Hid (P.length = c.V.length ∧ T.length = c.V.length ∧ c.V.length = 2 ∧ c.M.length = 0) := by unfold Hid; rw [hP0, hT0, hc0]; decide
  have CU : Hid (∀ U, Q w U → Calls Tryz.prog 70 #[.agg #[.slice Av c.V.length k1, .slice D c.N.length k2, .slice E 0 k3], .slice F R.length cr] U fun e w' => e = .returned (.bool true) ∧ Q U w') := fun U q =>
    rightU_true R c Av D E F _ k1 _ k2 0 k3 _ cr U rfl rfl HPl.out.2.2.2.symm rfl (HG.out.rd.q q) (HG.out.r.rds.q q) (by rw [HC0.out]; exact ⟨by decide, by decide, by decide⟩) (by rw [HC0.out, HR0.out]; exact cl2) (by rw [HC0.out]; decide)
  have HV2 : Hid (∀ (v : Nat) (hv : v < c.V.length), c.V[v] = (v : Int)) := by unfold Hid; rw [hc0]; decide
  have CP : Hid (∀ (B : Nat) (U : World), Q w U → BoxT U B (.slice A 4 4) (.slice S 8 8) → Box6 U (B + 1) (.slice F R.length cr) (.slice Av c.V.length k1) (.slice D c.N.length k2) (.slice E 0 k3) (.slice Pa P.length kp) (.slice Ta T.length kt) → Calls Tryz.prog 71 #[.agg #[.slice Av c.V.length k1, .slice D c.N.length k2, .slice E 0 k3], .slice Pa P.length kp, mayFn B] U fun e w' => e = .returned (.bool true) ∧ Q U w') := fun B U q b1 b2 =>
    areRows_one B c P Av D E Pa _ k1 _ k2 0 k3 _ kp U rfl (HG.out.v.rds.q q) rfl ((HG.out.p.keys.q (Nat.le_refl _) q).more q.size) HPl.out.1 (by have := HPl.out; omega) (by rw [HP0.out]; decide) HV2.out (fun v hv p W hp qW => by
      have hv1 : v = 1 ∧ p = 2 := by
        have hP := HP0.out
        subst hP
        match v, hv, hp with
        | 0, _, hp => simp at hp
        | 1, _, hp => exact ⟨rfl, by simpa using hp⟩
        | v + 2, hv, _ => exact absurd hv (by simp)
      obtain ⟨rfl, rfl⟩ := hv1
      have qq := q.trans qW
      exact mayVar_any B A S F Av Pa Ta 4 4 8 8 R.length cr c.V.length k1 P.length kp T.length kt (.slice D c.N.length k2) (.slice E 0 k3) R twoK 1 2 ⟨2, 0, 0, []⟩ W rfl ((HK.out.q (Nat.le_refl _) qq).more qq.size) (by decide) rfl (HG.out.r.rds.q qq) HPl.out.1 HPl.out.2.1 (b1.q qW) (b2.q qW) rfl rfl ⟨by decide, by have := HPl.out; show (0 : Int) < _; omega⟩ (by rw [HR0.out]; decide))
  have CS : Hid (∀ (B : Nat) (U : World), Q w U → Calls Tryz.prog 71 #[.agg #[.slice Av c.V.length k1, .slice D c.N.length k2, .slice E 0 k3], .slice Ta T.length kt, mayFn B] U fun e w' => e = .returned (.bool true) ∧ Q U w') := fun B U q =>
    areRows_one B c T Av D E Ta _ k1 _ k2 0 k3 _ kt U rfl (HG.out.v.rds.q q) rfl ((HG.out.t.keys.q (Nat.le_refl _) q).more q.size) HPl.out.2.1 (by have := HPl.out; omega) (by rw [HT0.out]; decide) HV2.out (fun v hv p W hp _ => by
      have hT := HT0.out
      subst hT
      match v, hv, hp with
      | 0, _, hp => simp at hp
      | 1, _, hp => simp at hp
      | v + 2, hv, _ => exact absurd hv (by simp))
  clear X q0 hG hk hR0 hc0 hP0 hT0
  unfold mayFn at CP CS
  go_enter Tryz.func31, Tryz.ntmps31
  go_upto_region 1 with fail
  generalize (w.alloc (Obj.cells #[.slice A 4 4, .slice S 8 8] 26)).alloc (Obj.cells #[.slice F R.length cr, .slice Av c.V.length k1, .slice D c.N.length k2, .slice E 0 k3, .slice Pa P.length kp, .slice Ta T.length kt] 31) = W0 at *
  have ALL : Hid (∀ U, Q W0 U → U.cell? ⟨w.heap.size, 0, none⟩ = some (.slice A 4 4) ∧ U.cell? ⟨w.heap.size, 1, none⟩ = some (.slice S 8 8) ∧ U.cell? ⟨w.heap.size + 1, 0, none⟩ = some (.slice F R.length cr) ∧ U.cell? ⟨w.heap.size + 1, 1, none⟩ = some (.slice Av c.V.length k1) ∧ U.cell? ⟨w.heap.size + 1, 2, none⟩ = some (.slice D c.N.length k2) ∧ U.cell? ⟨w.heap.size + 1, 3, none⟩ = some (.slice E 0 k3) ∧ U.cell? ⟨w.heap.size + 1, 4, none⟩ = some (.slice Pa P.length kp) ∧ U.cell? ⟨w.heap.size + 1, 5, none⟩ = some (.slice Ta T.length kt)) := fun U q => by
    have h1 := HBa.out.q q
    have h2 := HBg.out.q q
    exact ⟨h1.c0, h1.c1, h2.c0, h2.c1, h2.c2, h2.c3, h2.c4, h2.c5⟩
  obtain ⟨s0, s1, s2, s3, s4, s5, s6, s7⟩ := ALL.out W0 (Q.refl _)
  go_upto_region 3 with (go_at_call 70; refine (CU.out _ HQ0.out).mono ?_; rintro e w1 ⟨rfl, q1⟩; have HQ1 := Lib.hid q1; clear s0 s1 s2 s3 s4 s5 s6 s7 q1; obtain ⟨s0, s1, s2, s3, s4, s5, s6, s7⟩ := ALL.out w1 HQ1.out)
  go_region_held3 (fun w' => w'.cell? ⟨w.heap.size, 0, none⟩ = some (.slice A 4 4) ∧ w'.cell? ⟨w.heap.size, 1, none⟩ = some (.slice S 8 8) ∧ w'.cell? ⟨w.heap.size + 1, 0, none⟩ = some (.slice F R.length cr) ∧ w'.cell? ⟨w.heap.size + 1, 1, none⟩ = some (.slice Av c.V.length k1) ∧ w'.cell? ⟨w.heap.size + 1, 2, none⟩ = some (.slice D c.N.length k2) ∧ w'.cell? ⟨w.heap.size + 1, 3, none⟩ = some (.slice E 0 k3) ∧ w'.cell? ⟨w.heap.size + 1, 4, none⟩ = some (.slice Pa P.length kp) ∧ w'.cell? ⟨w.heap.size + 1, 5, none⟩ = some (.slice Ta T.length kt))
    (first
      | (with_reducible exact ALL.out _ p5)
      | (with_reducible exact ALL.out _ p4)
      | (with_reducible exact ALL.out _ p3)
      | (with_reducible exact ALL.out _ p2)
      | exact ⟨s0, s1, s2, s3, s4, s5, s6, s7⟩
      | go_keep)
    (first
      | (go_at_call 72; refine (inPre_any _ _ _ _ _ _ _ _ _).mono ?_; rintro e w2 ⟨B, rfl, hb1, hb2, q2⟩; unfold mayFn; have HB1 := Lib.hid hb1; have HB2 := Lib.hid hb2; have p2 : Q W0 w2 := HQ1.out.drew.trans q2; clear hb1 hb2 q2)
      | (go_at_call 71; (with_reducible refine (CP.out B w2 (HQ0.out.trans p2) HB1.out HB2.out).mono ?_); rintro e w3 ⟨rfl, q3⟩; have p3 : Q W0 w3 := p2.trans q3; clear q3)
      | (go_at_call 73; refine (inSuc_any _ _ _ _ _ _ _ _ _).mono ?_; rintro e w4 ⟨B', rfl, hb1, hb2, q4⟩; unfold mayFn; have p4 : Q W0 w4 := p3.trans q4; clear hb1 hb2 q4)
      | (go_at_call 71; (with_reducible refine (CS.out B' w4 (HQ0.out.trans p4)).mono ?_); rintro e w5 ⟨rfl, q5⟩; have p5 : Q W0 w5 := p4.trans q5; clear q5)
      | fail)
  go_wp2_with fail
  go_ret
  exact ⟨rfl, HQ0.out.trans p5⟩
end Go.Proofs.YtjmopbimleoidaaGreat.Ig

namespace Go.Proofs.YtjmopbimleoidaaGreat.Ig
open Go.RowKit Kit Tr Uf
open Go.Proofs.YtjmopbimleoidaaGreat.Hs (Keys Ints BoxT layI KeysP IntsP)
open Go.Proofs.YtjmopbimleoidaaGreat.Tm (Tm termAt of_any Box4)
/-- the example's graphs as values -/
def gv2 (F A D E Pa Ta : Option Addr) (cr k1 k2 k3 kp kt : Nat) : Value := .agg #[.slice F 0 cr, .slice A 2 k1, .slice D 2 k2, .slice E 0 k3, .slice Pa 2 kp, .slice Ta 2 kt]
def e2 : List (List Int) := [[], []]
def p2 : List (List Int) := [[], [2]]
set_option maxRecDepth 100000 in
set_option maxHeartbeats 4000000 in
theorem new_ex (w : World) : Calls Tryz.prog 29 #[.slice none 0 0, .int .i64 2] w fun e w' => ∃ F A D E Pa Ta cr k1 k2 k3 kp kt, e = .returned (gv2 F A D E Pa Ta cr k1 k2 k3 kp kt) ∧ GRP w' (fun _ => True) [] c2 e2 e2 F A D E Pa Ta cr k1 k2 k3 kp kt ∧ Q w w' := by
  have HX := Lib.hid (BoxW.new w (.slice none 0 0) (.slice none 0 0) (.slice none 0 0) (.slice none 0 0) (.slice none 0 0) (.slice none 0 0) 31)
  have HQ0 := Lib.hid ((Q.refl w).alloc (Obj.cells #[.slice none 0 0, .slice none 0 0, .slice none 0 0, .slice none 0 0, .slice none 0 0, .slice none 0 0] 31))
  go_enter Tryz.func29, Tryz.ntmps29
  go_upto_region 1 with fail
  have HZ : Hid ((w.alloc (Obj.cells #[.slice none 0 0, .slice none 0 0, .slice none 0 0, .slice none 0 0, .slice none 0 0, .slice none 0 0] 31)).heap.size = w.heap.size + 1) := by unfold Hid; simp
  generalize w.alloc (Obj.cells #[.slice none 0 0, .slice none 0 0, .slice none 0 0, .slice none 0 0, .slice none 0 0, .slice none 0 0] 31) = W0 at *
  have CM : Hid (Calls Tryz.prog 57 #[.agg #[.slice none 0 0, .slice none 0 0, .slice none 0 0, .slice none 0 0, .slice none 0 0, .slice none 0 0], .int .i64 2] W0 (GAns [] c2 e2 e2 W0)) :=
    more12 [] ⟨[], [], []⟩ [] [] none none none none none none 0 0 0 0 0 0 0 0 0 0 0 0 2 W0 rfl rfl rfl rfl rfl rfl (Tr.Rds.nil _ _ _) ⟨Tr.Rds.nil _ _ _, Tr.Rds.nil _ _ _, Tr.Rds.nil _ _ _, Nat.le_refl _, Nat.le_refl _, Nat.le_refl _⟩ (fun h => absurd h (by simp)) (fun h => absurd h (by simp)) (by simp) ⟨by simp, by simp, by simp⟩ (by simp) (by simp) (by simp) (by simp) (by omega)
  go_wp2_with (go_at_call 57; refine CM.out.mono ?_; rintro e w1 ⟨F1, A1, D1, E1, P1, T1, cr, k1, k2, k3, kp, kt, rfl, hg, q1⟩; rw [show gvP [] c2 e2 e2 F1 A1 D1 E1 P1 T1 cr k1 k2 k3 kp kt = gv2 F1 A1 D1 E1 P1 T1 cr k1 k2 k3 kp kt from rfl]; unfold gv2; have HG := Lib.hid hg; have HQ1 := Lib.hid q1; have hx := HX.out.q q1; have x0 := hx.c.c0; have x1 := hx.c.c1; have x2 := hx.c.c2; have x3 := hx.c.c3; have x4 := hx.c.c4; have x5 := hx.c.c5; have xf0 := hx.f0; have xf1 := hx.f1; have xf2 := hx.f2; have xf3 := hx.f3; have xf4 := hx.f4; have xf5 := hx.f5; clear hg q1 hx)
  clear x0 x1 x2 x3 x4 x5 xf0 xf1 xf2 xf3 xf4 xf5
  have bz := (HX.out.q HQ1.out).set (.slice F1 0 cr) (.slice A1 2 k1) (.slice D1 2 k2) (.slice E1 0 k3) (.slice P1 2 kp) (.slice T1 2 kt)
  have y0 := bz.c.c0
  have y1 := bz.c.c1
  have y2 := bz.c.c2
  have y3 := bz.c.c3
  have y4 := bz.c.c4
  have y5 := bz.c.c5
  have hgr := set6_grown w1 w.heap.size (.slice F1 0 cr) (.slice A1 2 k1) (.slice D1 2 k2) (.slice E1 0 k3) (.slice P1 2 kp) (.slice T1 2 kt)
  refine bodyPost_ret (v := gv2 F1 A1 D1 E1 P1 T1 cr k1 k2 k3 kp kt) (by unfold gv2; simp [results, Tryz.f29, go_sem, y0, y1, y2, y3, y4, y5]) rfl ⟨F1, A1, D1, E1, P1, T1, cr, k1, k2, k3, kp, kt, rfl, ?_, grown_q hgr (HQ0.out.trans HQ1.out) (Nat.le_refl _)⟩
  have hz := HZ.out
  exact HG.out.to (agree_grown (P := fun b => W0.heap.size ≤ b) hgr (by show ¬ W0.heap.size ≤ w.heap.size; omega)) (fun _ _ _ => trivial)

theorem right2_any (A S F Av D E Pa Ta : Option Addr) (cr k1 k2 k3 kp kt : Nat) (w : World) (hk : Keys w w.heap.size A twoK) (hG : GRP w (fun _ => True) [] c2 p2 e2 F Av D E Pa Ta cr k1 k2 k3 kp kt) :
    Calls Tryz.prog 31 #[.agg #[.slice A 4 4, .slice S 8 8], .agg #[.slice F 0 cr, .slice Av 2 k1, .slice D 2 k2, .slice E 0 k3, .slice Pa 2 kp, .slice Ta 2 kt]] w fun e w' => e = .returned (.bool true) ∧ Q w w' :=
  right_ex [] c2 p2 e2 A S F Av D E Pa Ta cr k1 k2 k3 kp kt w rfl rfl rfl rfl hk hG
theorem rep2_any (A S F Av D E Pa Ta : Option Addr) (cr k1 k2 k3 kp kt : Nat) (w : World) (hk : Keys w w.heap.size A twoK) (hS : Ints w w.heap.size S (layI twoK)) (hG : GRP w (fun _ => True) [] c2 p2 e2 F Av D E Pa Ta cr k1 k2 k3 kp kt) :
    Calls Tryz.prog 30 #[.agg #[.slice A 4 4, .slice S 8 8], .agg #[.slice F 0 cr, .slice Av 2 k1, .slice D 2 k2, .slice E 0 k3, .slice Pa 2 kp, .slice Ta 2 kt], .int .i64 3] w fun e w' => e = .returned (.int .i64 3) ∧ Q w w' := by
  have h := rep12 [] c2.V A S Av D E Pa Ta c2.N c2.M 4 4 8 8 2 k1 2 k2 0 k3 kp kt 2 2 (.slice F 0 cr) twoK 3 w rfl lay_two.symm hk hS okS_two rfl hG.rd rfl rfl cl2 (by decide) rfl rfl all_2
  rw [rep_3] at h
  exact h
theorem add2_any (A S F Av D E Pa Ta : Option Addr) (cr k1 k2 k3 kp kt : Nat) (w : World) (hk : Keys w w.heap.size A twoK) (hS : Ints w w.heap.size S (layI twoK)) (hG : GRP w (fun _ => True) [] c2 e2 e2 F Av D E Pa Ta cr k1 k2 k3 kp kt) :
    Calls Tryz.prog 27 #[.agg #[.slice A 4 4, .slice S 8 8], .agg #[.slice F 0 cr, .slice Av 2 k1, .slice D 2 k2, .slice E 0 k3, .slice Pa 2 kp, .slice Ta 2 kt], .agg #[.int .i64 2, .int .i64 3]] w fun e w' => ∃ F A D E Pa Ta cr k1 k2 k3 kp kt Al cl, e = .returned (.tuple #[gv2 F A D E Pa Ta cr k1 k2 k3 kp kt, .slice Al 0 cl, .bool true]) ∧ GRP w' (fun b => w.heap.size ≤ b) [] c2 p2 e2 F A D E Pa Ta cr k1 k2 k3 kp kt ∧ Q w w' :=
  add_ex [] c2 e2 e2 A S F Av D E Pa Ta cr k1 k2 k3 kp kt w rfl rfl rfl rfl hk hS hG

set_option maxRecDepth 100000 in
set_option maxHeartbeats 8000000 in
theorem shown12_any (w : World) : Calls Tryz.prog 8 #[] w fun e w' => e = .returned (.bool true) ∧ Q w w' := by
  go_enter Tryz.func8, Tryz.ntmps8
  go_upto_region 2 with (first
    | (go_at_call 28; refine (two_any _).mono ?_; rintro e w1 ⟨A1, S1, rfl, hk, hs, q1⟩; have HK := Lib.hid hk; have HS := Lib.hid hs; have HQ1 := Lib.hid q1; clear hk hs q1)
    | (go_at_call 29; refine (new_ex _).mono ?_; rintro e w2 ⟨F, A, D, E, Pa, Ta, cr, k1, k2, k3, kp, kt, rfl, hg, q2⟩; unfold gv2; have HG := Lib.hid hg; have HQ12 := Lib.hid q2; clear hg q2)
    | (go_at_call 27; refine (add2_any A1 S1 F A D E Pa Ta cr k1 k2 k3 kp kt w2 ((HK.out.q (Nat.le_refl _) HQ12.out).more HQ12.out.size) ((HS.out.q (Nat.le_refl _) HQ12.out).more HQ12.out.size) HG.out).mono ?_; rintro e w3 ⟨F3, A3, D3, E3, P3, T3, cr3, l1, l2, l3, lp, lt, Al, cl, rfl, hg3, q3⟩; unfold gv2; have HG3 := Lib.hid hg3; have HQ3 := Lib.hid ((HQ1.out.trans HQ12.out).trans q3); clear hg3 q3)
    | fail)
  have HB := Lib.hid (Box6.new w3 (.slice F3 0 cr3) (.slice A3 2 l1) (.slice D3 2 l2) (.slice E3 0 l3) (.slice P3 2 lp) (.slice T3 2 lt) 31)
  have HQ4 := Lib.hid (HQ3.out.alloc (Obj.cells #[.slice F3 0 cr3, .slice A3 2 l1, .slice D3 2 l2, .slice E3 0 l3, .slice P3 2 lp, .slice T3 2 lt] 31))
  have HG4 : Hid (GRP (w3.alloc (Obj.cells #[.slice F3 0 cr3, .slice A3 2 l1, .slice D3 2 l2, .slice E3 0 l3, .slice P3 2 lp, .slice T3 2 lt] 31)) (fun _ => True) [] c2 p2 e2 F3 A3 D3 E3 P3 T3 cr3 l1 l2 l3 lp lt) := Lib.hid (HG3.out.to (agree_q (P := fun b => w2.heap.size ≤ b) ((Q.refl w3).alloc _)) (fun _ _ _ => trivial))
  generalize w3.alloc (Obj.cells #[.slice F3 0 cr3, .slice A3 2 l1, .slice D3 2 l2, .slice E3 0 l3, .slice P3 2 lp, .slice T3 2 lt] 31) = W4 at *
  generalize w3.heap.size = B at *
  obtain ⟨pa, epa, hpb, Ar, cr5, hcr5, hp0, hri⟩ := HG4.out.p.keys.at_ (k := 1) (by decide)
  obtain ⟨ra, era, hrb, hr0⟩ := hri.at_ (k := 0) (by decide)
  have hp0' : W4.cell? ⟨pa.block, pa.off + 1, none⟩ = some (.slice (some ra) 1 cr5) := by rw [← era, ← show pa.add 1 = ⟨pa.block, pa.off + 1, none⟩ by simp [Addr.add]]; exact hp0
  have hr0' : W4.cell? ra = some (.int .i64 2) := by rw [show ra.add 0 = ra by simp [Addr.add]] at hr0; exact hr0
  subst epa
  have Hp0 := Lib.hid hp0'
  have Hr0 := Lib.hid hr0'
  have Hpb := Lib.hid hpb
  have Hrb := Lib.hid hrb
  clear hp0 hp0' hr0 hr0' hri hcr5 hpb hrb era
  have ALL : Hid (∀ U, Q W4 U → U.cell? ⟨B, 0, none⟩ = some (.slice F3 0 cr3) ∧ U.cell? ⟨B, 1, none⟩ = some (.slice A3 2 l1) ∧ U.cell? ⟨B, 2, none⟩ = some (.slice D3 2 l2) ∧ U.cell? ⟨B, 3, none⟩ = some (.slice E3 0 l3) ∧ U.cell? ⟨B, 4, none⟩ = some (.slice (some pa) 2 lp) ∧ U.cell? ⟨B, 5, none⟩ = some (.slice T3 2 lt) ∧ U.cell? ⟨pa.block, pa.off + 1, none⟩ = some (.slice (some ra) 1 cr5) ∧ U.cell? ra = some (.int .i64 2)) := fun U q => by
    have h := HB.out.q q
    exact ⟨h.c0, h.c1, h.c2, h.c3, h.c4, h.c5, (q.cell (p := ⟨pa.block, pa.off + 1, none⟩) Hpb.out).trans Hp0.out, (q.cell (p := ra) Hrb.out).trans Hr0.out⟩
  obtain ⟨s0, s1, s2, s3, s4, s5, s6, s7⟩ := ALL.out W4 (Q.refl _)
  have GU : Hid (∀ U, Q W4 U → GRP U (fun _ => True) [] c2 p2 e2 F3 A3 D3 E3 (some pa) T3 cr3 l1 l2 l3 lp lt) := fun U q => HG4.out.to (agree_q (P := fun _ => True) q) (fun _ _ _ => trivial)
  go_region_held3 (fun w' => w'.cell? ⟨B, 0, none⟩ = some (.slice F3 0 cr3) ∧ w'.cell? ⟨B, 1, none⟩ = some (.slice A3 2 l1) ∧ w'.cell? ⟨B, 2, none⟩ = some (.slice D3 2 l2) ∧ w'.cell? ⟨B, 3, none⟩ = some (.slice E3 0 l3) ∧ w'.cell? ⟨B, 4, none⟩ = some (.slice (some pa) 2 lp) ∧ w'.cell? ⟨B, 5, none⟩ = some (.slice T3 2 lt) ∧ w'.cell? ⟨pa.block, pa.off + 1, none⟩ = some (.slice (some ra) 1 cr5) ∧ w'.cell? ra = some (.int .i64 2))
    (first
      | (with_reducible exact ALL.out _ p8)
      | (with_reducible exact ALL.out _ p7)
      | (with_reducible exact ALL.out _ p6)
      | (with_reducible exact ALL.out _ p5)
      | exact ⟨s0, s1, s2, s3, s4, s5, s6, s7⟩
      | go_keep)
    (first
      | (go_at_call 28; (with_reducible refine (two_any W4.drew).mono ?_); rintro e w5 ⟨A5, S5, rfl, hk, hs, q5⟩; have HK5 := Lib.hid hk; have HS5 := Lib.hid hs; have p5 : Q W4 w5 := (Q.refl W4).drew.trans q5; clear hk hs q5)
      | (go_at_call 30; (with_reducible refine (rep2_any A5 S5 F3 A3 D3 E3 (some pa) T3 cr3 l1 l2 l3 lp lt w5 HK5.out HS5.out (GU.out _ p5)).mono ?_); rintro e w6 ⟨rfl, q6⟩; have p6 : Q W4 w6 := p5.trans q6; clear q6)
      | (go_at_call 28; (with_reducible refine (two_any w6).mono ?_); rintro e w7 ⟨A7, S7, rfl, hk, hs, q7⟩; have HK7 := Lib.hid hk; have p7 : Q W4 w7 := p6.trans q7; clear hk hs q7)
      | (go_at_call 31; (with_reducible refine (right2_any A7 S7 F3 A3 D3 E3 (some pa) T3 cr3 l1 l2 l3 lp lt w7 HK7.out (GU.out _ p7)).mono ?_); rintro e w8 ⟨rfl, q8⟩; have p8 : Q W4 w8 := p7.trans q8; clear q8)
      | fail)
  go_wp2_with fail
  go_ret
  exact ⟨rfl, HQ4.out.trans p8⟩
end Go.Proofs.YtjmopbimleoidaaGreat.Ig

namespace Go.Proofs.YtjmopbimleoidaaGreat.ifgOnes
open Go.ChangeShapes Go.WideShapes Go.ChangeAt Go.RowKit Kit Rw Ex Ig Tr Uf
open Go.Proofs.YtjmopbimleoidaaGreat.Sg (Sig Row Sized)
open Go.Proofs.YtjmopbimleoidaaGreat.Hs (Ints Keys BoxT layI KeysP IntsP)
open Go.Proofs.YtjmopbimleoidaaGreat.St (cellsQ sameQ sameQ_iff refPairsEq_any PI)
/-- what One makes of a graph -/
theorem one_both {R : List Int} {c : Cells} {P T : List (List Int)} {ks : List (List Int)} {A S F Av D E Pa Ta : Option Addr} {ca d cr k1 k2 k3 kp kt : Nat} {w : World} {a b : Nat} (hk : Keys w w.heap.size A ks) (hS : Ints w w.heap.size S (layI ks)) (hO : OkS ks) (hG : GArg w R c P T F Av D E Pa Ta k1 k2 k3) (hl : (R.length ≤ 1000 ∧ Few c 1000 ∧ P.length ≤ 1000 ∧ T.length ≤ 1000 ∧ (∀ k ∈ P, k.length ≤ 1000) ∧ (∀ k ∈ T, k.length ≤ 1000))) (hC : Cl R c.V) (hp : P.length = c.V.length) (ht : T.length = c.V.length) (hA : allV ks c.V.length = true) (ha : a < c.V.length) (hb : b < c.V.length) :
    ∃ c2 P2 T2 l2, (fst c.V a = fst c.V b → c2 = c ∧ P2 = P ∧ T2 = T ∧ l2 = []) ∧ (fst c.V a ≠ fst c.V b → c2 = joinC R c a b ∧ P2 = P.set (hi R c.V a b) [] ∧ T2 = T.set (hi R c.V a b) [] ∧ l2 = comeV ks (joinC R c a b).V (rowG P (hi R c.V a b)) (rowG T (hi R c.V a b)) (atV ks (lo R c.V a b : Int))) ∧
      (∀ U, Q w U → Calls Tryz.prog 10 #[.agg #[.slice A ks.length ca, .slice S (layI ks).length d], .agg #[.slice F R.length cr, .slice Av c.V.length k1, .slice D c.N.length k2, .slice E c.M.length k3, .slice Pa P.length kp, .slice Ta T.length kt], .int .i64 (a : Int), .int .i64 (b : Int)] U (OneAns R c2 P2 T2 l2 U)) ∧
      (∀ U, Q w U → Calls Tryz.prog 11 #[.agg #[.slice A ks.length ca, .slice S (layI ks).length d], .agg #[.slice F R.length cr, .slice Av c.V.length k1, .slice D c.N.length k2, .slice E c.M.length k3, .slice Pa P.length kp, .slice Ta T.length kt], .int .i64 (a : Int), .int .i64 (b : Int)] U (OneRef (fun x => x < w.heap.size) R c2 P2 T2 l2 U)) ∧
      Few c2 1001 ∧ P2.length ≤ 1000 ∧ T2.length ≤ 1000 ∧ (∀ k ∈ P2, k.length ≤ 1000) ∧ (∀ k ∈ T2, k.length ≤ 1000) ∧ l2.length ≤ 2000 := by
  obtain ⟨h1, h2, h3, h4, h5, h6⟩ := hl
  have hC1 : ∀ U, Q w U → _ := fun U q => one12 R c P T A S F Av D E Pa Ta ks.length ca (layI ks).length d R.length cr c.V.length k1 c.N.length k2 c.M.length k3 P.length kp T.length kt ks a b U rfl rfl ((hk.q (Nat.le_refl _) q).more q.size) ((hS.q (Nat.le_refl _) q).more q.size) hO rfl rfl rfl rfl rfl rfl (hG.r.q q) (hG.u.q q) ((hG.p.q (Nat.le_refl _) q).more q.size) ((hG.t.q (Nat.le_refl _) q).more q.size) (by omega) ⟨by have := h2.1; omega, by have := h2.2.1; omega, by have := h2.2.2; omega⟩ hp ht (fun k hk => Nat.le_trans (h5 k hk) (by omega)) (fun k hk => Nat.le_trans (h6 k hk) (by omega)) hC ha hb hA
  have hg : GRQ w (fun x => x < w.heap.size) R c P T F Av D E Pa Ta k1 k2 k3 := by
    have go : ∀ {A0 : Option Addr} {cs : List Value}, Tr.Rds w w.heap.size A0 cs → RdsP w (fun x => x < w.heap.size) A0 cs := fun h h0 => by
      obtain ⟨ad, e, hb, hc⟩ := h h0
      exact ⟨ad, e, hb, hb, hc⟩
    exact ⟨go hG.r, go hG.u.v, go hG.u.n, go hG.u.m, Hs.Keys.p hG.p (Nat.le_refl _) (fun b hb => hb), Hs.Keys.p hG.t (Nat.le_refl _) (fun b hb => hb), hG.u.lv, hG.u.ln, hG.u.lm⟩
  have hC2 : ∀ U, Q w U → _ := fun U q => refOne12_any (fun x => x < w.heap.size) R c P T A S F Av D E Pa Ta ks.length ca (layI ks).length d cr k1 k2 k3 kp kt ks a b U rfl ((hk.q (Nat.le_refl _) q).more q.size) (by have := hO.len; unfold maxLen; omega) (fun k hk => by have := hO.key k hk; unfold maxLen; omega) (hg.q q) (fun b hb => Nat.lt_of_lt_of_le hb q.size) ⟨by have := h2.1; omega, by have := h2.2.1; omega, by have := h2.2.2; omega⟩ hp ht (fun k hk => Nat.le_trans (h5 k hk) (by omega)) (fun k hk => Nat.le_trans (h6 k hk) (by omega)) hC ha hb
  have hset : ∀ {Z : List (List Int)} {i : Nat}, (∀ k ∈ Z, k.length ≤ 1000) → ∀ k ∈ Z.set i [], k.length ≤ 1000 := fun h k hk => by
    rcases List.mem_or_eq_of_mem_set hk with h' | rfl
    · exact h k h'
    · simp
  have hrow : ∀ {Z : List (List Int)} {i : Nat}, (∀ k ∈ Z, k.length ≤ 1000) → (rowG Z i).length ≤ 1000 := fun {Z i} h => by
    unfold rowG
    by_cases hi : i < Z.length
    · rw [rows_at hi]; exact h _ (List.getElem_mem _)
    · rw [List.getD_eq_getElem?_getD, List.getElem?_eq_none (by omega)]; simp
  by_cases e : fst c.V a = fst c.V b
  · refine ⟨c, P, T, [], fun _ => ⟨rfl, rfl, rfl, rfl⟩, fun h => absurd e h, fun U q => ?_, fun U q => ?_, ⟨by have := h2.1; omega, by have := h2.2.1; omega, by have := h2.2.2; omega⟩, h3, h4, h5, h6, by simp⟩
    · have := hC1 U q; rwa [if_pos e] at this
    · have := hC2 U q; rwa [if_pos e] at this
  · refine ⟨_, _, _, _, fun h => absurd h e, fun _ => ⟨rfl, rfl, rfl, rfl⟩, fun U q => ?_, fun U q => ?_, few_join a b h2 (by omega), by rw [List.length_set]; exact h3, by rw [List.length_set]; exact h4, hset h5, hset h6, ?_⟩
    · have := hC1 U q; rwa [if_neg e] at this
    · have := hC2 U q; rwa [if_neg e] at this
    · unfold comeV
      rw [List.length_append, List.length_map, List.length_map]
      have := hrow (i := hi R c.V a b) h5
      have := hrow (i := hi R c.V a b) h6
      omega
set_option maxRecDepth 100000 in
set_option maxHeartbeats 16000000 in
theorem walk (L0 A S F Av D E Pa Ta : Option Addr) (nl cl n ca m d cr k1 k2 k3 kp kt : Nat) (l : List Sig) (ks : List (List Int)) (sl : List Int) (R : List Int) (c : Cells) (P T : List (List Int)) (x y : Int) (w : World) (hnl : nl = l.length) (hr : Row w w.heap.size L0 l) (hll : l.length ≤ maxLen) (hsz : Sized l) (hn : n = ks.length) (hm : m = sl.length) (hk : Keys w w.heap.size A ks) (hSi : Ints w w.heap.size S sl) (hl : ks.length ≤ 1152921504606846976) (hs : ∀ k ∈ ks, k.length ≤ 1152921504606846976) (hsl : sl.length ≤ 1152921504606846976) (hG : GArg w R c P T F Av D E Pa Ta k1 k2 k3) :
    Calls Tryz.prog 3 #[.agg #[.slice L0 nl cl, .slice A n ca, .slice S m d, .slice F R.length cr, .slice Av c.V.length k1, .slice D c.N.length k2, .slice E c.M.length k3, .slice Pa P.length kp, .slice Ta T.length kt, .int .i64 x, .int .i64 y]] w fun e w' => e = .returned (.bool true) ∧ Q w w' := by
  subst hnl hn hm
  have HQ0 := Lib.hid ((((Q.refl w).alloc (Obj.cells #[.slice L0 l.length cl, .slice A ks.length ca, .slice S sl.length d, .slice F R.length cr, .slice Av c.V.length k1, .slice D c.N.length k2, .slice E c.M.length k3, .slice Pa P.length kp, .slice Ta T.length kt, .int .i64 x, .int .i64 y] 33)).alloc (Obj.cells #[Value.slice A ks.length ca, Value.slice S sl.length d] 26)).alloc (Obj.cells #[.slice F R.length cr, .slice Av c.V.length k1, .slice D c.N.length k2, .slice E c.M.length k3, .slice Pa P.length kp, .slice Ta T.length kt] 31))
  have HX := Lib.hid (own_new8 w [.slice L0 l.length cl, .slice A ks.length ca, .slice S sl.length d, .slice F R.length cr, .slice Av c.V.length k1, .slice D c.N.length k2, .slice E c.M.length k3, .slice Pa P.length kp, .slice Ta T.length kt, .int .i64 x, .int .i64 y] 33)
  have HT := Lib.hid ((BoxT.new (w.alloc (Obj.cells #[.slice L0 l.length cl, .slice A ks.length ca, .slice S sl.length d, .slice F R.length cr, .slice Av c.V.length k1, .slice D c.N.length k2, .slice E c.M.length k3, .slice Pa P.length kp, .slice Ta T.length kt, .int .i64 x, .int .i64 y] 33)) (Value.slice A ks.length ca) (Value.slice S sl.length d) 26).q ((Q.refl _).alloc (Obj.cells #[.slice F R.length cr, .slice Av c.V.length k1, .slice D c.N.length k2, .slice E c.M.length k3, .slice Pa P.length kp, .slice Ta T.length kt] 31)))
  have HG6 := Lib.hid (Box6.new ((w.alloc (Obj.cells #[.slice L0 l.length cl, .slice A ks.length ca, .slice S sl.length d, .slice F R.length cr, .slice Av c.V.length k1, .slice D c.N.length k2, .slice E c.M.length k3, .slice Pa P.length kp, .slice Ta T.length kt, .int .i64 x, .int .i64 y] 33)).alloc (Obj.cells #[Value.slice A ks.length ca, Value.slice S sl.length d] 26)) (.slice F R.length cr) (.slice Av c.V.length k1) (.slice D c.N.length k2) (.slice E c.M.length k3) (.slice Pa P.length kp) (.slice Ta T.length kt) 31)
  have HRow := Lib.hid hr
  have HKy := Lib.hid hk
  have HSl := Lib.hid hSi
  have HGa := Lib.hid hG
  have CF := Lib.hid (fun (U : World) (p : Q w U) => of12_any L0 A S F Av D E Pa Ta l.length cl ks.length ca sl.length d R.length cr c.V.length k1 c.N.length k2 c.M.length k3 P.length kp T.length kt l ks sl R c P T U rfl ((hr.q (Nat.le_refl _) p).more p.size) rfl rfl ((hk.q (Nat.le_refl _) p).more p.size) ((hSi.q (Nat.le_refl _) p).more p.size) hll hsz hl hs hsl rfl rfl rfl rfl rfl rfl ((hG.r.q p)) (hG.u.q p) ((hG.p.q (Nat.le_refl _) p).more p.size) ((hG.t.q (Nat.le_refl _) p).more p.size) hG.lR hG.lU.1 hG.lU.2.1 hG.lU.2.2 hG.lP hG.lT hG.sP hG.sT)
  clear hr hll hsz hk hSi hl hs hsl hG
  cases hof : of12B l ks sl R c P T
  · rw [hof] at CF
    clear hof HKy HSl HGa HRow
    go_enter Tryz.func3, Tryz.ntmps3
    go_upto_region 1 with fail
    generalize hW : w.alloc (Obj.cells #[.slice L0 l.length cl, .slice A ks.length ca, .slice S sl.length d, .slice F R.length cr, .slice Av c.V.length k1, .slice D c.N.length k2, .slice E c.M.length k3, .slice Pa P.length kp, .slice Ta T.length kt, .int .i64 x, .int .i64 y] 33) = W at *
    clear hW
    have x0 := (HX.out.2 0 _ rfl).1
    have x1 := (HX.out.2 1 _ rfl).1
    have x2 := (HX.out.2 2 _ rfl).1
    have HX2 := Lib.hid (HX.out.q ((Q.refl W).alloc (Obj.cells #[Value.slice A ks.length ca, Value.slice S sl.length d] 26)))
    go_upto_region 3 with fail
    generalize hV : W.alloc (Obj.cells #[Value.slice A ks.length ca, Value.slice S sl.length d] 26) = V at *
    clear hV x0 x1 x2
    have x3 := (HX2.out.2 3 _ rfl).1
    have x4 := (HX2.out.2 4 _ rfl).1
    have x5 := (HX2.out.2 5 _ rfl).1
    have x6 := (HX2.out.2 6 _ rfl).1
    have x7 := (HX2.out.2 7 _ rfl).1
    have x8 := (HX2.out.2 8 _ rfl).1
    have HX3 := Lib.hid (HX2.out.q ((Q.refl V).alloc (Obj.cells #[.slice F R.length cr, .slice Av c.V.length k1, .slice D c.N.length k2, .slice E c.M.length k3, .slice Pa P.length kp, .slice Ta T.length kt] 31)))
    go_upto_region 4 with fail
    generalize hU : V.alloc (Obj.cells #[.slice F R.length cr, .slice Av c.V.length k1, .slice D c.N.length k2, .slice E c.M.length k3, .slice Pa P.length kp, .slice Ta T.length kt] 31) = U at *
    clear hU x3 x4 x5 x6 x7 x8
    have x9 := (HX3.out.2 9 _ rfl).1
    have x10 := (HX3.out.2 10 _ rfl).1
    go_upto_region 6 with fail
    clear x9 x10
    have ALL : Hid (∀ U', Q U U' → U'.cell? ⟨W.heap.size, 0, none⟩ = some (.slice A ks.length ca) ∧ U'.cell? ⟨W.heap.size, 1, none⟩ = some (.slice S sl.length d) ∧ U'.cell? ⟨V.heap.size, 0, none⟩ = some (.slice F R.length cr) ∧ U'.cell? ⟨V.heap.size, 1, none⟩ = some (.slice Av c.V.length k1) ∧ U'.cell? ⟨V.heap.size, 2, none⟩ = some (.slice D c.N.length k2) ∧ U'.cell? ⟨V.heap.size, 3, none⟩ = some (.slice E c.M.length k3) ∧ U'.cell? ⟨V.heap.size, 4, none⟩ = some (.slice Pa P.length kp) ∧ U'.cell? ⟨V.heap.size, 5, none⟩ = some (.slice Ta T.length kt)) := fun U' q => by
      have h1 := HT.out.q q
      have h2 := HG6.out.q q
      exact ⟨h1.c0, h1.c1, h2.c0, h2.c1, h2.c2, h2.c3, h2.c4, h2.c5⟩
    obtain ⟨s0, s1, s2, s3, s4, s5, s6, s7⟩ := ALL.out U (Q.refl _)
    have HQ1 : Hid (Q U U) := Lib.hid (Q.refl _)
    go_wp2_with (first
      | (go_at_call 8; (with_reducible refine (shown12_any U).mono ?_); rintro e w2 ⟨rfl, q1⟩; have HQ2 := Lib.hid (HQ1.out.trans q1); clear s0 s1 s2 s3 s4 s5 s6 s7 q1; obtain ⟨s0, s1, s2, s3, s4, s5, s6, s7⟩ := ALL.out w2 HQ2.out)
      | (go_at_call 9; (with_reducible refine (CF.out w2 (HQ0.out.trans HQ2.out)).mono ?_); rintro e w3 ⟨rfl, q2⟩; have HQ3 := Lib.hid (HQ2.out.trans q2); clear s0 s1 s2 s3 s4 s5 s6 s7 q2; obtain ⟨s0, s1, s2, s3, s4, s5, s6, s7⟩ := ALL.out w3 HQ3.out)
      | fail)
    go_ret
    exact ⟨rfl, HQ0.out.trans HQ3.out⟩
  · rw [hof] at CF
    obtain ⟨hO, hsl, hfew, hC, hp, ht, g6, hA⟩ := of12_plain hof
    clear hof g6
    by_cases h0 : x < 0
    · have d0 : decide (x < 0) = true := decide_eq_true h0
      clear hO hsl hfew hC hp ht hA h0 HKy HSl HGa HRow
      go_enter Tryz.func3, Tryz.ntmps3
      go_upto_region 1 with fail
      generalize hW : w.alloc (Obj.cells #[.slice L0 l.length cl, .slice A ks.length ca, .slice S sl.length d, .slice F R.length cr, .slice Av c.V.length k1, .slice D c.N.length k2, .slice E c.M.length k3, .slice Pa P.length kp, .slice Ta T.length kt, .int .i64 x, .int .i64 y] 33) = W at *
      clear hW
      have x0 := (HX.out.2 0 _ rfl).1
      have x1 := (HX.out.2 1 _ rfl).1
      have x2 := (HX.out.2 2 _ rfl).1
      have HX2 := Lib.hid (HX.out.q ((Q.refl W).alloc (Obj.cells #[Value.slice A ks.length ca, Value.slice S sl.length d] 26)))
      go_upto_region 3 with fail
      generalize hV : W.alloc (Obj.cells #[Value.slice A ks.length ca, Value.slice S sl.length d] 26) = V at *
      clear hV x0 x1 x2
      have x3 := (HX2.out.2 3 _ rfl).1
      have x4 := (HX2.out.2 4 _ rfl).1
      have x5 := (HX2.out.2 5 _ rfl).1
      have x6 := (HX2.out.2 6 _ rfl).1
      have x7 := (HX2.out.2 7 _ rfl).1
      have x8 := (HX2.out.2 8 _ rfl).1
      have HX3 := Lib.hid (HX2.out.q ((Q.refl V).alloc (Obj.cells #[.slice F R.length cr, .slice Av c.V.length k1, .slice D c.N.length k2, .slice E c.M.length k3, .slice Pa P.length kp, .slice Ta T.length kt] 31)))
      go_upto_region 4 with fail
      generalize hU : V.alloc (Obj.cells #[.slice F R.length cr, .slice Av c.V.length k1, .slice D c.N.length k2, .slice E c.M.length k3, .slice Pa P.length kp, .slice Ta T.length kt] 31) = U at *
      clear hU x3 x4 x5 x6 x7 x8
      have x9 := (HX3.out.2 9 _ rfl).1
      have x10 := (HX3.out.2 10 _ rfl).1
      go_upto_region 6 with fail
      clear x9 x10
      have ALL : Hid (∀ U', Q U U' → U'.cell? ⟨W.heap.size, 0, none⟩ = some (.slice A ks.length ca) ∧ U'.cell? ⟨W.heap.size, 1, none⟩ = some (.slice S sl.length d) ∧ U'.cell? ⟨V.heap.size, 0, none⟩ = some (.slice F R.length cr) ∧ U'.cell? ⟨V.heap.size, 1, none⟩ = some (.slice Av c.V.length k1) ∧ U'.cell? ⟨V.heap.size, 2, none⟩ = some (.slice D c.N.length k2) ∧ U'.cell? ⟨V.heap.size, 3, none⟩ = some (.slice E c.M.length k3) ∧ U'.cell? ⟨V.heap.size, 4, none⟩ = some (.slice Pa P.length kp) ∧ U'.cell? ⟨V.heap.size, 5, none⟩ = some (.slice Ta T.length kt)) := fun U' q => by
        have h1 := HT.out.q q
        have h2 := HG6.out.q q
        exact ⟨h1.c0, h1.c1, h2.c0, h2.c1, h2.c2, h2.c3, h2.c4, h2.c5⟩
      obtain ⟨s0, s1, s2, s3, s4, s5, s6, s7⟩ := ALL.out U (Q.refl _)
      have HQ1 : Hid (Q U U) := Lib.hid (Q.refl _)
      go_wp2_with (first
        | (go_at_call 8; (with_reducible refine (shown12_any U).mono ?_); rintro e w2 ⟨rfl, q1⟩; have HQ2 := Lib.hid (HQ1.out.trans q1); clear s0 s1 s2 s3 s4 s5 s6 s7 q1; obtain ⟨s0, s1, s2, s3, s4, s5, s6, s7⟩ := ALL.out w2 HQ2.out)
        | (go_at_call 9; (with_reducible refine (CF.out w2 (HQ0.out.trans HQ2.out)).mono ?_); rintro e w3 ⟨rfl, q2⟩; have HQ3 := Lib.hid (HQ2.out.trans q2); clear s0 s1 s2 s3 s4 s5 s6 s7 q2; obtain ⟨s0, s1, s2, s3, s4, s5, s6, s7⟩ := ALL.out w3 HQ3.out)
        | fail)
      go_ret
      exact ⟨rfl, HQ0.out.trans HQ3.out⟩
    · have d0 : decide (x < 0) = false := decide_eq_false h0
      obtain ⟨a, ha⟩ := Int.eq_ofNat_of_zero_le (by omega : 0 ≤ x)
      have ha : x = (a : Int) := ha
      subst ha
      by_cases h1 : c.V.length ≤ a
      · have d1 : decide ((c.V.length : Int) ≤ (a : Int)) = true := decide_eq_true (by omega)
        have d2 : decide (c.V.length ≤ a) = true := decide_eq_true h1
        clear hO hsl hfew hC hp ht hA h0 h1 HKy HSl HGa HRow
        go_enter Tryz.func3, Tryz.ntmps3
        go_upto_region 1 with fail
        generalize hW : w.alloc (Obj.cells #[.slice L0 l.length cl, .slice A ks.length ca, .slice S sl.length d, .slice F R.length cr, .slice Av c.V.length k1, .slice D c.N.length k2, .slice E c.M.length k3, .slice Pa P.length kp, .slice Ta T.length kt, .int .i64 (a : Int), .int .i64 y] 33) = W at *
        clear hW
        have x0 := (HX.out.2 0 _ rfl).1
        have x1 := (HX.out.2 1 _ rfl).1
        have x2 := (HX.out.2 2 _ rfl).1
        have HX2 := Lib.hid (HX.out.q ((Q.refl W).alloc (Obj.cells #[Value.slice A ks.length ca, Value.slice S sl.length d] 26)))
        go_upto_region 3 with fail
        generalize hV : W.alloc (Obj.cells #[Value.slice A ks.length ca, Value.slice S sl.length d] 26) = V at *
        clear hV x0 x1 x2
        have x3 := (HX2.out.2 3 _ rfl).1
        have x4 := (HX2.out.2 4 _ rfl).1
        have x5 := (HX2.out.2 5 _ rfl).1
        have x6 := (HX2.out.2 6 _ rfl).1
        have x7 := (HX2.out.2 7 _ rfl).1
        have x8 := (HX2.out.2 8 _ rfl).1
        have HX3 := Lib.hid (HX2.out.q ((Q.refl V).alloc (Obj.cells #[.slice F R.length cr, .slice Av c.V.length k1, .slice D c.N.length k2, .slice E c.M.length k3, .slice Pa P.length kp, .slice Ta T.length kt] 31)))
        go_upto_region 4 with fail
        generalize hU : V.alloc (Obj.cells #[.slice F R.length cr, .slice Av c.V.length k1, .slice D c.N.length k2, .slice E c.M.length k3, .slice Pa P.length kp, .slice Ta T.length kt] 31) = U at *
        clear hU x3 x4 x5 x6 x7 x8
        have x9 := (HX3.out.2 9 _ rfl).1
        have x10 := (HX3.out.2 10 _ rfl).1
        go_upto_region 6 with fail
        clear x9 x10
        have ALL : Hid (∀ U', Q U U' → U'.cell? ⟨W.heap.size, 0, none⟩ = some (.slice A ks.length ca) ∧ U'.cell? ⟨W.heap.size, 1, none⟩ = some (.slice S sl.length d) ∧ U'.cell? ⟨V.heap.size, 0, none⟩ = some (.slice F R.length cr) ∧ U'.cell? ⟨V.heap.size, 1, none⟩ = some (.slice Av c.V.length k1) ∧ U'.cell? ⟨V.heap.size, 2, none⟩ = some (.slice D c.N.length k2) ∧ U'.cell? ⟨V.heap.size, 3, none⟩ = some (.slice E c.M.length k3) ∧ U'.cell? ⟨V.heap.size, 4, none⟩ = some (.slice Pa P.length kp) ∧ U'.cell? ⟨V.heap.size, 5, none⟩ = some (.slice Ta T.length kt)) := fun U' q => by
          have h1 := HT.out.q q
          have h2 := HG6.out.q q
          exact ⟨h1.c0, h1.c1, h2.c0, h2.c1, h2.c2, h2.c3, h2.c4, h2.c5⟩
        obtain ⟨s0, s1, s2, s3, s4, s5, s6, s7⟩ := ALL.out U (Q.refl _)
        have HQ1 : Hid (Q U U) := Lib.hid (Q.refl _)
        go_wp2_with (first
          | (go_at_call 8; (with_reducible refine (shown12_any U).mono ?_); rintro e w2 ⟨rfl, q1⟩; have HQ2 := Lib.hid (HQ1.out.trans q1); clear s0 s1 s2 s3 s4 s5 s6 s7 q1; obtain ⟨s0, s1, s2, s3, s4, s5, s6, s7⟩ := ALL.out w2 HQ2.out)
          | (go_at_call 9; (with_reducible refine (CF.out w2 (HQ0.out.trans HQ2.out)).mono ?_); rintro e w3 ⟨rfl, q2⟩; have HQ3 := Lib.hid (HQ2.out.trans q2); clear s0 s1 s2 s3 s4 s5 s6 s7 q2; obtain ⟨s0, s1, s2, s3, s4, s5, s6, s7⟩ := ALL.out w3 HQ3.out)
          | fail)
        go_ret
        exact ⟨rfl, HQ0.out.trans HQ3.out⟩
      · have d1 : decide ((c.V.length : Int) ≤ (a : Int)) = false := decide_eq_false (by omega)
        have d2 : decide (c.V.length ≤ a) = false := decide_eq_false h1
        by_cases h2 : y < 0
        · have d3 : decide (y < 0) = true := decide_eq_true h2
          clear hO hsl hfew hC hp ht hA h0 h1 h2 HKy HSl HGa HRow
          go_enter Tryz.func3, Tryz.ntmps3
          go_upto_region 1 with fail
          generalize hW : w.alloc (Obj.cells #[.slice L0 l.length cl, .slice A ks.length ca, .slice S sl.length d, .slice F R.length cr, .slice Av c.V.length k1, .slice D c.N.length k2, .slice E c.M.length k3, .slice Pa P.length kp, .slice Ta T.length kt, .int .i64 (a : Int), .int .i64 y] 33) = W at *
          clear hW
          have x0 := (HX.out.2 0 _ rfl).1
          have x1 := (HX.out.2 1 _ rfl).1
          have x2 := (HX.out.2 2 _ rfl).1
          have HX2 := Lib.hid (HX.out.q ((Q.refl W).alloc (Obj.cells #[Value.slice A ks.length ca, Value.slice S sl.length d] 26)))
          go_upto_region 3 with fail
          generalize hV : W.alloc (Obj.cells #[Value.slice A ks.length ca, Value.slice S sl.length d] 26) = V at *
          clear hV x0 x1 x2
          have x3 := (HX2.out.2 3 _ rfl).1
          have x4 := (HX2.out.2 4 _ rfl).1
          have x5 := (HX2.out.2 5 _ rfl).1
          have x6 := (HX2.out.2 6 _ rfl).1
          have x7 := (HX2.out.2 7 _ rfl).1
          have x8 := (HX2.out.2 8 _ rfl).1
          have HX3 := Lib.hid (HX2.out.q ((Q.refl V).alloc (Obj.cells #[.slice F R.length cr, .slice Av c.V.length k1, .slice D c.N.length k2, .slice E c.M.length k3, .slice Pa P.length kp, .slice Ta T.length kt] 31)))
          go_upto_region 4 with fail
          generalize hU : V.alloc (Obj.cells #[.slice F R.length cr, .slice Av c.V.length k1, .slice D c.N.length k2, .slice E c.M.length k3, .slice Pa P.length kp, .slice Ta T.length kt] 31) = U at *
          clear hU x3 x4 x5 x6 x7 x8
          have x9 := (HX3.out.2 9 _ rfl).1
          have x10 := (HX3.out.2 10 _ rfl).1
          go_upto_region 6 with fail
          clear x9 x10
          have ALL : Hid (∀ U', Q U U' → U'.cell? ⟨W.heap.size, 0, none⟩ = some (.slice A ks.length ca) ∧ U'.cell? ⟨W.heap.size, 1, none⟩ = some (.slice S sl.length d) ∧ U'.cell? ⟨V.heap.size, 0, none⟩ = some (.slice F R.length cr) ∧ U'.cell? ⟨V.heap.size, 1, none⟩ = some (.slice Av c.V.length k1) ∧ U'.cell? ⟨V.heap.size, 2, none⟩ = some (.slice D c.N.length k2) ∧ U'.cell? ⟨V.heap.size, 3, none⟩ = some (.slice E c.M.length k3) ∧ U'.cell? ⟨V.heap.size, 4, none⟩ = some (.slice Pa P.length kp) ∧ U'.cell? ⟨V.heap.size, 5, none⟩ = some (.slice Ta T.length kt)) := fun U' q => by
            have h1 := HT.out.q q
            have h2 := HG6.out.q q
            exact ⟨h1.c0, h1.c1, h2.c0, h2.c1, h2.c2, h2.c3, h2.c4, h2.c5⟩
          obtain ⟨s0, s1, s2, s3, s4, s5, s6, s7⟩ := ALL.out U (Q.refl _)
          have HQ1 : Hid (Q U U) := Lib.hid (Q.refl _)
          go_wp2_with (first
            | (go_at_call 8; (with_reducible refine (shown12_any U).mono ?_); rintro e w2 ⟨rfl, q1⟩; have HQ2 := Lib.hid (HQ1.out.trans q1); clear s0 s1 s2 s3 s4 s5 s6 s7 q1; obtain ⟨s0, s1, s2, s3, s4, s5, s6, s7⟩ := ALL.out w2 HQ2.out)
            | (go_at_call 9; (with_reducible refine (CF.out w2 (HQ0.out.trans HQ2.out)).mono ?_); rintro e w3 ⟨rfl, q2⟩; have HQ3 := Lib.hid (HQ2.out.trans q2); clear s0 s1 s2 s3 s4 s5 s6 s7 q2; obtain ⟨s0, s1, s2, s3, s4, s5, s6, s7⟩ := ALL.out w3 HQ3.out)
            | fail)
          go_ret
          exact ⟨rfl, HQ0.out.trans HQ3.out⟩
        · have d3 : decide (y < 0) = false := decide_eq_false h2
          obtain ⟨b, hb⟩ := Int.eq_ofNat_of_zero_le (by omega : 0 ≤ y)
          have hb : y = (b : Int) := hb
          subst hb
          by_cases h3 : c.V.length ≤ b
          · have d4 : decide ((c.V.length : Int) ≤ (b : Int)) = true := decide_eq_true (by omega)
            have d5 : decide (c.V.length ≤ b) = true := decide_eq_true h3
            clear hO hsl hfew hC hp ht hA h0 h1 h2 h3 HKy HSl HGa HRow
            go_enter Tryz.func3, Tryz.ntmps3
            go_upto_region 1 with fail
            generalize hW : w.alloc (Obj.cells #[.slice L0 l.length cl, .slice A ks.length ca, .slice S sl.length d, .slice F R.length cr, .slice Av c.V.length k1, .slice D c.N.length k2, .slice E c.M.length k3, .slice Pa P.length kp, .slice Ta T.length kt, .int .i64 (a : Int), .int .i64 (b : Int)] 33) = W at *
            clear hW
            have x0 := (HX.out.2 0 _ rfl).1
            have x1 := (HX.out.2 1 _ rfl).1
            have x2 := (HX.out.2 2 _ rfl).1
            have HX2 := Lib.hid (HX.out.q ((Q.refl W).alloc (Obj.cells #[Value.slice A ks.length ca, Value.slice S sl.length d] 26)))
            go_upto_region 3 with fail
            generalize hV : W.alloc (Obj.cells #[Value.slice A ks.length ca, Value.slice S sl.length d] 26) = V at *
            clear hV x0 x1 x2
            have x3 := (HX2.out.2 3 _ rfl).1
            have x4 := (HX2.out.2 4 _ rfl).1
            have x5 := (HX2.out.2 5 _ rfl).1
            have x6 := (HX2.out.2 6 _ rfl).1
            have x7 := (HX2.out.2 7 _ rfl).1
            have x8 := (HX2.out.2 8 _ rfl).1
            have HX3 := Lib.hid (HX2.out.q ((Q.refl V).alloc (Obj.cells #[.slice F R.length cr, .slice Av c.V.length k1, .slice D c.N.length k2, .slice E c.M.length k3, .slice Pa P.length kp, .slice Ta T.length kt] 31)))
            go_upto_region 4 with fail
            generalize hU : V.alloc (Obj.cells #[.slice F R.length cr, .slice Av c.V.length k1, .slice D c.N.length k2, .slice E c.M.length k3, .slice Pa P.length kp, .slice Ta T.length kt] 31) = U at *
            clear hU x3 x4 x5 x6 x7 x8
            have x9 := (HX3.out.2 9 _ rfl).1
            have x10 := (HX3.out.2 10 _ rfl).1
            go_upto_region 6 with fail
            clear x9 x10
            have ALL : Hid (∀ U', Q U U' → U'.cell? ⟨W.heap.size, 0, none⟩ = some (.slice A ks.length ca) ∧ U'.cell? ⟨W.heap.size, 1, none⟩ = some (.slice S sl.length d) ∧ U'.cell? ⟨V.heap.size, 0, none⟩ = some (.slice F R.length cr) ∧ U'.cell? ⟨V.heap.size, 1, none⟩ = some (.slice Av c.V.length k1) ∧ U'.cell? ⟨V.heap.size, 2, none⟩ = some (.slice D c.N.length k2) ∧ U'.cell? ⟨V.heap.size, 3, none⟩ = some (.slice E c.M.length k3) ∧ U'.cell? ⟨V.heap.size, 4, none⟩ = some (.slice Pa P.length kp) ∧ U'.cell? ⟨V.heap.size, 5, none⟩ = some (.slice Ta T.length kt)) := fun U' q => by
              have h1 := HT.out.q q
              have h2 := HG6.out.q q
              exact ⟨h1.c0, h1.c1, h2.c0, h2.c1, h2.c2, h2.c3, h2.c4, h2.c5⟩
            obtain ⟨s0, s1, s2, s3, s4, s5, s6, s7⟩ := ALL.out U (Q.refl _)
            have HQ1 : Hid (Q U U) := Lib.hid (Q.refl _)
            go_wp2_with (first
              | (go_at_call 8; (with_reducible refine (shown12_any U).mono ?_); rintro e w2 ⟨rfl, q1⟩; have HQ2 := Lib.hid (HQ1.out.trans q1); clear s0 s1 s2 s3 s4 s5 s6 s7 q1; obtain ⟨s0, s1, s2, s3, s4, s5, s6, s7⟩ := ALL.out w2 HQ2.out)
              | (go_at_call 9; (with_reducible refine (CF.out w2 (HQ0.out.trans HQ2.out)).mono ?_); rintro e w3 ⟨rfl, q2⟩; have HQ3 := Lib.hid (HQ2.out.trans q2); clear s0 s1 s2 s3 s4 s5 s6 s7 q2; obtain ⟨s0, s1, s2, s3, s4, s5, s6, s7⟩ := ALL.out w3 HQ3.out)
              | fail)
            go_ret
            exact ⟨rfl, HQ0.out.trans HQ3.out⟩
          · have d4 : decide ((c.V.length : Int) ≤ (b : Int)) = false := decide_eq_false (by omega)
            have d5 : decide (c.V.length ≤ b) = false := decide_eq_false h3
            obtain ⟨c2, P2, T2, l2, -, -, hc1, hc2, f1, f2, f3, f4, f5, f6⟩ := one_both (ca := ca) (d := d) (cr := cr) (kp := kp) (kt := kt) HKy.out (by rw [← hsl]; exact HSl.out) hO HGa.out hfew hC hp ht hA (by omega : a < c.V.length) (by omega : b < c.V.length)
            rw [← hsl] at hc1 hc2
            have CO1 := Lib.hid hc1
            have CO2 := Lib.hid hc2
            have HF := Lib.hid (And.intro hfew.1 (And.intro f1 (And.intro f2 (And.intro f3 (And.intro f4 (And.intro f5 f6))))))
            clear hsl hO hfew hC hp ht hA h0 h1 h2 h3 HKy HSl HGa HRow hc1 hc2 f1 f2 f3 f4 f5 f6
            go_enter Tryz.func3, Tryz.ntmps3
            go_upto_region 1 with fail
            generalize hW : w.alloc (Obj.cells #[.slice L0 l.length cl, .slice A ks.length ca, .slice S sl.length d, .slice F R.length cr, .slice Av c.V.length k1, .slice D c.N.length k2, .slice E c.M.length k3, .slice Pa P.length kp, .slice Ta T.length kt, .int .i64 (a : Int), .int .i64 (b : Int)] 33) = W at *
            clear hW
            have x0 := (HX.out.2 0 _ rfl).1
            have x1 := (HX.out.2 1 _ rfl).1
            have x2 := (HX.out.2 2 _ rfl).1
            have HX2 := Lib.hid (HX.out.q ((Q.refl W).alloc (Obj.cells #[Value.slice A ks.length ca, Value.slice S sl.length d] 26)))
            go_upto_region 3 with fail
            generalize hV : W.alloc (Obj.cells #[Value.slice A ks.length ca, Value.slice S sl.length d] 26) = V at *
            clear hV x0 x1 x2
            have x3 := (HX2.out.2 3 _ rfl).1
            have x4 := (HX2.out.2 4 _ rfl).1
            have x5 := (HX2.out.2 5 _ rfl).1
            have x6 := (HX2.out.2 6 _ rfl).1
            have x7 := (HX2.out.2 7 _ rfl).1
            have x8 := (HX2.out.2 8 _ rfl).1
            have HX3 := Lib.hid (HX2.out.q ((Q.refl V).alloc (Obj.cells #[.slice F R.length cr, .slice Av c.V.length k1, .slice D c.N.length k2, .slice E c.M.length k3, .slice Pa P.length kp, .slice Ta T.length kt] 31)))
            go_upto_region 4 with fail
            generalize hU : V.alloc (Obj.cells #[.slice F R.length cr, .slice Av c.V.length k1, .slice D c.N.length k2, .slice E c.M.length k3, .slice Pa P.length kp, .slice Ta T.length kt] 31) = U at *
            clear hU x3 x4 x5 x6 x7 x8
            have x9 := (HX3.out.2 9 _ rfl).1
            have x10 := (HX3.out.2 10 _ rfl).1
            go_upto_region 6 with fail
            clear x9 x10
            have ALL : Hid (∀ U', Q U U' → U'.cell? ⟨W.heap.size, 0, none⟩ = some (.slice A ks.length ca) ∧ U'.cell? ⟨W.heap.size, 1, none⟩ = some (.slice S sl.length d) ∧ U'.cell? ⟨V.heap.size, 0, none⟩ = some (.slice F R.length cr) ∧ U'.cell? ⟨V.heap.size, 1, none⟩ = some (.slice Av c.V.length k1) ∧ U'.cell? ⟨V.heap.size, 2, none⟩ = some (.slice D c.N.length k2) ∧ U'.cell? ⟨V.heap.size, 3, none⟩ = some (.slice E c.M.length k3) ∧ U'.cell? ⟨V.heap.size, 4, none⟩ = some (.slice Pa P.length kp) ∧ U'.cell? ⟨V.heap.size, 5, none⟩ = some (.slice Ta T.length kt)) := fun U' q => by
              have h1 := HT.out.q q
              have h2 := HG6.out.q q
              exact ⟨h1.c0, h1.c1, h2.c0, h2.c1, h2.c2, h2.c3, h2.c4, h2.c5⟩
            obtain ⟨s0, s1, s2, s3, s4, s5, s6, s7⟩ := ALL.out U (Q.refl _)
            have HQ1 : Hid (Q U U) := Lib.hid (Q.refl _)
            go_upto_region 9 with (first
              | (go_at_call 8; (with_reducible refine (shown12_any U).mono ?_); rintro e w2 ⟨rfl, q1⟩; have HQ2 := Lib.hid (HQ1.out.trans q1); clear s0 s1 s2 s3 s4 s5 s6 s7 q1; obtain ⟨s0, s1, s2, s3, s4, s5, s6, s7⟩ := ALL.out w2 HQ2.out)
              | (go_at_call 9; (with_reducible refine (CF.out w2 (HQ0.out.trans HQ2.out)).mono ?_); rintro e w3 ⟨rfl, q2⟩; have HQ3 := Lib.hid (HQ2.out.trans q2); clear s0 s1 s2 s3 s4 s5 s6 s7 q2; obtain ⟨s0, s1, s2, s3, s4, s5, s6, s7⟩ := ALL.out w3 HQ3.out)
              | fail)
            clear d0 d1 d2 d3 d4 d5
            go_upto_region 10 with (go_at_call 10; refine (CO1.out w3 (HQ0.out.trans HQ3.out)).mono ?_; rintro e w4 ⟨F4, A4, D4, E4, P4, T4, cr4, l41, l42, l43, lp4, lt4, v4, rfl, hg4, hv4, q3⟩; unfold gvP; obtain ⟨X4, y4, rfl, -, hx4⟩ := Rw.own_read hv4; have HG4 := Lib.hid hg4; have HX4 := Lib.hid hx4; have HQ4 := Lib.hid (HQ3.out.trans q3); clear hg4 hv4 hx4 q3 s0 s1 s2 s3 s4 s5 s6 s7)
            have q4 := (Q.refl w4).alloc (Obj.cells #[.slice F4 R.length cr4, .slice A4 c2.V.length l41, .slice D4 c2.N.length l42, .slice E4 c2.M.length l43, .slice P4 P2.length lp4, .slice T4 T2.length lt4] 31)
            have HB4 := Lib.hid (Box6.new w4 (.slice F4 R.length cr4) (.slice A4 c2.V.length l41) (.slice D4 c2.N.length l42) (.slice E4 c2.M.length l43) (.slice P4 P2.length lp4) (.slice T4 T2.length lt4) 31)
            have HG4' := Lib.hid (HG4.out.q q4)
            have HX4' := Lib.hid (HX4.out.q q4)
            have HQ4' := Lib.hid (HQ4.out.trans q4)
            clear q4 HG4 HX4 HQ4
            generalize w4.alloc (Obj.cells #[.slice F4 R.length cr4, .slice A4 c2.V.length l41, .slice D4 c2.N.length l42, .slice E4 c2.M.length l43, .slice P4 P2.length lp4, .slice T4 T2.length lt4] 31) = u4 at *
            obtain ⟨s0, s1, s2, s3, s4, s5, s6, s7⟩ := ALL.out u4 HQ4'.out
            go_upto_region 11 with (go_at_call 11; refine (CO2.out u4 (HQ0.out.trans HQ4'.out)).mono ?_; rintro e w5 ⟨F5, A5, D5, E5, P5, T5, cr5, l51, l52, l53, lp5, lt5, v5, rfl, hg5, hv5, q5⟩; unfold gvP; obtain ⟨X5, y5, rfl, -, hx5⟩ := Rw.own_read hv5; have HG5 := Lib.hid hg5; have HX5 := Lib.hid hx5; have HQ5 := Lib.hid q5; clear hg5 hv5 hx5 q5 s0 s1 s2 s3 s4 s5 s6 s7)
            have q6 := (Q.refl w5).alloc (Obj.cells #[.slice F5 R.length cr5, .slice A5 c2.V.length l51, .slice D5 c2.N.length l52, .slice E5 c2.M.length l53, .slice P5 P2.length lp5, .slice T5 T2.length lt5] 31)
            have HB5 := Lib.hid (Box6.new w5 (.slice F5 R.length cr5) (.slice A5 c2.V.length l51) (.slice D5 c2.N.length l52) (.slice E5 c2.M.length l53) (.slice P5 P2.length lp5) (.slice T5 T2.length lt5) 31)
            have HB46 := Lib.hid ((HB4.out.q HQ5.out).q q6)
            have HG46 := Lib.hid ((HG4'.out.q HQ5.out).q q6)
            have HX46 := Lib.hid ((HX4'.out.q HQ5.out).q q6)
            have HG56 := Lib.hid (HG5.out.q q6)
            have HX56 := Lib.hid (HX5.out.q q6)
            have HQ6 := Lib.hid ((HQ4'.out.trans HQ5.out).trans q6)
            clear q6 HG5 HX5 HQ5 HG4' HX4' HQ4' HB4
            generalize w5.alloc (Obj.cells #[.slice F5 R.length cr5, .slice A5 c2.V.length l51, .slice D5 c2.N.length l52, .slice E5 c2.M.length l53, .slice P5 P2.length lp5, .slice T5 T2.length lt5] 31) = u5 at *
            obtain ⟨m0, m1, m2, m3, m4, m5, -⟩ := HB46.out
            obtain ⟨n0, n1, n2, n3, n4, n5, -⟩ := HB5.out
            have CS := Lib.hid (refSame12_any R c2 P2 T2 F4 A4 D4 E4 P4 T4 F5 A5 D5 E5 P5 T5 _ cr4 _ l41 _ l42 _ l43 _ lp4 _ lt4 _ cr5 _ l51 _ l52 _ l53 _ lp5 _ lt5 u5 rfl rfl rfl rfl rfl rfl rfl rfl rfl rfl rfl rfl HG46.out.r.rds HG46.out.rd HG46.out.p.keys HG46.out.t.keys HG56.out.r.rds HG56.out.rd HG56.out.p.keys HG56.out.t.keys (by have := HF.out.1; unfold maxLen; omega) ⟨by have := HF.out.2.1.1; omega, by have := HF.out.2.1.2.1; omega, by have := HF.out.2.1.2.2; omega⟩ (by have := HF.out.2.2.1; unfold maxLen; omega) (by have := HF.out.2.2.2.1; unfold maxLen; omega) (fun k hk => by have := HF.out.2.2.2.2.1 k hk; unfold maxLen; omega) (fun k hk => by have := HF.out.2.2.2.2.2.1 k hk; unfold maxLen; omega))
            have CP := Lib.hid (fun (U : World) (q : Q u5 U) => refPairsEq_any X4 X5 _ y4 _ y5 l2 l2 U rfl rfl (HX46.out.q q) (HX56.out.q q) (by have := HF.out.2.2.2.2.2.2; omega))
            have HE := Lib.hid ((sameQ_iff l2 l2).2 rfl)
            go_wp2_with (first
              | (go_at_call 12; refine CS.out.mono ?_; rintro e w7 ⟨rfl, q7⟩; have HQ7 := Lib.hid q7; clear q7 m0 m1 m2 m3 m4 m5 n0 n1 n2 n3 n4 n5)
              | (go_at_call 13; refine (CP.out w7 HQ7.out).mono ?_; rintro e w8 ⟨rfl, q8⟩; rw [HE.out]; have HQ8 := Lib.hid (HQ7.out.trans q8); clear q8)
              | fail)
            go_ret
            exact ⟨rfl, HQ0.out.trans (HQ6.out.trans HQ8.out)⟩

set_option maxRecDepth 100000 in
theorem lifted (os : Os) (started : os.Started) (H : Type) (enc : TypeId × Value → H) :
    ReturnsInHanded {} Tryz.checked os 3 .any (Rows.ifgOnesSpec.pre6 enc Tryz.prog Tryz.f3 Rows.ifgOnesRow.domain false) (Rows.ifgOnesSpec.post enc Tryz.prog Tryz.f3 false true false false) := by
  refine returnsInHanded_of_change_sized (C := Tryz.checked) own started (by kernel_rfl) Tryz.func3
    (ChangeSpec.witness6 (enc := enc) (C := Tryz.checked) false ⟨#[], #[.agg #[.slice none 0 0, .slice none 0 0, .slice none 0 0, .slice none 0 0, .slice none 0 0, .slice none 0 0, .slice none 0 0, .slice none 0 0, .slice none 0 0, .int .i64 0, .int .i64 0]], []⟩ 8 (by kernel_rfl) (by kernel_rfl) (by kernel_rfl) (by kernel_rfl)) ?_
  intro W base args ds gs before hval0 hW hcnd hsz0 _
  have hval : ∀ (j : Nat) t v, Tryz.f3.params[j]? = some t → args[j]? = some v → Value.okWide Tryz.prog W .any base t v := hval0
  have hW' := hW
  obtain ⟨p, q, hA0, hV, rfl, hfz, hnd⟩ := hW
  have hA : DataW.TrodAll enc Tryz.prog W 0 (fun _ => true) true Tryz.f3.params.toList args.toList ds p := hA0
  rw [Tryz.params3] at hA hval
  obtain ⟨v0, vs0, d0, ds0, p0, q0, hargs, rfl, rfl, h0, r0⟩ := trodAll_cons hA
  obtain ⟨rfl, rfl, rfl⟩ := trodAll_nil r0
  obtain rfl : args = #[v0] := by cases args; simp_all
  obtain ⟨rfl, rfl⟩ := trodVars_none hV
  have z0 : ∀ n ∈ d0.weights Tryz.prog 33, n ≤ reachBytes := fun n hn => by
    have := List.all_eq_true.1 hsz0 n (DataW.weights_mem_each (j := 0) (t := 33) (d := d0) (by rw [Tryz.params3]; rfl) rfl n hn)
    simpa using this
  obtain ⟨L0, A, S, F, Av, D, E, Pa, Ta, nl, cl, n, ca, m, d, cr, k1, k2, k3, kp, kt, l, ks, sl, R, c, P, T, x, y, rfl, hnl, hr, hll, hsz, hn, hm, hk, hSi, hl, hs, hsl, hG⟩ := open_IfgOnesIn (hval 0 33 v0 rfl rfl) h0 z0
  clear hA0 hval0
  refine (walk L0 A S F Av D E Pa Ta nl cl n ca m d cr k1 k2 k3 kp kt l ks sl R c P T x y _ hnl hr hll hsz hn hm hk hSi hl hs hsl hG).mono fun e W' ⟨he, hg⟩ => ?_
  subst he
  exact ⟨_, rfl, post_law laid (by rw [Tryz.params3]; decide +kernel) rfl rfl (by kernel_rfl) Tryz.underlying4 hW' hg⟩

/-- THE STATEMENT -/
theorem proved : Rows.IfgOnesSaid :=
  OpenClaim.holds_of_wide 3 Tryz.f3 rfl rfl rfl rfl rfl rfl rfl ⟨rfl, rfl, rfl, rfl, rfl⟩ rfl rfl rfl rfl rfl (by kernel_rfl) Tryz.func3 (by kernel_rfl)
    (of_decide_eq_true (by kernel_rfl)) (by unfold Func.isWrapper; first | (rw [if_pos (by decide +kernel)]; kernel_rfl) | (rw [if_neg (by decide +kernel)]; exact ⟨rfl, rfl⟩))
    (fun os started H enc _ => lifted os started H enc)
end Go.Proofs.YtjmopbimleoidaaGreat.ifgOnes

namespace Go.Proofs.YtjmopbimleoidaaGreat.Ig
open Go.RowKit Kit Tr Uf

theorem rowV_nil (R : List Int) (ks : List (List Int)) (m : Nat) (v : Int) (less : Bool) : rowV R ks m v less [] = true := by
  unfold rowV
  exact decide_eq_true (fun i hi => absurd hi (by simp))
theorem joinC_M (R : List Int) (c : Cells) (a b : Nat) : (joinC R c a b).M = c.M := by
  rw [joinC_eq]
  by_cases e : fst c.V a = fst c.V b
  · rw [if_pos e]
  · rw [if_neg e]; rfl
theorem getD_set_ne {α : Type} {l : List α} {i j : Nat} {x d : α} (h : i ≠ j) : (l.set i x).getD j d = l.getD j d := by
  rw [List.getD_eq_getElem?_getD, List.getElem?_set_ne h, ← List.getD_eq_getElem?_getD]
theorem getD_set_eq {α : Type} {l : List α} {i : Nat} {x : α} {d : α} (h : i < l.length) : (l.set i x).getD i d = x := by
  rw [List.getD_eq_getElem?_getD, List.getElem?_set_self h]; rfl
theorem right_one {R : List Int} {ks : List (List Int)} {c : Cells} {P T : List (List Int)} {a b : Nat} (h : rightG R ks c P T = true) (ha : a < c.V.length) (hb : b < c.V.length) :
    rightG R ks (joinC R c a b) (P.set (hi R c.V a b) []) (T.set (hi R c.V a b) []) = true := by
  unfold rightG at h ⊢
  simp only [Bool.and_eq_true, decide_eq_true_eq] at h ⊢
  obtain ⟨⟨⟨⟨⟨h1, h2⟩, h3⟩, h4⟩, h5⟩, h6⟩ := h
  have hC := cl_of h1
  have hJ := joined (R := R) hC ha hb
  have hg := hi_in (R := R) hC ha hb
  refine ⟨⟨⟨⟨⟨cl_to hJ.cl, right_join h2 hC ha hb⟩, by rw [joinC_M]; exact h3⟩, by rw [List.length_set, hJ.len]; exact h4⟩, by rw [List.length_set, hJ.len]; exact h5⟩, fun v hv => ?_⟩
  rw [hJ.len] at hv
  have hv6 := h6 v hv
  unfold okG at hv6 ⊢
  rw [hJ.len]
  by_cases e : hi R c.V a b = v
  · subst e
    rw [getD_set_eq (by omega), getD_set_eq (by omega), rowV_nil, rowV_nil]
    simp
  · rw [getD_set_ne e, getD_set_ne e]
    have hV : (joinC R c a b).V.getD v 0 = c.V.getD v 0 := by
      rw [joinC_eq]
      by_cases k : fst c.V a = fst c.V b
      · rw [if_pos k]
      · rw [if_neg k]; exact getD_set_ne e
    rw [hV]
    exact hv6
end Go.Proofs.YtjmopbimleoidaaGreat.Ig
