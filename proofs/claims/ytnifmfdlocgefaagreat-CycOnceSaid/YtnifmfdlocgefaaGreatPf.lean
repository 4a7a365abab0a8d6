/-
  What the proofs lean on, part 6 of 20.
-/
import Derived.Test.YtnifmfdlocgefaaGreatPa
import Derived.Test.YtnifmfdlocgefaaGreatPb
import Derived.Test.YtnifmfdlocgefaaGreatPc
import Derived.Test.YtnifmfdlocgefaaGreatPd
import Derived.Test.YtnifmfdlocgefaaGreatPe
import Derived.Laws.Cover1
import Derived.Outline
import Derived.Laws.Append
import Derived.Laws.MakeOwn
import Derived.Laws.CopyOwn
import Derived.Laws.OwnMore
import Derived.OwnWalk
import Derived.Deep.RegionHeld
import Derived.Deep.Slices
import Derived.Deep.Fields
import Derived.ChangeSame
import Derived.SizedLaws
import Derived.OpenShut
import Derived.Lib.SmallJoins
namespace Go.Proofs.YtnifmfdlocgefaaGreat.Ig
open Go.RowKit Kit Tr Uf
open Go.Proofs.YtnifmfdlocgefaaGreat.Hs (Keys Ints atI refAt_any BoxT)
open Go.Proofs.YtnifmfdlocgefaaGreat.Tm (Tm termAt refOf_any Box4)
theorem ints_rds {w : World} {Bk : Nat} {A : Option Addr} {xs : List Int} (h : Ints w Bk A xs) : Tr.Rds w Bk A (cellsI xs) := fun h0 => by
  obtain ⟨ad, e, hlt, hc⟩ := h (by rwa [cellsI_len] at h0)
  refine ⟨ad, e, hlt, fun j v hv => ?_⟩
  have hj : j < xs.length := by have := (List.getElem?_eq_some_iff.1 hv).1; rwa [cellsI_len] at this
  rw [cellsI_at hj] at hv
  injection hv with hv
  subst hv
  exact hc j _ (List.getElem?_eq_getElem hj)

/-- a variable's rows are right -/
def okG (R : List Int) (ks : List (List Int)) (V : List Int) (P S : List (List Int)) (v : Nat) : Bool :=
  rowV R ks V.length v true (P.getD v []) && rowV R ks V.length v false (S.getD v []) && ((V.getD v 0 == (v : Int)) || (decide ((P.getD v []).length = 0) && decide ((S.getD v []).length = 0)))
/-- a graph is right -/
def rightG (R : List Int) (ks : List (List Int)) (c : Cells) (P S : List (List Int)) : Bool :=
  (clB R c.V && rightB c) && decide (c.M.length = 0) && decide (P.length = c.V.length) && decide (S.length = c.V.length) && decide (∀ v, v < c.V.length → okG R ks c.V P S v = true)
theorem rows_at {l : List (List Int)} {k : Nat} (h : k < l.length) : l.getD k [] = l[k] := by rw [List.getD_eq_getElem?_getD, List.getElem?_eq_getElem h]; rfl

set_option maxRecDepth 100000 in
set_option maxHeartbeats 8000000 in
theorem refRightG_any (R : List Int) (c : Cells) (A S F Av D E B C : Option Addr) (n ca m d nr cr n1 k1 n2 k2 n3 k3 nb kb nc kc : Nat) (ks P T : List (List Int)) (w : World) (hn : n = ks.length) (hk : Keys w w.heap.size A ks) (hnr : nr = R.length) (hR : Tr.Rds w w.heap.size F (cellsI R))
    (h1 : n1 = c.V.length) (h2 : n2 = c.N.length) (h3 : n3 = c.M.length) (h : Rd w c Av k1 D k2 E k3) (hf : Few c 1000000)
    (hnb : nb = P.length) (hP : Keys w w.heap.size B P) (hnc : nc = T.length) (hT : Keys w w.heap.size C T) (hPl : ∀ x ∈ P, x.length ≤ 1000000) (hTl : ∀ x ∈ T, x.length ≤ 1000000) :
    Calls Tryz.prog 26 #[.agg #[.slice A n ca, .slice S m d], .agg #[.slice F nr cr, .slice Av n1 k1, .slice D n2 k2, .slice E n3 k3, .slice B nb kb, .slice C nc kc]] w fun e w' => e = .returned (.bool (rightG R ks c P T)) ∧ Q w w' := by
  subst hn
  subst hnr
  subst h1
  subst h2
  subst h3
  subst hnb
  subst hnc
  have q0 := ((Q.refl w).alloc (Obj.cells #[Value.slice A ks.length ca, Value.slice S m d] 26)).alloc (Obj.cells #[Value.slice F R.length cr, Value.slice Av c.V.length k1, Value.slice D c.N.length k2, Value.slice E c.M.length k3, Value.slice B P.length kb, Value.slice C T.length kc] 31)
  have HB := Lib.hid ((BoxT.new w (Value.slice A ks.length ca) (Value.slice S m d) 26).q ((Q.refl _).alloc (Obj.cells #[Value.slice F R.length cr, Value.slice Av c.V.length k1, Value.slice D c.N.length k2, Value.slice E c.M.length k3, Value.slice B P.length kb, Value.slice C T.length kc] 31)))
  have X := Box6.new (w.alloc (Obj.cells #[Value.slice A ks.length ca, Value.slice S m d] 26)) (Value.slice F R.length cr) (Value.slice Av c.V.length k1) (Value.slice D c.N.length k2) (Value.slice E c.M.length k3) (Value.slice B P.length kb) (Value.slice C T.length kc) 31
  rw [World.size_alloc] at X
  have HG := Lib.hid X
  have Hk := Lib.hid ((hk.q (Nat.le_refl _) q0).more q0.size)
  have HR := Lib.hid (hR.q q0)
  have HC := Lib.hid (h.q q0)
  have HP := Lib.hid ((hP.q (Nat.le_refl _) q0).more q0.size)
  have HT := Lib.hid ((hT.q (Nat.le_refl _) q0).more q0.size)
  have HN : Hid (rightG R ks c P T = ((clB R c.V && rightB c) && decide (c.M.length = 0) && decide (P.length = c.V.length) && decide (T.length = c.V.length) && decide (∀ v, v < c.V.length → okG R ks c.V P T v = true))) := rfl
  have Hf := Lib.hid hf
  have HPl := Lib.hid hPl
  have HTl := Lib.hid hTl
  have hfv := hf.1
  clear hk hR h X hP hT hf hPl hTl
  go_enter Tryz.func26, Tryz.ntmps26
  go_upto_region 1 with fail
  generalize (w.alloc (Obj.cells #[Value.slice A ks.length ca, Value.slice S m d] 26)).alloc (Obj.cells #[Value.slice F R.length cr, Value.slice Av c.V.length k1, Value.slice D c.N.length k2, Value.slice E c.M.length k3, Value.slice B P.length kb, Value.slice C T.length kc] 31) = W0 at *
  have g0 := HG.out.c0
  have g1 := HG.out.c1
  have g2 := HG.out.c2
  have g3 := HG.out.c3
  have C5 := Lib.hid (right5_any R c Av D E F _ k1 _ k2 _ k3 _ cr W0 rfl rfl rfl rfl HC.out HR.out Hf.out)
  generalize (clB R c.V && rightB c) = u at *
  go_upto_region 2 with (go_at_call 76; refine C5.out.mono ?_; rintro e w2 ⟨rfl, q1⟩)
  have HBq := Lib.hid (HB.out.q q1)
  have HGq := Lib.hid (HG.out.q q1)
  clear g0 g1 g2 g3 C5
  have g1 := HGq.out.c1
  have g2 := HGq.out.c2
  have g3 := HGq.out.c3
  have g4 := HGq.out.c4
  have g5 := HGq.out.c5
  generalize c.M.length = nM at *
  cases u
  · have HF : Hid (rightG R ks c P T = false) := by unfold Hid; rw [HN.out]; rfl
    go_wp2_with fail
    go_ret
    exact ⟨by rw [HF.out]; rfl, q0.trans q1⟩
  by_cases hM : nM = 0
  case neg =>
    have HF : Hid (rightG R ks c P T = false) := by unfold Hid; rw [HN.out, decide_eq_false hM]; rfl
    obtain ⟨j, rfl⟩ : ∃ j, nM = j + 1 := ⟨nM - 1, by omega⟩
    have d1 : decide ((0 : Int) < (j : Int) + 1) = true := decide_eq_true (by omega)
    clear hM HN
    go_wp2_with fail
    go_ret
    exact ⟨by rw [HF.out]; rfl, q0.trans q1⟩
  subst hM
  by_cases hPn : P.length = c.V.length
  case neg =>
    have d2 : ((P.length : Int) != (c.V.length : Int)) = true := by simp; omega
    have HF : Hid (rightG R ks c P T = false) := by unfold Hid; rw [HN.out, decide_eq_false hPn, Bool.and_false]; rfl
    clear hPn
    go_wp2_with fail
    go_ret
    exact ⟨by rw [HF.out]; rfl, q0.trans q1⟩
  have d2 : ((P.length : Int) != (c.V.length : Int)) = false := by simp [hPn]
  by_cases hTn : T.length = c.V.length
  case neg =>
    have d3 : ((T.length : Int) != (c.V.length : Int)) = true := by simp; omega
    have HF : Hid (rightG R ks c P T = false) := by unfold Hid; rw [HN.out, decide_eq_false hTn, Bool.and_false]; rfl
    clear hPn hTn
    go_wp2_with fail
    go_ret
    exact ⟨by rw [HF.out]; rfl, q0.trans q1⟩
  have d3 : ((T.length : Int) != (c.V.length : Int)) = false := by simp [hTn]
  have HN2 : Hid (rightG R ks c P T = decide (∀ v, v < c.V.length → okG R ks c.V P T v = true)) := by unfold Hid; rw [HN.out, decide_eq_true rfl, decide_eq_true hPn, decide_eq_true hTn]; rfl
  have HPn := Lib.hid hPn
  have HTn := Lib.hid hTn
  clear hPn hTn
  have HCq := Lib.hid (HC.out.q q1)
  have HPq := Lib.hid ((HP.out.q (Nat.le_refl _) q1).more q1.size)
  have HTq := Lib.hid ((HT.out.q (Nat.le_refl _) q1).more q1.size)
  have Hkq := Lib.hid ((Hk.out.q (Nat.le_refl _) q1).more q1.size)
  have HRq := Lib.hid (HR.out.q q1)
  go_wp2_with fail
  clear g1 g2 g3 g4 g5
  go_loopw [6] (fun i wr => ∃ k : Nat, k ≤ c.V.length ∧ i = .int .i64 k ∧ Hid (∀ v, v < k → okG R ks c.V P T v = true) ∧ Hid (Q w2 wr)) (fun i _ => c.V.length - (intOf i).toNat)
  case atStart => exact ⟨0, Nat.zero_le _, rfl, Lib.hid (fun n hn => absurd hn (by omega)), Lib.hid (Q.refl _)⟩
  case round =>
    obtain ⟨k, hk, rfl, HH, HQ⟩ := hrel
    have HBr := Lib.hid (HBq.out.q HQ.out)
    have HGr := Lib.hid (HGq.out.q HQ.out)
    have b0 := HBr.out.c0
    have b1' := HBr.out.c1
    have g0 := HGr.out.c0
    have g1 := HGr.out.c1
    have g2 := HGr.out.c2
    have g3 := HGr.out.c3
    have g4 := HGr.out.c4
    have g5 := HGr.out.c5
    have l0 := HBr.out.lt
    have l1 := HGr.out.lt
    by_cases hlt : k < c.V.length
    · have hltP : k < P.length := by rw [HPn.out]; exact hlt
      have hltT : k < T.length := by rw [HTn.out]; exact hlt
      obtain ⟨pa, ep, hpb, a1, c1, hc1, p0, hi1⟩ := ((HPq.out.q (Nat.le_refl _) HQ.out).more HQ.out.size).at_ hltP
      obtain ⟨ta, et, htb, a2, c2, hc2, t0, hi2⟩ := ((HTq.out.q (Nat.le_refl _) HQ.out).more HQ.out.size).at_ hltT
      obtain ⟨va, ev, hvb, v0⟩ := (HCq.out.q HQ.out).v.int_at hlt
      subst ep et ev
      have hpk : (pa.add k).block < wr.heap.size := by rw [Tr.add_block]; exact hpb
      have htk : (ta.add k).block < wr.heap.size := by rw [Tr.add_block]; exact htb
      have hvk : (va.add k).block < wr.heap.size := by rw [Tr.add_block]; exact hvb
      have HO : Hid (okG R ks c.V P T k = (rowV R ks c.V.length k true P[k] && rowV R ks c.V.length k false T[k] && ((c.V[k] == (k : Int)) || (decide (P[k].length = 0) && decide (T[k].length = 0))))) := by unfold Hid okG; rw [rows_at hltP, rows_at hltT, getD_at hlt]
      have HK : Hid (okG R ks c.V P T k = true → ∀ n, n < k + 1 → okG R ks c.V P T n = true) := fun hk n hn => by
        by_cases e : n = k
        · subst e; exact hk
        · exact HH.out n (by omega)
      have HZ : Hid (okG R ks c.V P T k = false → rightG R ks c P T = false) := fun hk => by rw [HN2.out]; exact decide_eq_false (fun h => by have := h k hlt; rw [hk] at this; cases this)
      have C1 : Hid (∀ W, Q wr W → Calls Tryz.prog 77 #[.agg #[.slice A ks.length ca, .slice S m d], .agg #[.slice F R.length cr, .slice (some va) c.V.length k1, .slice D c.N.length k2, .slice E 0 k3, .slice (some pa) P.length kb, .slice (some ta) T.length kc], .slice a1 P[k].length c1, .int .i64 (k : Int), .bool true] W fun e W' => e = .returned (.bool (rowV R ks c.V.length k true P[k])) ∧ Q W W') := fun W q =>
        refRowV_any R A S F _ a1 _ ca m d _ cr _ k1 _ c1 _ _ _ _ ks P[k] k true W rfl ((Hkq.out.q (Nat.le_refl _) (HQ.out.trans q)).more (HQ.out.trans q).size) rfl (HRq.out.q (HQ.out.trans q)) rfl (ints_rds ((hi1.q (Nat.le_refl _) q).more q.size)) (HPl.out _ (List.getElem_mem hltP))
      have C2 : Hid (∀ W, Q wr W → Calls Tryz.prog 77 #[.agg #[.slice A ks.length ca, .slice S m d], .agg #[.slice F R.length cr, .slice (some va) c.V.length k1, .slice D c.N.length k2, .slice E 0 k3, .slice (some pa) P.length kb, .slice (some ta) T.length kc], .slice a2 T[k].length c2, .int .i64 (k : Int), .bool false] W fun e W' => e = .returned (.bool (rowV R ks c.V.length k false T[k])) ∧ Q W W') := fun W q =>
        refRowV_any R A S F _ a2 _ ca m d _ cr _ k1 _ c2 _ _ _ _ ks T[k] k false W rfl ((Hkq.out.q (Nat.le_refl _) (HQ.out.trans q)).more (HQ.out.trans q).size) rfl (HRq.out.q (HQ.out.trans q)) rfl (ints_rds ((hi2.q (Nat.le_refl _) q).more q.size)) (HTl.out _ (List.getElem_mem hltT))
      generalize rowV R ks c.V.length k true P[k] = o1 at *
      generalize rowV R ks c.V.length k false T[k] = o2 at *
      generalize P[k].length = np at *
      generalize T[k].length = nt at *
      generalize c.V[k] = x at *
      have j0 : (0 : Int) ≤ (k : Int) := Int.natCast_nonneg _
      have j1 : (k : Int) < (c.V.length : Int) := by omega
      have j2 : (k : Int) < (P.length : Int) := by omega
      have j3 : (k : Int) < (T.length : Int) := by omega
      have Hv0 := Lib.hid v0
      have Hp0 := Lib.hid p0
      have Ht0 := Lib.hid t0
      clear hi1 hi2 v0
      go_upto_region 7 with fail
      go_region_held3 (fun w' => w'.cell? ⟨w.heap.size, 0, none⟩ = some (.slice A ks.length ca) ∧ w'.cell? ⟨w.heap.size, 1, none⟩ = some (.slice S m d) ∧ w'.cell? ⟨w.heap.size + 1, 0, none⟩ = some (.slice F R.length cr) ∧ w'.cell? ⟨w.heap.size + 1, 1, none⟩ = some (.slice (some va) c.V.length k1) ∧ w'.cell? ⟨w.heap.size + 1, 2, none⟩ = some (.slice D c.N.length k2) ∧ w'.cell? ⟨w.heap.size + 1, 3, none⟩ = some (.slice E 0 k3) ∧ w'.cell? ⟨w.heap.size + 1, 4, none⟩ = some (.slice (some pa) P.length kb) ∧ w'.cell? ⟨w.heap.size + 1, 5, none⟩ = some (.slice (some ta) T.length kc) ∧ w'.cell? (pa.add k) = some (.slice a1 np c1))
        (first
          | go_keep
          | exact ⟨(p3.cell (p := ⟨w.heap.size, 0, none⟩) l0).trans b0, (p3.cell (p := ⟨w.heap.size, 1, none⟩) l0).trans b1', (p3.cell (p := ⟨w.heap.size + 1, 0, none⟩) l1).trans g0, (p3.cell (p := ⟨w.heap.size + 1, 1, none⟩) l1).trans g1, (p3.cell (p := ⟨w.heap.size + 1, 2, none⟩) l1).trans g2, (p3.cell (p := ⟨w.heap.size + 1, 3, none⟩) l1).trans g3, (p3.cell (p := ⟨w.heap.size + 1, 4, none⟩) l1).trans g4, (p3.cell (p := ⟨w.heap.size + 1, 5, none⟩) l1).trans g5, (p3.cell hpk).trans p0⟩)
        (first
          | (go_at_call 77; (with_reducible refine (C1.out _ (Q.refl wr).drew).mono ?_); rintro e w3 ⟨rfl, q2⟩; have p3 : Q wr w3 := (Q.refl wr).drew.trans q2))
      have r0 := (p3.cell (p := ⟨w.heap.size, 0, none⟩) l0).trans b0
      have r1 := (p3.cell (p := ⟨w.heap.size, 1, none⟩) l0).trans b1'
      have s0 := (p3.cell (p := ⟨w.heap.size + 1, 0, none⟩) l1).trans g0
      have s1 := (p3.cell (p := ⟨w.heap.size + 1, 1, none⟩) l1).trans g1
      have s2 := (p3.cell (p := ⟨w.heap.size + 1, 2, none⟩) l1).trans g2
      have s3 := (p3.cell (p := ⟨w.heap.size + 1, 3, none⟩) l1).trans g3
      have s4 := (p3.cell (p := ⟨w.heap.size + 1, 4, none⟩) l1).trans g4
      have s5 := (p3.cell (p := ⟨w.heap.size + 1, 5, none⟩) l1).trans g5
      have u0 := (p3.cell htk).trans t0
      have m0 : w.heap.size < w3.heap.size := Nat.lt_of_lt_of_le l0 p3.size
      have m1 : w.heap.size + 1 < w3.heap.size := Nat.lt_of_lt_of_le l1 p3.size
      have mtk : (ta.add k).block < w3.heap.size := Nat.lt_of_lt_of_le htk p3.size
      have Hp3 := Lib.hid p3
      clear b0 b1' g0 g1 g2 g3 g4 g5 p0 t0 q2 C1 p3
      go_upto_region 8 with fail
      go_region_held3 (fun w' => w'.cell? ⟨w.heap.size, 0, none⟩ = some (.slice A ks.length ca) ∧ w'.cell? ⟨w.heap.size, 1, none⟩ = some (.slice S m d) ∧ w'.cell? ⟨w.heap.size + 1, 0, none⟩ = some (.slice F R.length cr) ∧ w'.cell? ⟨w.heap.size + 1, 1, none⟩ = some (.slice (some va) c.V.length k1) ∧ w'.cell? ⟨w.heap.size + 1, 2, none⟩ = some (.slice D c.N.length k2) ∧ w'.cell? ⟨w.heap.size + 1, 3, none⟩ = some (.slice E 0 k3) ∧ w'.cell? ⟨w.heap.size + 1, 4, none⟩ = some (.slice (some pa) P.length kb) ∧ w'.cell? ⟨w.heap.size + 1, 5, none⟩ = some (.slice (some ta) T.length kc) ∧ w'.cell? (ta.add k) = some (.slice a2 nt c2))
        (first
          | go_keep
          | exact ⟨(p4.cell (p := ⟨w.heap.size, 0, none⟩) m0).trans r0, (p4.cell (p := ⟨w.heap.size, 1, none⟩) m0).trans r1, (p4.cell (p := ⟨w.heap.size + 1, 0, none⟩) m1).trans s0, (p4.cell (p := ⟨w.heap.size + 1, 1, none⟩) m1).trans s1, (p4.cell (p := ⟨w.heap.size + 1, 2, none⟩) m1).trans s2, (p4.cell (p := ⟨w.heap.size + 1, 3, none⟩) m1).trans s3, (p4.cell (p := ⟨w.heap.size + 1, 4, none⟩) m1).trans s4, (p4.cell (p := ⟨w.heap.size + 1, 5, none⟩) m1).trans s5, (p4.cell mtk).trans u0⟩)
        (first
          | (go_at_call 77; (with_reducible refine (C2.out _ (Hp3.out.trans (Q.refl w3).drew)).mono ?_); rintro e w4 ⟨rfl, q3⟩; have p4 : Q w3 w4 := (Q.refl w3).drew.trans q3))
      have HQ4 := Lib.hid (Hp3.out.trans p4)
      clear r0 r1 s0 s1 s2 s3 s4 s5 u0 q3 C2 p4
      have g1 := (HGr.out.q HQ4.out).c1
      have g4 := (HGr.out.q HQ4.out).c4
      have g5 := (HGr.out.q HQ4.out).c5
      have v0 := (HQ4.out.cell hvk).trans Hv0.out
      have p0 := (HQ4.out.cell hpk).trans Hp0.out
      have t0 := (HQ4.out.cell htk).trans Ht0.out
      cases o1
      · have HF := Lib.hid (HZ.out (by rw [HO.out]; rfl))
        go_wp2_with fail
        go_ret
        exact ⟨by rw [HF.out]; rfl, (q0.trans q1).trans (HQ.out.trans HQ4.out)⟩
      cases o2
      · have HF := Lib.hid (HZ.out (by rw [HO.out]; rfl))
        go_wp2_with fail
        go_ret
        exact ⟨by rw [HF.out]; rfl, (q0.trans q1).trans (HQ.out.trans HQ4.out)⟩
      cases ex : (x == (k : Int))
      · have ex' : (x != (k : Int)) = true := by simpa using ex
        rw [ex] at HO
        clear ex
        rcases np with _ | np
        · rcases nt with _ | nt
          · have HF := Lib.hid (HK.out (by rw [HO.out]; rfl))
            go_wp2_with fail
            go_roundw
            case rel => exact ⟨k + 1, by omega, by go_num, HF, Lib.hid (HQ.out.trans HQ4.out)⟩
            case measure => simp [intOf]; omega
          · have HF := Lib.hid (HZ.out (by rw [HO.out]; rfl))
            have d4 : decide ((0 : Int) < (nt : Int) + 1) = true := decide_eq_true (by omega)
            go_wp2_with fail
            go_ret
            exact ⟨by rw [HF.out]; rfl, (q0.trans q1).trans (HQ.out.trans HQ4.out)⟩
        · have HF := Lib.hid (HZ.out (by rw [HO.out]; rfl))
          have d4 : decide ((0 : Int) < (np : Int) + 1) = true := decide_eq_true (by omega)
          go_wp2_with fail
          go_ret
          exact ⟨by rw [HF.out]; rfl, (q0.trans q1).trans (HQ.out.trans HQ4.out)⟩
      · have ex' : (x != (k : Int)) = false := by simpa using ex
        have HF := Lib.hid (HK.out (by rw [HO.out, ex]; rfl))
        clear ex
        go_wp2_with fail
        go_roundw
        case rel => exact ⟨k + 1, by omega, by go_num, HF, Lib.hid (HQ.out.trans HQ4.out)⟩
        case measure => simp [intOf]; omega
    · have HF : Hid (rightG R ks c P T = true) := by
        have hall : ∀ v, v < c.V.length → okG R ks c.V P T v = true := fun i hi => HH.out i (by omega)
        unfold Hid; rw [HN2.out]; exact decide_eq_true hall
      clear b0 b1' g0 g2 g3 g4 g5
      go_wp2_with fail
      go_ret
      exact ⟨by rw [HF.out]; rfl, (q0.trans q1).trans HQ.out⟩
end Go.Proofs.YtnifmfdlocgefaaGreat.Ig

namespace Go.Proofs.YtnifmfdlocgefaaGreat.Ig
open Go.RowKit Kit Tr Uf
open Go.Proofs.YtnifmfdlocgefaaGreat.Hs (Keys Ints atI refAt_any BoxT)
open Go.Proofs.YtnifmfdlocgefaaGreat.Tm (Tm termAt refOf_any Box4)
def allV (ks : List (List Int)) (m : Nat) : Bool := decide (∀ v : Nat, v < m → 0 ≤ atV ks v)

set_option maxRecDepth 100000 in
set_option maxHeartbeats 2000000 in
theorem refAllV_any (A S Av : Option Addr) (n c m d nv cv : Nat) (r b1 b2 b3 b4 : Value) (ks : List (List Int)) (w : World) (hn : n = ks.length) (hk : Keys w w.heap.size A ks) (hl : ks.length ≤ maxLen) (hs : ∀ k ∈ ks, k.length ≤ maxLen) (hnv : nv ≤ 1000000) :
    Calls Tryz.prog 61 #[.agg #[.slice A n c, .slice S m d], .agg #[r, .slice Av nv cv, b1, b2, b3, b4]] w fun e w' => e = .returned (.bool (allV ks nv)) ∧ Q w w' := by
  subst hn
  have q0 := ((Q.refl w).alloc (Obj.cells #[Value.slice A ks.length c, Value.slice S m d] 26)).alloc (Obj.cells #[r, Value.slice Av nv cv, b1, b2, b3, b4] 31)
  have HB := Lib.hid ((BoxT.new w (Value.slice A ks.length c) (Value.slice S m d) 26).q ((Q.refl _).alloc (Obj.cells #[r, Value.slice Av nv cv, b1, b2, b3, b4] 31)))
  have X := Box6.new (w.alloc (Obj.cells #[Value.slice A ks.length c, Value.slice S m d] 26)) r (Value.slice Av nv cv) b1 b2 b3 b4 31
  rw [World.size_alloc] at X
  have HG := Lib.hid X
  have Hk := Lib.hid ((hk.q (Nat.le_refl _) q0).more q0.size)
  have HN : Hid (allV ks nv = decide (∀ v : Nat, v < nv → 0 ≤ atV ks v)) := rfl
  clear hk X
  go_enter Tryz.func61, Tryz.ntmps61
  go_upto_region 1 with fail
  generalize (w.alloc (Obj.cells #[Value.slice A ks.length c, Value.slice S m d] 26)).alloc (Obj.cells #[r, Value.slice Av nv cv, b1, b2, b3, b4] 31) = W0 at *
  go_wp2_with fail
  go_loopw [5] (fun i wr => ∃ k : Nat, k ≤ nv ∧ i = .int .i64 k ∧ Hid (∀ v : Nat, v < k → 0 ≤ atV ks v) ∧ Hid (Q W0 wr)) (fun i _ => nv - (intOf i).toNat)
  case atStart => exact ⟨0, Nat.zero_le _, rfl, Lib.hid (fun n hn => absurd hn (by omega)), Lib.hid (Q.refl _)⟩
  case round =>
    obtain ⟨k, hk, rfl, HH, HQ⟩ := hrel
    have b0 := (HB.out.q HQ.out).c0
    have b1' := (HB.out.q HQ.out).c1
    have g1 := (HG.out.q HQ.out).c1
    by_cases hlt : k < nv
    · have CA := Lib.hid (refAtV_any A _ c (.slice S m d) ks (k : Int) wr rfl ((Hk.out.q (Nat.le_refl _) HQ.out).more HQ.out.size) hl hs)
      by_cases ha : atV ks k < 0
      · have d1 : decide (atV ks k < 0) = true := decide_eq_true ha
        have HF : Hid (allV ks nv = false) := by unfold Hid; rw [HN.out]; exact decide_eq_false (fun h => by have := h k hlt; omega)
        generalize atV ks k = x at *
        clear ha
        go_wp2_with (go_at_call 53; refine CA.out.mono ?_; rintro e w2 ⟨rfl, q2⟩)
        go_ret
        exact ⟨by rw [HF.out]; rfl, (q0.trans HQ.out).trans q2⟩
      · have d1 : decide (atV ks k < 0) = false := decide_eq_false ha
        have HK : Hid (∀ v : Nat, v < k + 1 → 0 ≤ atV ks v) := fun v hv => by
          by_cases e : v = k
          · subst e; omega
          · exact HH.out v (by omega)
        generalize atV ks k = x at CA d1
        clear ha
        go_wp2_with (go_at_call 53; refine CA.out.mono ?_; rintro e w2 ⟨rfl, q2⟩)
        have HQ2 := Lib.hid (HQ.out.trans q2)
        go_roundw
        case rel => exact ⟨k + 1, by omega, by go_num, HK, HQ2⟩
        case measure => simp [intOf]; omega
    · have HF : Hid (allV ks nv = true) := by
        have hall : ∀ v : Nat, v < nv → 0 ≤ atV ks v := fun i hi => HH.out i (by omega)
        unfold Hid; rw [HN.out]; exact decide_eq_true hall
      go_wp2_with fail
      go_ret
      exact ⟨by rw [HF.out]; rfl, q0.trans HQ.out⟩
end Go.Proofs.YtnifmfdlocgefaaGreat.Ig

namespace Go.Proofs.YtnifmfdlocgefaaGreat.Ig
open Go.RowKit Kit Tr Uf
open Go.Proofs.YtnifmfdlocgefaaGreat.Hs (Keys Ints BoxT)
/-- rows counted, till there are too many -/
def fewR (n : Nat) : List (List Int) → Nat
  | [] => n
  | k :: l => if n ≤ 1000 then fewR (n + k.length) l else n
theorem fewR_at (n : Nat) (ks : List (List Int)) (i : Nat) (h : i < ks.length) (hn : n ≤ 1000) : fewR n (ks.drop i) = fewR (n + ks[i].length) (ks.drop (i + 1)) := by
  rw [List.drop_eq_getElem_cons h, fewR, if_pos hn]
theorem fewR_big (n : Nat) (ks : List (List Int)) (hn : ¬ n ≤ 1000) : fewR n ks = n := by
  cases ks with
  | nil => rfl
  | cons k l => rw [fewR, if_neg hn]
theorem fewR_end (n : Nat) (ks : List (List Int)) (i : Nat) (h : ks.length ≤ i) : fewR n (ks.drop i) = n := by
  rw [List.drop_eq_nil_of_le h]; rfl
theorem fewR_le : ∀ (ks : List (List Int)) (n : Nat), fewR n ks ≤ 1000 → n ≤ 1000 ∧ ∀ k ∈ ks, k.length ≤ 1000
  | [], n, h => ⟨h, fun k hk => by cases hk⟩
  | k :: l, n, h => by
    rw [fewR] at h
    by_cases hn : n ≤ 1000
    · rw [if_pos hn] at h
      obtain ⟨h1, h2⟩ := fewR_le l _ h
      refine ⟨hn, fun x hx => ?_⟩
      rcases List.mem_cons.1 hx with rfl | hx
      · omega
      · exact h2 x hx
    · rw [if_neg hn] at h
      exact absurd h hn
/-- how long the rows themselves are -/
def sixN (R : List Int) (c : Cells) (P T : List (List Int)) : Nat := R.length + c.V.length + c.N.length + c.M.length + P.length + T.length
def few12B (R : List Int) (c : Cells) (P T : List (List Int)) : Bool := decide (fewR (fewR (sixN R c P T) P) T ≤ 1000)
theorem few12_ok {R : List Int} {c : Cells} {P T : List (List Int)} (h : few12B R c P T = true) : R.length ≤ 1000 ∧ Few c 1000 ∧ P.length ≤ 1000 ∧ T.length ≤ 1000 ∧ (∀ k ∈ P, k.length ≤ 1000) ∧ (∀ k ∈ T, k.length ≤ 1000) := by
  have h1 := of_decide_eq_true h
  obtain ⟨h2, h3⟩ := fewR_le T _ h1
  obtain ⟨h4, h5⟩ := fewR_le P _ h2
  unfold sixN at h4
  exact ⟨by omega, ⟨by omega, by omega, by omega⟩, by omega, by omega, h5, h3⟩

set_option maxRecDepth 100000 in
set_option maxHeartbeats 4000000 in
theorem refFew12_any (R : List Int) (c : Cells) (P T : List (List Int)) (F A D E Pa Ta : Option Addr) (nr cr n1 k1 n2 k2 n3 k3 np kp nt kt : Nat) (w : World) (hr : nr = R.length) (h1 : n1 = c.V.length) (h2 : n2 = c.N.length) (h3 : n3 = c.M.length) (hp : np = P.length) (ht : nt = T.length)
    (hP : Keys w w.heap.size Pa P) (hT : Keys w w.heap.size Ta T) (lR : R.length ≤ 1152921504606846976) (lV : c.V.length ≤ 1152921504606846976) (lN : c.N.length ≤ 1152921504606846976) (lM : c.M.length ≤ 1152921504606846976) (lP : P.length ≤ 1152921504606846976) (lT : T.length ≤ 1152921504606846976)
    (sP : ∀ k ∈ P, k.length ≤ 1152921504606846976) (sT : ∀ k ∈ T, k.length ≤ 1152921504606846976) :
    Calls Tryz.prog 60 #[.agg #[.slice F nr cr, .slice A n1 k1, .slice D n2 k2, .slice E n3 k3, .slice Pa np kp, .slice Ta nt kt]] w fun e w' => e = .returned (.bool (few12B R c P T)) ∧ Q w w' := by
  subst hr h1 h2 h3 hp ht
  have q0 := (Q.refl w).alloc (Obj.cells #[.slice F R.length cr, .slice A c.V.length k1, .slice D c.N.length k2, .slice E c.M.length k3, .slice Pa P.length kp, .slice Ta T.length kt] 31)
  have HB := Lib.hid (Box6.new w (.slice F R.length cr) (.slice A c.V.length k1) (.slice D c.N.length k2) (.slice E c.M.length k3) (.slice Pa P.length kp) (.slice Ta T.length kt) 31)
  have HP := Lib.hid ((hP.q (Nat.le_refl _) q0).more q0.size)
  have HT := Lib.hid ((hT.q (Nat.le_refl _) q0).more q0.size)
  have HS6 : Hid (sixN R c P T = R.length + c.V.length + c.N.length + c.M.length + P.length + T.length) := rfl
  have HD : Hid (few12B R c P T = decide (fewR (fewR (sixN R c P T) P) T ≤ 1000)) := rfl
  have Hsp := Lib.hid sP
  have Hst := Lib.hid sT
  have HLs : Hid (R.length ≤ 1152921504606846976 ∧ c.V.length ≤ 1152921504606846976 ∧ c.N.length ≤ 1152921504606846976 ∧ c.M.length ≤ 1152921504606846976 ∧ P.length ≤ 1152921504606846976 ∧ T.length ≤ 1152921504606846976) := ⟨lR, lV, lN, lM, lP, lT⟩
  have HN : Hid (((sixN R c P T : Nat) : Int) = (R.length : Int) + (c.V.length : Int) + (c.N.length : Int) + (c.M.length : Int) + (P.length : Int) + (T.length : Int) ∧ sixN R c P T ≤ 6917529027641081856) := by unfold Hid; rw [HS6.out]; omega
  clear hP hT sP sT lR lV lN lM lP lT
  go_enter Tryz.func60, Tryz.ntmps60
  go_upto_region 1 with fail
  generalize w.alloc (Obj.cells #[.slice F R.length cr, .slice A c.V.length k1, .slice D c.N.length k2, .slice E c.M.length k3, .slice Pa P.length kp, .slice Ta T.length kt] 31) = W at *
  have b0 := HB.out.c0
  have b1 := HB.out.c1
  have b2 := HB.out.c2
  have b3 := HB.out.c3
  have b4 := HB.out.c4
  have b5 := HB.out.c5
  obtain ⟨lR, lV, lN, lM, lP, lT⟩ := HLs.out
  have w1 : wrap64 ((R.length : Int) + (c.V.length : Int)) = (R.length : Int) + (c.V.length : Int) := IntWalk.wrap64_in _ (by omega)
  have w2 : wrap64 ((R.length : Int) + (c.V.length : Int) + (c.N.length : Int)) = (R.length : Int) + (c.V.length : Int) + (c.N.length : Int) := IntWalk.wrap64_in _ (by omega)
  have w3 : wrap64 ((R.length : Int) + (c.V.length : Int) + (c.N.length : Int) + (c.M.length : Int)) = (R.length : Int) + (c.V.length : Int) + (c.N.length : Int) + (c.M.length : Int) := IntWalk.wrap64_in _ (by omega)
  have w4 : wrap64 ((R.length : Int) + (c.V.length : Int) + (c.N.length : Int) + (c.M.length : Int) + (P.length : Int)) = (R.length : Int) + (c.V.length : Int) + (c.N.length : Int) + (c.M.length : Int) + (P.length : Int) := IntWalk.wrap64_in _ (by omega)
  have w5 : wrap64 ((R.length : Int) + (c.V.length : Int) + (c.N.length : Int) + (c.M.length : Int) + (P.length : Int) + (T.length : Int)) = (R.length : Int) + (c.V.length : Int) + (c.N.length : Int) + (c.M.length : Int) + (P.length : Int) + (T.length : Int) := IntWalk.wrap64_in _ (by omega)
  have HW5 := Lib.hid w5
  clear lR lV lN lM lP lT
  go_wp2_with fail
  clear w1 w2 w3 w4 w5 b0 b1 b2 b3
  go_loopw [3, 4] (fun s i wr => ∃ (k a : Nat), k ≤ P.length ∧ i = .int .i64 k ∧ s = .int .i64 a ∧ a ≤ 6917529027641081856 ∧ Hid (fewR (sixN R c P T) P = fewR a (P.drop k)) ∧ W = wr) (fun _ i _ => P.length - (intOf i).toNat)
  case atStart => exact ⟨0, sixN R c P T, Nat.zero_le _, rfl, by rw [HN.out.1, HW5.out], HN.out.2, Lib.hid (by simp), rfl⟩
  case round =>
    obtain ⟨k, a, hk, rfl, rfl, ha, HF, rfl⟩ := hrel
    by_cases hlt : k < P.length
    · by_cases h2 : a ≤ 1000
      · obtain ⟨ad, rfl, hb, a1, c1, _, k0, _⟩ := HP.out.at_ hlt
        have HS := Lib.hid (fewR_at a P k hlt h2)
        have hs1 := Hsp.out _ (List.getElem_mem hlt)
        have HA2 : Hid (a + P[k].length ≤ 6917529027641081856 ∧ k < P.length) := by unfold Hid; omega
        have HA3 : Hid (a ≤ 1000 ∧ P[k].length ≤ 1152921504606846976 ∧ P.length ≤ 1152921504606846976) := Lib.hid ⟨h2, hs1, HLs.out.2.2.2.2.1⟩
        have g9 := HA3.out.2.2
        go_wp2_with fail
        go_roundw
        case rel => exact ⟨k + 1, a + P[k].length, HA2.out.2, by obtain ⟨g1, g2, g3⟩ := HA3.out; have g4 := HA2.out.2; go_num, by obtain ⟨g1, g2, g3⟩ := HA3.out; go_num, HA2.out.1, Lib.hid (HF.out.trans HS.out), trivial⟩
        case measure => obtain ⟨g1, g2, g3⟩ := HA3.out; have g4 := HA2.out.2; simp [intOf]; omega
      · have HE : Hid (fewR (sixN R c P T) P = a) := by unfold Hid; rw [HF.out]; exact fewR_big a _ h2
        have Ha := Lib.hid ha
        have H2 := Lib.hid h2
        go_wp2_with fail
        go_loopw [3, 5] (fun s i wr => ∃ (k a : Nat), k ≤ T.length ∧ i = .int .i64 k ∧ s = .int .i64 a ∧ a ≤ 6917529027641081856 ∧ Hid (fewR (fewR (sixN R c P T) P) T = fewR a (T.drop k)) ∧ W = wr) (fun _ i _ => T.length - (intOf i).toNat)
        case atStart => exact ⟨0, a, Nat.zero_le _, rfl, rfl, Ha.out, Lib.hid (by rw [HE.out]; simp), rfl⟩
        case round =>
          obtain ⟨k, a, hk, rfl, rfl, ha, HF, rfl⟩ := hrel
          by_cases hlt : k < T.length
          · by_cases h2 : a ≤ 1000
            · obtain ⟨ad, rfl, hb, a1, c1, _, k0, _⟩ := HT.out.at_ hlt
              have HS := Lib.hid (fewR_at a T k hlt h2)
              have hs1 := Hst.out _ (List.getElem_mem hlt)
              have HA2 : Hid (a + T[k].length ≤ 6917529027641081856 ∧ k < T.length) := by unfold Hid; omega
              have HA3 : Hid (a ≤ 1000 ∧ T[k].length ≤ 1152921504606846976 ∧ T.length ≤ 1152921504606846976) := Lib.hid ⟨h2, hs1, HLs.out.2.2.2.2.2⟩
              have g9 := HA3.out.2.2
              go_wp2_with fail
              go_roundw
              case rel => exact ⟨k + 1, a + T[k].length, HA2.out.2, by obtain ⟨g1, g2, g3⟩ := HA3.out; have g4 := HA2.out.2; go_num, by obtain ⟨g1, g2, g3⟩ := HA3.out; go_num, HA2.out.1, Lib.hid (HF.out.trans HS.out), trivial⟩
              case measure => obtain ⟨g1, g2, g3⟩ := HA3.out; have g4 := HA2.out.2; simp [intOf]; omega
            · have HE : Hid (fewR (fewR (sixN R c P T) P) T = a) := by unfold Hid; rw [HF.out]; exact fewR_big a _ h2
              have Ha := Lib.hid ha
              have H2 := Lib.hid h2
              go_wp2_with fail
              go_ret
              have hh := H2.out
              exact ⟨by rw [HD.out, HE.out, decide_eq_false hh]; simp; omega, q0⟩
          · have HE : Hid (fewR (fewR (sixN R c P T) P) T = a) := by unfold Hid; rw [HF.out]; exact fewR_end a _ _ (by omega)
            have Ha := Lib.hid ha
            go_wp2_with fail
            go_ret
            exact ⟨by rw [HD.out, HE.out]; simp; omega, q0⟩
    · have HE : Hid (fewR (sixN R c P T) P = a) := by unfold Hid; rw [HF.out]; exact fewR_end a _ _ (by omega)
      have Ha := Lib.hid ha
      go_wp2_with fail
      go_loopw [3, 5] (fun s i wr => ∃ (k a : Nat), k ≤ T.length ∧ i = .int .i64 k ∧ s = .int .i64 a ∧ a ≤ 6917529027641081856 ∧ Hid (fewR (fewR (sixN R c P T) P) T = fewR a (T.drop k)) ∧ W = wr) (fun _ i _ => T.length - (intOf i).toNat)
      case atStart => exact ⟨0, a, Nat.zero_le _, rfl, rfl, Ha.out, Lib.hid (by rw [HE.out]; simp), rfl⟩
      case round =>
        obtain ⟨k, a, hk, rfl, rfl, ha, HF, rfl⟩ := hrel
        by_cases hlt : k < T.length
        · by_cases h2 : a ≤ 1000
          · obtain ⟨ad, rfl, hb, a1, c1, _, k0, _⟩ := HT.out.at_ hlt
            have HS := Lib.hid (fewR_at a T k hlt h2)
            have hs1 := Hst.out _ (List.getElem_mem hlt)
            have HA2 : Hid (a + T[k].length ≤ 6917529027641081856 ∧ k < T.length) := by unfold Hid; omega
            have HA3 : Hid (a ≤ 1000 ∧ T[k].length ≤ 1152921504606846976 ∧ T.length ≤ 1152921504606846976) := Lib.hid ⟨h2, hs1, HLs.out.2.2.2.2.2⟩
            have g9 := HA3.out.2.2
            go_wp2_with fail
            go_roundw
            case rel => exact ⟨k + 1, a + T[k].length, HA2.out.2, by obtain ⟨g1, g2, g3⟩ := HA3.out; have g4 := HA2.out.2; go_num, by obtain ⟨g1, g2, g3⟩ := HA3.out; go_num, HA2.out.1, Lib.hid (HF.out.trans HS.out), trivial⟩
            case measure => obtain ⟨g1, g2, g3⟩ := HA3.out; have g4 := HA2.out.2; simp [intOf]; omega
          · have HE : Hid (fewR (fewR (sixN R c P T) P) T = a) := by unfold Hid; rw [HF.out]; exact fewR_big a _ h2
            have Ha := Lib.hid ha
            have H2 := Lib.hid h2
            go_wp2_with fail
            go_ret
            have hh := H2.out
            exact ⟨by rw [HD.out, HE.out, decide_eq_false hh]; simp; omega, q0⟩
        · have HE : Hid (fewR (fewR (sixN R c P T) P) T = a) := by unfold Hid; rw [HF.out]; exact fewR_end a _ _ (by omega)
          have Ha := Lib.hid ha
          go_wp2_with fail
          go_ret
          exact ⟨by rw [HD.out, HE.out]; simp; omega, q0⟩
end Go.Proofs.YtnifmfdlocgefaaGreat.Ig

namespace Go.Proofs.YtnifmfdlocgefaaGreat.Ig
open Go.RowKit Kit Tr Uf
open Go.Proofs.YtnifmfdlocgefaaGreat.Hs (Keys Ints BoxT layI fewB refFew_any few_sum mem_len)
open Go.Proofs.YtnifmfdlocgefaaGreat.Tm (storeB refRight3_any)
def of12B (l : List Sg.Sig) (ks : List (List Int)) (sl : List Int) (R : List Int) (c : Cells) (P T : List (List Int)) : Bool :=
  decide (l.length ≤ 64) && Sg.rightB l && fewB ks sl.length && storeB l ks sl && few12B R c P T && rightG R ks c P T && allV ks c.V.length

theorem of12_ok {L : List Sg.Sig} {ks : List (List Int)} {sl R : List Int} {c : Cells} {P T : List (List Int)} (h : of12B L ks sl R c P T = true) : (Sg.rightB L = true ∧ fewB ks sl.length = true ∧ storeB L ks sl = true) ∧ few12B R c P T = true ∧ rightG R ks c P T = true ∧ allV ks c.V.length = true := by
  unfold of12B at h
  simp only [Bool.and_eq_true] at h
  exact ⟨⟨h.1.1.1.1.1.2, h.1.1.1.1.2, h.1.1.1.2⟩, h.1.1.2, h.1.2, h.2⟩
end Go.Proofs.YtnifmfdlocgefaaGreat.Ig

namespace Go.Proofs.YtnifmfdlocgefaaGreat.Ig
open Go.RowKit Kit Tr Uf
open Go.Proofs.YtnifmfdlocgefaaGreat.Hs (Keys Ints BoxT layI Dist findR_any)
open Go.Proofs.YtnifmfdlocgefaaGreat.Tm (Tm termAt of_any key_any KeyPost Box4 LookPost)
set_option maxHeartbeats 400000 in
theorem place12 (a m : Int) (w : World) : Calls Tryz.prog 187 #[.int .i64 a, .int .i64 m] w fun e w' => e = .returned (.bool (decide (0 ≤ a) && decide (a < m))) ∧ w = w' := by
  by_cases h : 0 ≤ a
  · have hd : decide (0 ≤ a) = true := decide_eq_true h
    rw [hd]
    go_enter Tryz.func187, Tryz.ntmps187
    go_wp2_with fail
    go_ret
    exact ⟨rfl, rfl⟩
  · have hd : decide (0 ≤ a) = false := decide_eq_false h
    rw [hd]
    go_enter Tryz.func187, Tryz.ntmps187
    go_wp2_with fail
    go_ret
    exact ⟨rfl, rfl⟩

set_option maxRecDepth 100000 in
set_option maxHeartbeats 1000000 in
theorem there12 (m : Nat) (r b2 b3 : Value) (Av Pa Ta : Option Addr) (cv cp ct : Nat) (v : Int) (w : World) :
    Calls Tryz.prog 127 #[.agg #[r, .slice Av m cv, b2, b3, .slice Pa m cp, .slice Ta m ct], .int .i64 v] w fun e w' => e = .returned (.bool (decide (0 ≤ v) && decide (v < (m : Int)))) ∧ Q w w' := by
  have q0 := (Q.refl w).alloc (Obj.cells #[r, .slice Av m cv, b2, b3, .slice Pa m cp, .slice Ta m ct] 31)
  have hm : (if (m : Int) < (if (m : Int) < (m : Int) then (m : Int) else (m : Int)) then (m : Int) else (if (m : Int) < (m : Int) then (m : Int) else (m : Int))) = (m : Int) := by simp
  go_enter Tryz.func127, Tryz.ntmps127
  go_wp2_with (go_at_call 187; refine (place12 v m _).mono ?_; rintro e w1 ⟨rfl, rfl⟩)
  go_ret
  exact ⟨rfl, q0⟩

/-- what the laws ask of a store -/
structure OkS (ks : List (List Int)) : Prop where
  dist : Dist ks
  len : ks.length ≤ 5000
  key : ∀ k ∈ ks, k.length ≤ 100000
  var : ∀ id t, termAt ks id = some t → t.k = 2 → 0 ≤ t.s
theorem numV_def (ks : List (List Int)) (m : Nat) (id : Int) : numV ks m id = if (termAt ks id).isSome = true ∧ ((termAt ks id).getD Tm.none).k = 2 ∧ ((termAt ks id).getD Tm.none).s < (m : Int) then ((termAt ks id).getD Tm.none).s else -1 := rfl
/-- a place's variable, or nought -/
def varN (ks : List (List Int)) (m : Nat) (id : Int) : Int := if 0 ≤ numV ks m id then numV ks m id else 0

set_option maxRecDepth 100000 in
set_option maxHeartbeats 4000000 in
theorem variable12 (A S Av Pa Ta : Option Addr) (n c ms d m cv cp ct : Nat) (r b2 b3 : Value) (ks : List (List Int)) (id : Int) (w : World) (hn : n = ks.length) (hk : Keys w w.heap.size A ks) (hO : OkS ks) :
    Calls Tryz.prog 267 #[.agg #[.slice A n c, .slice S ms d], .agg #[r, .slice Av m cv, b2, b3, .slice Pa m cp, .slice Ta m ct], .int .i64 id] w fun e w' => e = .returned (.tuple #[.int .i64 (varN ks m id), .bool (decide (0 ≤ numV ks m id))]) ∧ Q w w' := by
  subst hn
  have q0 := ((Q.refl w).alloc (Obj.cells #[Value.slice A ks.length c, Value.slice S ms d] 26)).alloc (Obj.cells #[r, .slice Av m cv, b2, b3, .slice Pa m cp, .slice Ta m ct] 31)
  have HB := Lib.hid ((BoxT.new w (Value.slice A ks.length c) (Value.slice S ms d) 26).q ((Q.refl _).alloc (Obj.cells #[r, .slice Av m cv, b2, b3, .slice Pa m cp, .slice Ta m ct] 31)))
  have X := Box6.new (w.alloc (Obj.cells #[Value.slice A ks.length c, Value.slice S ms d] 26)) r (.slice Av m cv) b2 b3 (.slice Pa m cp) (.slice Ta m ct) 31
  rw [World.size_alloc] at X
  have HG := Lib.hid X
  have Hk := Lib.hid ((hk.q (Nat.le_refl _) q0).more q0.size)
  have HV := Lib.hid hO.var
  have HN := Lib.hid (numV_def ks m id)
  have HW : Hid (varN ks m id = if 0 ≤ numV ks m id then numV ks m id else 0) := rfl
  have hkey := hO.key
  clear hk X hO
  go_enter Tryz.func267, Tryz.ntmps267
  go_upto_region 1 with fail
  generalize (w.alloc (Obj.cells #[Value.slice A ks.length c, Value.slice S ms d] 26)).alloc (Obj.cells #[r, .slice Av m cv, b2, b3, .slice Pa m cp, .slice Ta m ct] 31) = W0 at *
  have b0 := HB.out.c0
  have b1' := HB.out.c1
  have C := Lib.hid (of_any A S _ c ms d ks id W0 rfl Hk.out hkey)
  clear hkey
  go_upto_region 2 with (go_at_call 167; refine C.out.mono ?_; rintro e w2 ⟨At, nt, ct', rfl, rfl, _, q1⟩)
  have HV2 : Hid ((termAt ks id).isSome = true → ((termAt ks id).getD Tm.none).k = 2 → 0 ≤ ((termAt ks id).getD Tm.none).s) := fun h => by
    cases e : termAt ks id with
    | none => rw [e] at h; cases h
    | some t => exact HV.out id t e
  clear HV
  generalize (termAt ks id).isSome = is at *
  generalize (termAt ks id).getD Tm.none = t at *
  have qt := q1.alloc (Obj.cells #[.int .i64 t.k, .int .i64 t.s, .int .i64 t.p, .slice At t.xs.length ct'] 175)
  have HGq := Lib.hid (HG.out.q qt)
  have g0 := HGq.out.c0
  have g1 := HGq.out.c1
  have g2 := HGq.out.c2
  have g3 := HGq.out.c3
  have g4 := HGq.out.c4
  have g5 := HGq.out.c5
  have X := Box4.new w2 (.int .i64 t.k) (.int .i64 t.s) (.int .i64 t.p) (.slice At t.xs.length ct') 175
  have x0 := X.c0
  have HQt := Lib.hid qt
  have x1 := X.c1
  clear X C b0 b1' q1
  have no : numV ks m id = -1 → varN ks m id = 0 ∧ decide (0 ≤ numV ks m id) = false := fun h => by rw [HW.out, h]; exact ⟨rfl, rfl⟩
  cases is
  · obtain ⟨e1, e2⟩ := no (by rw [HN.out, if_neg (fun h => by cases h.1)])
    have E1 := Lib.hid e1
    have E2 := Lib.hid e2
    clear e1 e2 no
    go_wp2_with fail
    go_ret2
    exact ⟨by rw [E1.out, E2.out]; rfl, q0.trans qt⟩
  · by_cases h2 : t.k = 2
    · have d2 : (t.k != 2) = false := by simp [h2]
      have hs0 : 0 ≤ t.s := HV2.out rfl h2
      have d3 : decide (0 ≤ t.s) = true := decide_eq_true hs0
      have HC : Hid (Calls Tryz.prog 127 #[.agg #[r, .slice Av m cv, b2, b3, .slice Pa m cp, .slice Ta m ct], .int .i64 t.s] (w2.alloc (Obj.cells #[.int .i64 t.k, .int .i64 t.s, .int .i64 t.p, .slice At t.xs.length ct'] 175)) fun e w' => e = .returned (.bool (decide (0 ≤ t.s) && decide (t.s < (m : Int)))) ∧ Q (w2.alloc (Obj.cells #[.int .i64 t.k, .int .i64 t.s, .int .i64 t.p, .slice At t.xs.length ct'] 175)) w') := there12 m r b2 b3 Av Pa Ta cv cp ct t.s _
      rw [d3, Bool.true_and] at HC
      have HB4 := Lib.hid (Box4.new w2 (.int .i64 t.k) (.int .i64 t.s) (.int .i64 t.p) (.slice At t.xs.length ct') 175)
      by_cases hs : t.s < (m : Int)
      · have d4 : decide (t.s < (m : Int)) = true := decide_eq_true hs
        rw [d4] at HC
        have E1 : Hid (numV ks m id = t.s) := by unfold Hid; rw [HN.out, if_pos ⟨rfl, h2, hs⟩]
        have E2 : Hid (varN ks m id = t.s) := by unfold Hid; rw [HW.out, E1.out, if_pos hs0]
        have E3 := Lib.hid d3
        clear h2 hs hs0 no d3 d4
        generalize w2.alloc (Obj.cells #[.int .i64 t.k, .int .i64 t.s, .int .i64 t.p, .slice At t.xs.length ct'] 175) = W2 at *
        go_wp2_with (go_at_call 127; refine HC.out.mono ?_; rintro e w3 ⟨rfl, q3⟩; have y1 := (HB4.out.q q3).c1)
        go_ret2
        exact ⟨by rw [E1.out, E2.out, E3.out]; rfl, q0.trans (HQt.out.trans q3)⟩
      · have d4 : decide (t.s < (m : Int)) = false := decide_eq_false hs
        rw [d4] at HC
        obtain ⟨e1, e2⟩ := no (by rw [HN.out, if_neg (fun h => hs h.2.2)])
        have E1 := Lib.hid e1
        have E2 := Lib.hid e2
        clear h2 hs hs0 no d3 d4 e1 e2
        generalize w2.alloc (Obj.cells #[.int .i64 t.k, .int .i64 t.s, .int .i64 t.p, .slice At t.xs.length ct'] 175) = W2 at *
        go_wp2_with (go_at_call 127; refine HC.out.mono ?_; rintro e w3 ⟨rfl, q3⟩)
        go_ret2
        exact ⟨by rw [E1.out, E2.out]; rfl, q0.trans (HQt.out.trans q3)⟩
    · have d2 : (t.k != 2) = true := by simpa using h2
      obtain ⟨e1, e2⟩ := no (by rw [HN.out, if_neg (fun h => h2 h.2.1)])
      have E1 := Lib.hid e1
      have E2 := Lib.hid e2
      clear h2 e1 e2 no
      go_wp2_with fail
      go_ret2
      exact ⟨by rw [E1.out, E2.out]; rfl, q0.trans qt⟩

set_option maxRecDepth 100000 in
set_option maxHeartbeats 2000000 in
theorem placeOf12 (A S : Option Addr) (n c m d : Nat) (ks : List (List Int)) (v : Int) (w : World) (hn : n = ks.length) (hm : m = (layI ks).length) (hk : Keys w w.heap.size A ks) (hS : Ints w w.heap.size S (layI ks)) (hO : OkS ks) :
    Calls Tryz.prog 129 #[.agg #[.slice A n c, .slice S m d], .int .i64 v] w fun e w' => e = .returned (.int .i64 (atV ks v)) ∧ Q w w' := by
  subst hn hm
  have q0 := (Q.refl w).alloc (Obj.cells #[Value.slice A ks.length c, Value.slice S (layI ks).length d] 26)
  have HB := Lib.hid (BoxT.new w (Value.slice A ks.length c) (Value.slice S (layI ks).length d) 26)
  have Hk := Lib.hid ((hk.q (Nat.le_refl _) q0).more q0.size)
  have HS := Lib.hid ((hS.q (Nat.le_refl _) q0).more q0.size)
  have HO := Lib.hid hO
  clear hk hS hO
  go_enter Tryz.func129, Tryz.ntmps129
  go_upto_region 1 with fail
  generalize w.alloc (Obj.cells #[Value.slice A ks.length c, Value.slice S (layI ks).length d] 26) = W0 at *
  have b0 := HB.out.c0
  have b1 := HB.out.c1
  have hlt := HB.out.lt
  have CK : Hid (∀ W, Calls Tryz.prog 192 #[.agg #[.int .i64 2, .int .i64 v, .int .i64 0, .slice none 0 0]] W (KeyPost [2, v, 0] W)) := fun W => key_any none 0 0 2 v 0 [] W rfl (fun h => absurd h (by simp)) (by simp)
  have CF : Hid (∀ W g cc, Q W0 W → Hs.OwnI W g [2, v, 0] → Calls Tryz.prog 191 #[.agg #[.slice A ks.length c, .slice S (layI ks).length d], .slice (some ⟨g, 0, none⟩) 3 cc] W fun e w' => e = .returned (.int .i64 (atV ks v)) ∧ Q W w') := fun W g cc q ho =>
    findR_any A S _ _ c _ d 3 cc ks [2, v, 0] W rfl rfl rfl ((Hk.out.q (Nat.le_refl _) q).more q.size) ((HS.out.q (Nat.le_refl _) q).more q.size) ho.ints HO.out.dist (fun k h => Nat.le_trans (HO.out.key k h) (by unfold maxLen; omega)) (by unfold maxLen; simp) HO.out.len
  go_region_held3 (fun w' => w'.cell? ⟨w.heap.size, 0, none⟩ = some (.slice A ks.length c) ∧ w'.cell? ⟨w.heap.size, 1, none⟩ = some (.slice S (layI ks).length d))
    (first
      | go_keep
      | exact ⟨(p2.cell (p := ⟨w.heap.size, 0, none⟩) hlt).trans b0, (p2.cell (p := ⟨w.heap.size, 1, none⟩) hlt).trans b1⟩
      | exact ⟨(p1.cell (p := ⟨w.heap.size, 0, none⟩) hlt).trans b0, (p1.cell (p := ⟨w.heap.size, 1, none⟩) hlt).trans b1⟩)
    (first
      | (go_at_call 192; (with_reducible refine (CK.out _).mono ?_); rintro e w1 ⟨g1, c1, rfl, -, -, o1, q1⟩; have O1 := Lib.hid o1; clear o1; have p1 : Q W0 w1 := (Q.refl W0).drew.trans q1)
      | (go_at_call 191; (with_reducible refine (CF.out _ _ _ p1 O1.out).mono ?_); rintro e w2 ⟨rfl, q2⟩; have p2 : Q W0 w2 := p1.trans q2))
  go_wp2_with fail
  go_ret
  exact ⟨rfl, q0.trans p2⟩

set_option maxRecDepth 100000 in
set_option maxHeartbeats 4000000 in
theorem rep12 (R V : List Int) (A S Av D E Pa Ta : Option Addr) (N : List Note) (M : List Int) (n c ms d nv cv n2 k2 n3 k3 cp ct np nt : Nat) (r : Value) (ks : List (List Int)) (id : Int) (w : World) (hn : n = ks.length) (hm : ms = (layI ks).length) (hk : Keys w w.heap.size A ks) (hS : Ints w w.heap.size S (layI ks)) (hO : OkS ks)
    (hnv : nv = V.length) (hv : Rd w ⟨V, N, M⟩ Av cv D k2 E k3) (h2 : n2 = N.length) (h3 : n3 = M.length) (hC : Cl R V) (hlv : V.length ≤ 1000000) (hp : np = V.length) (ht : nt = V.length) (hA : allV ks V.length = true) :
    Calls Tryz.prog 193 #[.agg #[.slice A n c, .slice S ms d], .agg #[r, .slice Av nv cv, .slice D n2 k2, .slice E n3 k3, .slice Pa np cp, .slice Ta nt ct], .int .i64 id] w fun e w' => e = .returned (.int .i64 (repV ks V id)) ∧ Q w w' := by
  subst hn hm hnv h2 h3 hp ht
  have q0 := ((Q.refl w).alloc (Obj.cells #[Value.slice A ks.length c, Value.slice S (layI ks).length d] 26)).alloc (Obj.cells #[r, Value.slice Av V.length cv, .slice D N.length k2, .slice E M.length k3, .slice Pa V.length cp, .slice Ta V.length ct] 31)
  have HB := Lib.hid ((BoxT.new w (Value.slice A ks.length c) (Value.slice S (layI ks).length d) 26).q ((Q.refl _).alloc (Obj.cells #[r, Value.slice Av V.length cv, .slice D N.length k2, .slice E M.length k3, .slice Pa V.length cp, .slice Ta V.length ct] 31)))
  have X := Box6.new (w.alloc (Obj.cells #[Value.slice A ks.length c, Value.slice S (layI ks).length d] 26)) r (Value.slice Av V.length cv) (.slice D N.length k2) (.slice E M.length k3) (.slice Pa V.length cp) (.slice Ta V.length ct) 31
  rw [World.size_alloc] at X
  have HG := Lib.hid X
  have Hk := Lib.hid ((hk.q (Nat.le_refl _) q0).more q0.size)
  have HS := Lib.hid ((hS.q (Nat.le_refl _) q0).more q0.size)
  have Hv := Lib.hid (hv.q q0)
  have HO := Lib.hid hO
  have HP : Hid (repV ks V id = if numV ks V.length id < 0 then id else atV ks (fst V (numV ks V.length id).toNat : Int)) := rfl
  have HL := fun h => numV_lt (ks := ks) (m := V.length) (id := id) h
  have HW : Hid (varN ks V.length id = if 0 ≤ numV ks V.length id then numV ks V.length id else 0) := rfl
  have HA : Hid (∀ v : Nat, v < V.length → 0 ≤ atV ks v) := Lib.hid (of_decide_eq_true hA)
  clear hk hS hv X hO hA
  go_enter Tryz.func193, Tryz.ntmps193
  go_upto_region 1 with fail
  generalize (w.alloc (Obj.cells #[Value.slice A ks.length c, Value.slice S (layI ks).length d] 26)).alloc (Obj.cells #[r, Value.slice Av V.length cv, .slice D N.length k2, .slice E M.length k3, .slice Pa V.length cp, .slice Ta V.length ct] 31) = W0 at *
  have b0 := HB.out.c0
  have b1' := HB.out.c1
  have g0 := HG.out.c0
  have g1 := HG.out.c1
  have g2 := HG.out.c2
  have g3 := HG.out.c3
  have g4 := HG.out.c4
  have g5 := HG.out.c5
  have C := Lib.hid (variable12 A S Av Pa Ta _ c (layI ks).length d V.length cv cp ct r (.slice D N.length k2) (.slice E M.length k3) ks id W0 rfl Hk.out HO.out)
  go_upto_region 2 with (go_at_call 267; refine C.out.mono ?_; rintro e w2 ⟨rfl, q1⟩)
  generalize varN ks V.length id = y at *
  generalize numV ks V.length id = x at *
  clear b0 b1' g0 g1 g2 g3 g4 g5 C
  by_cases hx : x < 0
  · have d0 : decide (0 ≤ x) = false := decide_eq_false (by omega)
    have HF : Hid (repV ks V id = id) := by unfold Hid; rw [HP.out, if_pos hx]
    rw [d0]
    clear hx HL d0
    go_wp2_with fail
    go_ret
    exact ⟨by rw [HF.out]; rfl, q0.trans q1⟩
  · have d0 : decide (0 ≤ x) = true := decide_eq_true (by omega)
    have hy : y = x := by rw [HW.out, if_pos (by omega)]
    have HF : Hid (repV ks V id = atV ks (fst V x.toNat : Int)) := by unfold Hid; rw [HP.out, if_neg hx]
    have hm := HL (by omega)
    subst hy
    obtain ⟨z, rfl⟩ : ∃ z : Nat, y = (z : Int) := ⟨y.toNat, by omega⟩
    rw [Int.toNat_natCast] at HF hm
    rw [d0]
    have hfz := (hC.fst_in z hm).1
    have HF0 := Lib.hid (HA.out _ hfz)
    have HBq := Lib.hid (HB.out.q q1)
    have HGq := Lib.hid (HG.out.q q1)
    have Hkq := Lib.hid ((Hk.out.q (Nat.le_refl _) q1).more q1.size)
    have HSq := Lib.hid ((HS.out.q (Nat.le_refl _) q1).more q1.size)
    have Hvq := Lib.hid (Hv.out.q q1)
    have b0 := HBq.out.c0
    have b1' := HBq.out.c1
    have g1 := HGq.out.c1
    have g2 := HGq.out.c2
    have g3 := HGq.out.c3
    have l0 := HBq.out.lt
    have l1 := HGq.out.lt
    have CF : Hid (∀ W, Q w2 W → Calls Tryz.prog 65 #[.agg #[.slice Av V.length cv, .slice D N.length k2, .slice E M.length k3], .int .i64 (z : Int)] W fun e W' => e = .returned (.int .i64 (fst V z : Int)) ∧ Q W W') := fun W q => find_any R ⟨V, N, M⟩ z Av D E V.length cv N.length k2 M.length k3 W rfl rfl rfl (Hvq.out.q q) hC hm hlv
    have CA : Hid (∀ W, Q w2 W → Calls Tryz.prog 129 #[.agg #[.slice A ks.length c, .slice S (layI ks).length d], .int .i64 (fst V z : Int)] W fun e W' => e = .returned (.int .i64 (atV ks (fst V z : Int))) ∧ Q W W') := fun W q => placeOf12 A S _ c _ d ks _ W rfl rfl ((Hkq.out.q (Nat.le_refl _) q).more q.size) ((HSq.out.q (Nat.le_refl _) q).more q.size) HO.out
    clear hx HL hm hC hlv hfz d0 HW HA HP
    go_upto_region 4 with fail
    go_region_held3 (fun w' => w'.cell? ⟨w.heap.size, 0, none⟩ = some (.slice A ks.length c) ∧ w'.cell? ⟨w.heap.size, 1, none⟩ = some (.slice S (layI ks).length d) ∧ w'.cell? ⟨w.heap.size + 1, 1, none⟩ = some (.slice Av V.length cv) ∧ w'.cell? ⟨w.heap.size + 1, 2, none⟩ = some (.slice D N.length k2) ∧ w'.cell? ⟨w.heap.size + 1, 3, none⟩ = some (.slice E M.length k3))
      (first
        | go_keep
        | exact ⟨(p3.cell (p := ⟨w.heap.size, 0, none⟩) l0).trans b0, (p3.cell (p := ⟨w.heap.size, 1, none⟩) l0).trans b1', (p3.cell (p := ⟨w.heap.size + 1, 1, none⟩) l1).trans g1, (p3.cell (p := ⟨w.heap.size + 1, 2, none⟩) l1).trans g2, (p3.cell (p := ⟨w.heap.size + 1, 3, none⟩) l1).trans g3⟩
        | exact ⟨(p2.cell (p := ⟨w.heap.size, 0, none⟩) l0).trans b0, (p2.cell (p := ⟨w.heap.size, 1, none⟩) l0).trans b1', (p2.cell (p := ⟨w.heap.size + 1, 1, none⟩) l1).trans g1, (p2.cell (p := ⟨w.heap.size + 1, 2, none⟩) l1).trans g2, (p2.cell (p := ⟨w.heap.size + 1, 3, none⟩) l1).trans g3⟩)
      (first
        | (go_at_call 65; (with_reducible refine (CF.out _ (Q.refl w2).drew).mono ?_); rintro e w3 ⟨rfl, q2⟩; have p2 : Q w2 w3 := (Q.refl w2).drew.trans q2)
        | (go_at_call 129; (with_reducible refine (CA.out _ p2).mono ?_); rintro e w4 ⟨rfl, q3⟩; have p3 : Q w2 w4 := p2.trans q3))
    have d5 : decide (0 ≤ atV ks (fst V z : Int)) = true := decide_eq_true HF0.out
    have d6 : decide (atV ks (fst V z : Int) < 0) = false := decide_eq_false (by have := HF0.out; omega)
    generalize atV ks (fst V z : Int) = a at *
    go_wp2_with fail
    go_ret
    exact ⟨by rw [HF.out]; rfl, (q0.trans q1).trans p3⟩
end Go.Proofs.YtnifmfdlocgefaaGreat.Ig

namespace Go.Proofs.YtnifmfdlocgefaaGreat.Ig
open Go.RowKit Kit Tr Uf
open Go.Proofs.YtnifmfdlocgefaaGreat.Hs (Keys Ints layI atI atI_cases Dist few_sum mem_len fewB)
open Go.Proofs.YtnifmfdlocgefaaGreat.Tm (Tm Store termAt termAt_at termAt_out ofKey isPl isPl_iff keyOk storeB store_iff mayB standB)
theorem termAt_key {ks : List (List Int)} {i : Nat} {key : List Int} (h : ks[i]? = some key) (h3 : 3 ≤ key.length) : termAt ks (i : Int) = some (ofKey key) := by
  obtain ⟨hi, e⟩ := List.getElem?_eq_some_iff.1 h
  subst e
  exact termAt_at hi h3
theorem okS_of {L : List Sg.Sig} {ks : List (List Int)} (hS : Store L ks) (hl : ks.length ≤ 5000) (hk : ∀ k ∈ ks, k.length ≤ 100000) : OkS ks := by
  refine ⟨hS.dist, hl, hk, fun id t ht h2 => ?_⟩
  cases hp : isPl id ks.length with
  | false => rw [termAt_out hp] at ht; cases ht
  | true =>
    obtain ⟨h0, h4⟩ := (isPl_iff _ _).1 hp
    obtain ⟨i, rfl⟩ := Int.eq_ofNat_of_zero_le h0
    have hi : i < ks.length := by omega
    have hok := hS.ok i ks[i] (List.getElem?_eq_getElem hi)
    by_cases h3 : 3 ≤ ks[i].length
    · rw [termAt_at hi h3] at ht
      injection ht with ht
      subst ht
      unfold keyOk at hok
      simp only [Bool.and_eq_true] at hok
      have hm := hok.1.2
      unfold mayB at hm
      simp only [Bool.and_eq_true] at hm
      have hst := hm.1.1
      unfold standB at hst
      rw [if_pos h2, Bool.and_eq_true] at hst
      exact of_decide_eq_true hst.1
    · rw [Tm.termAt_short hi (by omega)] at ht; cases ht
theorem of12_plain {L : List Sg.Sig} {ks : List (List Int)} {sl R : List Int} {c : Cells} {P T : List (List Int)} (h : of12B L ks sl R c P T = true) : OkS ks ∧ sl = layI ks ∧ (R.length ≤ 1000 ∧ Few c 1000 ∧ P.length ≤ 1000 ∧ T.length ≤ 1000 ∧ (∀ k ∈ P, k.length ≤ 1000) ∧ (∀ k ∈ T, k.length ≤ 1000)) ∧ Cl R c.V ∧ P.length = c.V.length ∧ T.length = c.V.length ∧ rightG R ks c P T = true ∧ allV ks c.V.length = true := by
  obtain ⟨⟨_, hf, hst⟩, h4, h5, h6⟩ := of12_ok h
  have hsum := few_sum hf
  obtain ⟨hS, hsl⟩ := (store_iff _ _ _).1 hst
  have hg := h5
  unfold rightG at hg
  simp only [Bool.and_eq_true, decide_eq_true_eq] at hg
  exact ⟨okS_of hS (by omega) (fun k hk => by have := mem_len hk; omega), hsl, few12_ok h4, cl_of hg.1.1.1.1.1, hg.1.1.2, hg.1.2, h5, h6⟩
end Go.Proofs.YtnifmfdlocgefaaGreat.Ig

namespace Go.Proofs.YtnifmfdlocgefaaGreat.Rw
open Go.RowKit Kit

/-- a slice value that reads these cells, below block B -/
def Rds (w : World) (B : Nat) (A : Option Addr) (cs : List Value) : Prop := 0 < cs.length → ∃ ad, A = some ad ∧ ad.block < B ∧ ∀ j v, cs[j]? = some v → w.cell? (ad.add j) = some v
theorem add_block (a : Addr) (n : Nat) : (a.add n).block = a.block := by unfold Addr.add; split <;> rfl
theorem add_succ (a : Addr) (n : Nat) : a.add (n + 1) = ⟨(a.add n).block, (a.add n).off + 1, none⟩ := by
  unfold Addr.add
  by_cases h : n = 0 <;> simp [h, Nat.add_assoc]
theorem add_zero_head (g j : Nat) : (⟨g, 0, none⟩ : Addr).add j = ⟨g, j, none⟩ := by
  unfold Addr.add
  by_cases h : j = 0 <;> simp [h]
theorem Rds.keep {w w' : World} {B : Nat} {A : Option Addr} {l : List Value} (h : Rds w B A l) (hb : Below B w w') : Rds w' B A l := fun h0 => by
  obtain ⟨ad, e, hlt, hc⟩ := h h0
  exact ⟨ad, e, hlt, fun i s hs => (hb.cell (by rw [add_block]; exact hlt)).trans (hc i s hs)⟩
theorem Rds.more {w : World} {B B' : Nat} {A : Option Addr} {l : List Value} (h : Rds w B A l) (hB : B ≤ B') : Rds w B' A l := fun h0 => by
  obtain ⟨ad, e, hlt, hc⟩ := h h0
  exact ⟨ad, e, by omega, hc⟩
theorem Rds.q {w w' : World} {A : Option Addr} {l : List Value} (h : Rds w w.heap.size A l) (q : Q w w') : Rds w' w'.heap.size A l := (h.keep q).more q.size
theorem Rds.nil (w : World) (B : Nat) (A : Option Addr) : Rds w B A [] := fun h => absurd h (by simp)

theorem Rds.src {w : World} {B : Nat} {A : Option Addr} {l : List Value} (h : Rds w B A l) : Src w A l := fun h0 => by
  obtain ⟨ad, e, _, hc⟩ := h h0
  exact ⟨ad, e, hc⟩

/-- block g holds these cells, from its head on, and may be written -/
def OwnC (w : World) (g : Nat) (cs : List Value) : Prop := g < w.heap.size ∧ ∀ j v, cs[j]? = some v → w.cell? ⟨g, j, none⟩ = some v ∧ w.frozen? ⟨g, j, none⟩ = false
theorem OwnC.rds {w : World} {g : Nat} {cs : List Value} (h : OwnC w g cs) : Rds w w.heap.size (some ⟨g, 0, none⟩) cs := fun _ => ⟨_, rfl, h.1, fun j v hv => by rw [add_zero_head]; exact (h.2 j v hv).1⟩
theorem OwnC.q {w w' : World} {g : Nat} {cs : List Value} (h : OwnC w g cs) (q : Q w w') : OwnC w' g cs :=
  ⟨Nat.lt_of_lt_of_le h.1 q.size, fun i x hx => ⟨(q.cell (p := ⟨g, i, none⟩) h.1).trans (h.2 i x hx).1, (q.frozen (p := ⟨g, i, none⟩) h.1).trans (h.2 i x hx).2⟩⟩
theorem OwnC.far {w : World} {g : Nat} {cs : List Value} (h : OwnC w g cs) {b i : Nat} (hb : b ≠ g) (u : Value) : OwnC (w.setCell ⟨b, i, none⟩ u) g cs :=
  ⟨by simpa [World.setCell] using h.1, fun j v hv => ⟨(World.cell?_setCell_far _ _ _ _ hb).trans (h.2 j v hv).1, by rw [World.frozen?_setCell]; exact (h.2 j v hv).2⟩⟩
theorem OwnC.grown {w w' : World} {g : Nat} {cs : List Value} {row : Option Nat} (h : OwnC w g cs) (hg : w.grownBy w' row) (hr : row ≠ some g) : OwnC w' g cs := by
  have hb := hg.block g h.1 (fun e => hr e.symm)
  exact ⟨Nat.lt_of_lt_of_le h.1 hg.size, fun j v hv => ⟨(World.cell?_of_block (a := ⟨g, j, none⟩) hb).trans (h.2 j v hv).1, (World.frozen?_of_block (a := ⟨g, j, none⟩) hb).trans (h.2 j v hv).2⟩⟩
theorem OwnC.take {w : World} {g : Nat} {cs : List Value} (h : OwnC w g cs) (n : Nat) : OwnC w g (cs.take n) :=
  ⟨h.1, fun j v hv => h.2 j v (by rw [List.getElem?_take] at hv; split at hv; exact hv; cases hv)⟩
theorem setCell_ne {W : World} {B i j : Nat} {v u : Value} (h : i ≠ j) (hc : W.cell? ⟨B, j, none⟩ = some u) : (W.setCell ⟨B, i, none⟩ v).cell? ⟨B, j, none⟩ = some u := by
  have := World.cell?_setCell_other (w := W) (a := ⟨B, i, none⟩) (b := ⟨B, j, none⟩) (v := v) (by intro e; injection e with _ e; exact h e)
  exact this.trans hc
theorem setCell_eq {W : World} {B i : Nat} {v u : Value} (hc : W.cell? ⟨B, i, none⟩ = some u) : (W.setCell ⟨B, i, none⟩ v).cell? ⟨B, i, none⟩ = some v := World.cell?_setCell_same' _ _ _ (by rw [hc]; rfl)
theorem OwnC.set {w : World} {g : Nat} {cs : List Value} (h : OwnC w g cs) {s : Nat} (hs : s < cs.length) (v : Value) : OwnC (w.setCell ⟨g, s, none⟩ v) g (cs.set s v) := by
  refine ⟨by simp [World.setCell]; exact h.1, fun i x hx => ?_⟩
  rw [World.frozen?_setCell]
  by_cases hi : s = i
  · subst hi
    rw [List.getElem?_set_self hs] at hx
    obtain rfl : v = x := by simpa using hx
    have := h.2 s _ (List.getElem?_eq_getElem hs)
    exact ⟨setCell_eq this.1, this.2⟩
  · rw [List.getElem?_set_ne hi] at hx
    exact ⟨setCell_ne hi (h.2 i x hx).1, (h.2 i x hx).2⟩
theorem OwnC.of_row {w : World} {base g n cap size : Nat} {e : TypeId} {cs : List Value} (h : w.ownsRow base e size (.slice (some ⟨g, 0, none⟩) n cap) n cs) : OwnC w g cs := by
  refine ⟨(h.lt g rfl).2, fun j v hv => ⟨?_, h.frozenAt j⟩⟩
  have := h.cells (g := g) rfl j v hv
  rwa [add_zero_head] at this
theorem setCell_grown (w : World) (g j : Nat) (u : Value) : w.grownBy (w.setCell ⟨g, j, none⟩ u) (some g) :=
  ⟨rfl, rfl, rfl, by simp [World.setCell], fun k _ hk => heap_setCell_other w ⟨g, j, none⟩ k u (fun e => hk (by simp [e]))⟩
theorem grown_trans {a b c : World} {row : Option Nat} (h : a.grownBy b row) (k : b.grownBy c row) : a.grownBy c row :=
  ⟨k.os.trans h.os, k.tape.trans h.tape, k.output.trans h.output, Nat.le_trans h.size k.size, fun i hi hr => (k.block i (Nat.lt_of_lt_of_le hi h.size) hr).trans (h.block i hi hr)⟩
theorem grows_q {a b : World} (q : Q a b) (row : Option Nat) : a.grownBy b row := ⟨q.os, q.tape, q.output, q.size, fun i hi _ => q.block i hi⟩
theorem grown_q {a b : World} {g : Nat} (h : a.grownBy b (some g)) {W : World} (hq : Q W a) (hg : W.heap.size ≤ g) : Q W b := Below.grown hq h hq.size (fun k e => by injection e with e; omega)

theorem row_kept {w w' : World} {base base' : Nat} {e : TypeId} {size : Nat} {v : Value} {n : Nat} {xs : List Value} (h : w.ownsRow base e size v n xs) (q : Q w w') (hb : base' ≤ base) : w'.ownsRow base' e size v n xs := by
  have h2 := h.kept (row := none) (grows_q q none) (by cases v.ownBlock <;> simp)
  obtain ⟨a, b⟩ := h2
  refine ⟨a, ?_⟩
  rcases b with b | ⟨g, cap, cur, r1, r2, r⟩
  · exact .inl b
  · exact .inr ⟨g, cap, cur, r1, Nat.le_trans hb r2, r⟩
theorem src_alloc (w : World) (cs : List Value) (t : TypeId) (fr : Nat × Nat) : Src (w.alloc (.cells cs.toArray t fr)) (some ⟨w.heap.size, 0, none⟩) cs := by
  have := src_block (heap_alloc_new w (.cells cs.toArray t fr))
  simpa using this
theorem own_nil (w : World) (base : Nat) (e : TypeId) (size : Nat) : w.ownsRow base e size (.slice none 0 0) 0 [] := ⟨by simp, .inl ⟨rfl, rfl⟩⟩
theorem own_read {w : World} {base size n : Nat} {e : TypeId} {v : Value} {cs : List Value} (h : w.ownsRow base e size v n cs) : ∃ A c, v = .slice A n c ∧ n ≤ c ∧ Rds w w.heap.size A cs := by
  have h2 := h
  obtain ⟨hl, ⟨rfl, h0⟩ | ⟨g, cap, cur, rfl, hg, hh, hc, _⟩⟩ := h
  · subst h0
    exact ⟨none, 0, rfl, by omega, fun h => by omega⟩
  · exact ⟨_, cap, rfl, hc, (OwnC.of_row h2).rds⟩
theorem q_drewN (w : World) {w' : World} (h : ∃ d, w' = w.drewN d) : Q w w' := by
  obtain ⟨d, rfl⟩ := h
  exact (Q.refl w).drewN d
end Go.Proofs.YtnifmfdlocgefaaGreat.Rw

namespace Go.Proofs.YtnifmfdlocgefaaGreat.Rw
open Go.ChangeShapes Go.WideShapes Go.RowKit Kit Go.Deep Go.Joins

theorem weights_all {H : Type} {P : Program} {e : TypeId} : ∀ {ds : List (DataW H)} {d : DataW H}, d ∈ ds → ∀ n ∈ d.weights P e, n ∈ DataW.weightsAll P e ds
  | x :: l, d, h, n, hn => by
    simp only [DataW.weightsAll, List.mem_append]
    rcases List.mem_cons.1 h with rfl | h
    · exact .inl hn
    · exact .inr (weights_all h n hn)
section
variable {H : Type} {enc : TypeId × Value → H} {P : Program} {w : World} {base : Nat} {spare : Nat → Bool} {held : Bool}
end
end Go.Proofs.YtnifmfdlocgefaaGreat.Rw

namespace Go.Proofs.YtnifmfdlocgefaaGreat.Sg
open Go.ChangeShapes Go.WideShapes Go.RowKit Kit Go.Deep Go.Joins
section
variable {H : Type} {enc : TypeId × Value → H} {W : World}
theorem open_sigs_cells10 {fuel : Nat} {v : Value} {y : DataW H × List MemPlace} (hf : DataW.trod enc Tryz.prog W 0 (fun _ => true) true fuel 22 [v] = some y) :
    ∃ A n c l, v = .slice A n c ∧ n = l.length ∧ Row W W.heap.size A l ∧ l.length ≤ maxLen ∧ Sized l ∧ n ≤ c := by
  rcases open_slice_pairs Tryz.underlying22 Tryz.underlying124 (by kernel_rfl) rfl rfl (by kernel_rfl) (by kernel_rfl) hf with ⟨h0, _⟩ | ⟨ad, len', cap', m, n, V0, V1, D0, D1, P0, P1, hcs, _, hl, hm, hmm, _, hi⟩
  · simp only [List.cons.injEq, and_true] at h0
    subst h0
    exact ⟨_, _, _, [], rfl, rfl, fun h => absurd h (by simp), by simp, (fun s hs => by cases hs), Nat.le_refl _⟩
  · simp only [List.cons.injEq, and_true] at hcs
    subst hcs
    obtain ⟨len, hlen'⟩ : ∃ len, len = len' := ⟨_, rfl⟩
    subst hlen'
    have hlm : len ≤ m := by rw [hmm]; split <;> omega
    have each : ∀ i, i < len → ∃ s : Sig, W.cell? (ad.add (i * 2)) = some (.string s.1) ∧ W.cell? (ad.add (i * 2 + 1)) = some (.string s.2) ∧ s.1.size ≤ maxLen ∧ s.2.size ≤ maxLen := fun i hil => by
      obtain ⟨c0, c1, t0, t1⟩ := hi i (by omega)
      obtain ⟨s0, e0, _, z0⟩ := DataW.trod_string Tryz.underlying9 t0
      obtain ⟨s1, e1, _, z1⟩ := DataW.trod_string Tryz.underlying9 t1
      simp only [List.cons.injEq, and_true] at e0 e1
      exact ⟨(s0, s1), by rw [c0, e0], by rw [c1, e1], z0, z1⟩
    obtain ⟨q, hq⟩ := choose_lt each
    refine ⟨_, _, _, (List.range len).map q, rfl, by simp, fun h0 => ⟨ad, rfl, ?_, fun i s hs => ?_⟩, by simp; omega, fun s hs => ?_, hl⟩
    · have := (hq 0 (by simpa using h0)).1
      have := World.block_lt_of_cell? W _ this
      rwa [add_block] at this
    · have hil : i < len := by
        have := (List.getElem?_eq_some_iff.1 hs).1
        simpa using this
      have e : s = q i := by
        rw [List.getElem?_map, List.getElem?_range hil] at hs
        simpa using hs.symm
      subst e
      obtain ⟨c0, c1, _, _⟩ := hq i hil
      rw [add_succ] at c1
      exact ⟨c0, c1⟩
    · simp only [List.mem_map, List.mem_range] at hs
      obtain ⟨i, hil, rfl⟩ := hs
      exact (hq i hil).2.2
end
end Go.Proofs.YtnifmfdlocgefaaGreat.Sg
namespace Go.Proofs.YtnifmfdlocgefaaGreat.St
open Go.ChangeShapes Go.WideShapes Go.RowKit Kit Rw Go.Deep Go.Joins
open Go.Proofs.YtnifmfdlocgefaaGreat.Sg (Sig Row Sized)
open Go.Proofs.YtnifmfdlocgefaaGreat.Hs (Keys Ints)
section
variable {H : Type} {enc : TypeId × Value → H} {P : Program} {w : World} {base : Nat} {spare : Nat → Bool} {held : Bool}
set_option maxRecDepth 100000 in
theorem open_two10 {t : TypeId} {f0 f1 : Field} {fuel : Nat} {c0 c1 : Value} {x : DataW H × List MemPlace} (hs : P.underlying t = some (.struct #[f0, f1]))
    (o0 : f0.offset = 0) (k0 : P.cellsOf f0.type = 1) (o1 : f1.offset = 1) (k1 : P.cellsOf f1.type = 1) (h : DataW.trod enc P w base spare held fuel t [c0, c1] = some x) :
    ∃ (y0 y1 : DataW H × List MemPlace) (n : Nat), x.1 = .agg [y0.1, y1.1] ∧ DataW.trod enc P w base spare held n f0.type [c0] = some y0 ∧ DataW.trod enc P w base spare held n f1.type [c1] = some y1 := by
  obtain ⟨xs, n, _, hx, _, hlen, hg⟩ := DataW.trod_struct hs h
  match xs, hlen with
  | [y0, y1], _ => exact ⟨y0, y1, n, by rw [hx]; rfl, by simpa [o0, k0] using hg 0 f0 rfl, by simpa [o1, k1] using hg 1 f1 rfl⟩
end
section
variable {H : Type} {enc : TypeId × Value → H} {W : World} {base : Nat}
end
end Go.Proofs.YtnifmfdlocgefaaGreat.St

namespace Go.Proofs.YtnifmfdlocgefaaGreat.Ig
open Go.ChangeShapes Go.WideShapes Go.RowKit Kit Go.Deep Go.Joins
open Go.Proofs.YtnifmfdlocgefaaGreat.Sg (Sig Row Sized)
open Go.Proofs.YtnifmfdlocgefaaGreat.Hs (Keys Ints)
open Go.Proofs.YtnifmfdlocgefaaGreat.Tr (cellsI cellsP Cells Rd Few)
section
variable {H : Type} {enc : TypeId × Value → H} {P : Program} {w : World} {base : Nat} {spare : Nat → Bool} {held : Bool}
set_option maxRecDepth 100000 in
theorem open_nest12_5 {r : Go.Reach} {b0 : Nat} {t : TypeId} {f0 f1 f2 f3 f4 : Field} {v : Value} {d : DataW H} {p : List MemPlace} (hs : P.underlying t = some (.struct #[f0, f1, f2, f3, f4])) (hC : P.cellsOf t = 11)
    (o0 : f0.offset = 0) (k0 : P.cellsOf f0.type = 1) (o1 : f1.offset = 1) (k1 : P.cellsOf f1.type = 2) (o2 : f2.offset = 3) (k2 : P.cellsOf f2.type = 6) (o3 : f3.offset = 9) (k3 : P.cellsOf f3.type = 1) (o4 : f4.offset = 10) (k4 : P.cellsOf f4.type = 1)
    (hv : Value.okWide P w r b0 t v) (h : DataW.Trod enc P w base spare held t v d p) :
    ∃ (c0 c1 c2 c3 c4 c5 c6 c7 c8 c9 c10 : Value) (y0 y1 y2 y3 y4 : DataW H × List MemPlace) (n : Nat), v = .agg #[c0, c1, c2, c3, c4, c5, c6, c7, c8, c9, c10] ∧ d = .agg [y0.1, y1.1, y2.1, y3.1, y4.1] ∧ DataW.trod enc P w base spare held n f0.type [c0] = some y0 ∧ DataW.trod enc P w base spare held n f1.type [c1, c2] = some y1 ∧ DataW.trod enc P w base spare held n f2.type [c3, c4, c5, c6, c7, c8] = some y2 ∧ DataW.trod enc P w base spare held n f3.type [c9] = some y3 ∧ DataW.trod enc P w base spare held n f4.type [c10] = some y4 := by
  obtain ⟨cs, rfl, hsz⟩ := okWide_struct hs hv
  obtain ⟨l⟩ := cs
  match l, hsz.trans hC with
  | [c0, c1, c2, c3, c4, c5, c6, c7, c8, c9, c10], _ =>
    obtain ⟨fuel, hf⟩ := h
    obtain ⟨xs, n, _, hx, _, hlen, hg⟩ := DataW.trod_struct hs hf
    match xs, hlen with
    | [y0, y1, y2, y3, y4], _ =>
      simp only [Prod.mk.injEq] at hx
      exact ⟨c0, c1, c2, c3, c4, c5, c6, c7, c8, c9, c10, y0, y1, y2, y3, y4, n, rfl, by simpa using hx.1, by simpa [Value.cells, o0, k0] using hg 0 f0 rfl, by simpa [Value.cells, o1, k1] using hg 1 f1 rfl, by simpa [Value.cells, o2, k2] using hg 2 f2 rfl, by simpa [Value.cells, o3, k3] using hg 3 f3 rfl, by simpa [Value.cells, o4, k4] using hg 4 f4 rfl⟩
set_option maxRecDepth 100000 in
theorem open_nest12_4 {r : Go.Reach} {b0 : Nat} {t : TypeId} {f0 f1 f2 f3 : Field} {v : Value} {d : DataW H} {p : List MemPlace} (hs : P.underlying t = some (.struct #[f0, f1, f2, f3])) (hC : P.cellsOf t = 10)
    (o0 : f0.offset = 0) (k0 : P.cellsOf f0.type = 1) (o1 : f1.offset = 1) (k1 : P.cellsOf f1.type = 2) (o2 : f2.offset = 3) (k2 : P.cellsOf f2.type = 6) (o3 : f3.offset = 9) (k3 : P.cellsOf f3.type = 1)
    (hv : Value.okWide P w r b0 t v) (h : DataW.Trod enc P w base spare held t v d p) :
    ∃ (c0 c1 c2 c3 c4 c5 c6 c7 c8 c9 : Value) (y0 y1 y2 y3 : DataW H × List MemPlace) (n : Nat), v = .agg #[c0, c1, c2, c3, c4, c5, c6, c7, c8, c9] ∧ d = .agg [y0.1, y1.1, y2.1, y3.1] ∧ DataW.trod enc P w base spare held n f0.type [c0] = some y0 ∧ DataW.trod enc P w base spare held n f1.type [c1, c2] = some y1 ∧ DataW.trod enc P w base spare held n f2.type [c3, c4, c5, c6, c7, c8] = some y2 ∧ DataW.trod enc P w base spare held n f3.type [c9] = some y3 := by
  obtain ⟨cs, rfl, hsz⟩ := okWide_struct hs hv
  obtain ⟨l⟩ := cs
  match l, hsz.trans hC with
  | [c0, c1, c2, c3, c4, c5, c6, c7, c8, c9], _ =>
    obtain ⟨fuel, hf⟩ := h
    obtain ⟨xs, n, _, hx, _, hlen, hg⟩ := DataW.trod_struct hs hf
    match xs, hlen with
    | [y0, y1, y2, y3], _ =>
      simp only [Prod.mk.injEq] at hx
      exact ⟨c0, c1, c2, c3, c4, c5, c6, c7, c8, c9, y0, y1, y2, y3, n, rfl, by simpa using hx.1, by simpa [Value.cells, o0, k0] using hg 0 f0 rfl, by simpa [Value.cells, o1, k1] using hg 1 f1 rfl, by simpa [Value.cells, o2, k2] using hg 2 f2 rfl, by simpa [Value.cells, o3, k3] using hg 3 f3 rfl⟩
set_option maxRecDepth 100000 in
theorem open_graph4 {t : TypeId} {f0 f1 f2 f3 : Field} {fuel : Nat} {c0 c1 c2 c3 c4 c5 : Value} {x : DataW H × List MemPlace} (hs : P.underlying t = some (.struct #[f0, f1, f2, f3]))
    (o0 : f0.offset = 0) (k0 : P.cellsOf f0.type = 1) (o1 : f1.offset = 1) (k1 : P.cellsOf f1.type = 3) (o2 : f2.offset = 4) (k2 : P.cellsOf f2.type = 1) (o3 : f3.offset = 5) (k3 : P.cellsOf f3.type = 1) (h : DataW.trod enc P w base spare held fuel t [c0, c1, c2, c3, c4, c5] = some x) :
    ∃ (y0 y1 y2 y3 : DataW H × List MemPlace) (n : Nat), x.1 = .agg [y0.1, y1.1, y2.1, y3.1] ∧ DataW.trod enc P w base spare held n f0.type [c0] = some y0 ∧ DataW.trod enc P w base spare held n f1.type [c1, c2, c3] = some y1 ∧ DataW.trod enc P w base spare held n f2.type [c4] = some y2 ∧ DataW.trod enc P w base spare held n f3.type [c5] = some y3 := by
  obtain ⟨xs, n, _, hx, _, hlen, hg⟩ := DataW.trod_struct hs h
  match xs, hlen with
  | [y0, y1, y2, y3], _ => exact ⟨y0, y1, y2, y3, n, by rw [hx]; rfl, by simpa [o0, k0] using hg 0 f0 rfl, by simpa [o1, k1] using hg 1 f1 rfl, by simpa [o2, k2] using hg 2 f2 rfl, by simpa [o3, k3] using hg 3 f3 rfl⟩
set_option maxRecDepth 100000 in
theorem open_cells12 {t : TypeId} {f0 f1 f2 : Field} {fuel : Nat} {c0 c1 c2 : Value} {x : DataW H × List MemPlace} (hs : P.underlying t = some (.struct #[f0, f1, f2]))
    (o0 : f0.offset = 0) (k0 : P.cellsOf f0.type = 1) (o1 : f1.offset = 1) (k1 : P.cellsOf f1.type = 1) (o2 : f2.offset = 2) (k2 : P.cellsOf f2.type = 1) (h : DataW.trod enc P w base spare held fuel t [c0, c1, c2] = some x) :
    ∃ (y0 y1 y2 : DataW H × List MemPlace) (n : Nat), x.1 = .agg [y0.1, y1.1, y2.1] ∧ DataW.trod enc P w base spare held n f0.type [c0] = some y0 ∧ DataW.trod enc P w base spare held n f1.type [c1] = some y1 ∧ DataW.trod enc P w base spare held n f2.type [c2] = some y2 := by
  obtain ⟨xs, n, _, hx, _, hlen, hg⟩ := DataW.trod_struct hs h
  match xs, hlen with
  | [y0, y1, y2], _ => exact ⟨y0, y1, y2, n, by rw [hx]; rfl, by simpa [o0, k0] using hg 0 f0 rfl, by simpa [o1, k1] using hg 1 f1 rfl, by simpa [o2, k2] using hg 2 f2 rfl⟩
end
section
variable {H : Type} {enc : TypeId × Value → H} {W : World}
/-- a graph, read -/
structure GArg (W : World) (R : List Int) (c : Cells) (P T : List (List Int)) (F A D E Pa Ta : Option Addr) (k1 k2 k3 : Nat) : Prop where
  r : Tr.Rds W W.heap.size F (cellsI R)
  u : Rd W c A k1 D k2 E k3
  p : Keys W W.heap.size Pa P
  t : Keys W W.heap.size Ta T
  lR : R.length ≤ 1152921504606846976
  lU : Few c 1152921504606846976
  lP : P.length ≤ 1152921504606846976
  lT : T.length ≤ 1152921504606846976
  sP : ∀ k ∈ P, k.length ≤ 1152921504606846976
  sT : ∀ k ∈ T, k.length ≤ 1152921504606846976
set_option maxRecDepth 100000 in
theorem open_graph {fuel : Nat} {c0 c1 c2 c3 c4 c5 : Value} {x : DataW H × List MemPlace} (h : DataW.trod enc Tryz.prog W 0 (fun _ => true) true fuel 31 [c0, c1, c2, c3, c4, c5] = some x) (hz : ∀ n ∈ x.1.weights Tryz.prog 31, n ≤ reachBytes) :
    ∃ R c P T F A D E Pa Ta cr k1 k2 k3 kp kt, c0 = .slice F (List.length R) cr ∧ c1 = .slice A (List.length (Cells.V c)) k1 ∧ c2 = .slice D (List.length (Cells.N c)) k2 ∧ c3 = .slice E (List.length (Cells.M c)) k3 ∧ c4 = .slice Pa (List.length P) kp ∧ c5 = .slice Ta (List.length T) kt ∧ GArg W R c P T F A D E Pa Ta k1 k2 k3 := by
  obtain ⟨y0, y1, y2, y3, n, hx, g0, g1, g2, g3⟩ := open_graph4 Tryz.underlying31 rfl (by kernel_rfl) rfl (by kernel_rfl) rfl (by kernel_rfl) rfl (by kernel_rfl) h
  obtain ⟨z0, z1, z2, m, hy, u0, u1, u2⟩ := open_cells12 Tryz.underlying29 rfl (by kernel_rfl) rfl (by kernel_rfl) rfl (by kernel_rfl) g1
  have hw : DataW.weights Tryz.prog 31 (.agg [y0.1, y1.1, y2.1, y3.1]) = y0.1.weights Tryz.prog 24 ++ (y1.1.weights Tryz.prog 29 ++ (y2.1.weights Tryz.prog 23 ++ (y3.1.weights Tryz.prog 23 ++ []))) := by
    simp [DataW.weights, Tryz.underlying31, DataW.weightsEach]
  rw [hx, hw, hy] at hz
  obtain ⟨F, nr, cr, R, e0, h0, _, r0, l0⟩ := Tr.open_ints_cells g0 (fun n hn => hz n (by simp [hn]))
  obtain ⟨c, A, n1, k1, D, n2, k2, E, n3, k3, e1, e2, e3, h1, h2, h3, hu, hf⟩ := Tr.open_cells3 u0 u1 u2 (fun n hn => hz n (by simp [hn]))
  obtain ⟨Pa, np, kp, P, e4, h4, p0, lP, sP⟩ := Hs.open_rows_cells g2 (fun n hn => hz n (by simp [hn]))
  obtain ⟨Ta, nt, kt, T, e5, h5, t0, lT, sT⟩ := Hs.open_rows_cells g3 (fun n hn => hz n (by simp [hn]))
  subst h0 h1 h2 h3 h4 h5
  exact ⟨R, c, P, T, F, A, D, E, Pa, Ta, cr, k1, k2, k3, kp, kt, e0, e1, e2, e3, e4, e5, r0, hu, p0, t0, l0, hf, lP, lT, sP, sT⟩
end
end Go.Proofs.YtnifmfdlocgefaaGreat.Ig

namespace Go.Proofs.YtnifmfdlocgefaaGreat.Ig
open Go.ChangeShapes Go.WideShapes Go.RowKit Kit Go.Deep Go.Joins
open Go.Proofs.YtnifmfdlocgefaaGreat.Sg (Sig Row Sized)
open Go.Proofs.YtnifmfdlocgefaaGreat.Hs (Keys Ints)
open Go.Proofs.YtnifmfdlocgefaaGreat.Tr (cellsI cellsP Cells Rd Few)
section
variable {H : Type} {enc : TypeId × Value → H} {W : World} {base : Nat}
set_option maxRecDepth 100000 in
theorem open_CycJoinsIn {v : Value} {d : DataW H} {p : List MemPlace} (hv : Value.okWide Tryz.prog W .any base 47 v) (h : DataW.Trod enc Tryz.prog W 0 (fun _ => true) true 47 v d p) (hz : ∀ n ∈ d.weights Tryz.prog 47, n ≤ reachBytes) :
    ∃ (L0 A S F Av D E Pa Ta : Option Addr) (nl cl n ca m d cr k1 k2 k3 kp kt : Nat) (l : List Sig) (ks : List (List Int)) (sl : List Int) (R : List Int) (c : Cells) (P T : List (List Int)) (B : Option Addr) (nq eq : Nat) (r : List Int), v = .agg #[.slice L0 nl cl, .slice A n ca, .slice S m d, .slice F (List.length R) cr, .slice Av (List.length (Cells.V c)) k1, .slice D (List.length (Cells.N c)) k2, .slice E (List.length (Cells.M c)) k3, .slice Pa (List.length P) kp, .slice Ta (List.length T) kt, .slice B nq eq] ∧ nl = l.length ∧ Row W W.heap.size L0 l ∧ l.length ≤ maxLen ∧ Sized l ∧ n = ks.length ∧ m = sl.length ∧ Keys W W.heap.size A ks ∧ Ints W W.heap.size S sl ∧ ks.length ≤ 1152921504606846976 ∧ (∀ k ∈ ks, k.length ≤ 1152921504606846976) ∧ sl.length ≤ 1152921504606846976 ∧ GArg W R c P T F Av D E Pa Ta k1 k2 k3 ∧ nq = r.length ∧ Ints W W.heap.size B r ∧ r.length ≤ 1152921504606846976 ∧ nq ≤ eq := by
  obtain ⟨c0, c1, c2, c3, c4, c5, c6, c7, c8, c9, y0, y1, y2, y3, n, rfl, rfl, g0, g1, g2, g3⟩ := open_nest12_4 Tryz.underlying47 (by kernel_rfl) rfl (by kernel_rfl) rfl (by kernel_rfl) rfl (by kernel_rfl) rfl (by kernel_rfl) hv h
  obtain ⟨z0, z1, _, hy, t0, t1⟩ := Go.Proofs.YtnifmfdlocgefaaGreat.St.open_two10 Tryz.underlying26 rfl (by kernel_rfl) rfl (by kernel_rfl) g1
  have hw : DataW.weights Tryz.prog 47 (.agg [y0.1, y1.1, y2.1, y3.1]) = y0.1.weights Tryz.prog 22 ++ (y1.1.weights Tryz.prog 26 ++ (y2.1.weights Tryz.prog 31 ++ (y3.1.weights Tryz.prog 24 ++ ([])))) := by
    simp [DataW.weights, Tryz.underlying47, DataW.weightsEach]
  have hw1 : DataW.weights Tryz.prog 26 (.agg [z0.1, z1.1]) = z0.1.weights Tryz.prog 23 ++ (z1.1.weights Tryz.prog 24 ++ []) := by
    simp [DataW.weights, Tryz.underlying26, DataW.weightsEach]
  rw [hw, hy, hw1] at hz
  obtain ⟨R0, nl, cl, L, rfl, a1, a2, a3, a4, _⟩ := Sg.open_sigs_cells10 g0
  obtain ⟨A, n', c, ks, rfl, hn, hk, hl, hs⟩ := Hs.open_rows_cells t0 (fun n hn => hz n (by simp [hn]))
  obtain ⟨S, m, e, sl, rfl, hm, _, hS, hsl⟩ := Hs.open_row_cells t1 (fun n hn => hz n (by simp [hn]))
  obtain ⟨R, cc, P, T, F, Av, D, E, Pa, Ta, cr, k1, k2, k3, kp, kt, rfl, rfl, rfl, rfl, rfl, rfl, hG⟩ := open_graph g2 (fun n hn => hz n (by simp [hn]))
  obtain ⟨B, nq, eq, r, rfl, hq, hqe, hB, hr9⟩ := Hs.open_row_cells g3 (fun n hn => hz n (by simp [hn]))
  exact ⟨R0, A, S, F, Av, D, E, Pa, Ta, nl, cl, n', c, m, e, cr, k1, k2, k3, kp, kt, L, ks, sl, R, cc, P, T, B, nq, eq, r, rfl, a1, a2, a3, a4, hn, hm, hk, hS, hl, hs, hsl, hG, hq, hB, hr9, hqe⟩
set_option maxRecDepth 100000 in
theorem open_CycTellsIn {v : Value} {d : DataW H} {p : List MemPlace} (hv : Value.okWide Tryz.prog W .any base 33 v) (h : DataW.Trod enc Tryz.prog W 0 (fun _ => true) true 33 v d p) (hz : ∀ n ∈ d.weights Tryz.prog 33, n ≤ reachBytes) :
    ∃ (L0 A S F Av D E Pa Ta : Option Addr) (nl cl n ca m d cr k1 k2 k3 kp kt : Nat) (l : List Sig) (ks : List (List Int)) (sl : List Int) (R : List Int) (c : Cells) (P T : List (List Int)) (B : Option Addr) (nq eq : Nat) (r : List Int) (x1 : Int), v = .agg #[.slice L0 nl cl, .slice A n ca, .slice S m d, .slice F (List.length R) cr, .slice Av (List.length (Cells.V c)) k1, .slice D (List.length (Cells.N c)) k2, .slice E (List.length (Cells.M c)) k3, .slice Pa (List.length P) kp, .slice Ta (List.length T) kt, .slice B nq eq, .int .i64 x1] ∧ nl = l.length ∧ Row W W.heap.size L0 l ∧ l.length ≤ maxLen ∧ Sized l ∧ n = ks.length ∧ m = sl.length ∧ Keys W W.heap.size A ks ∧ Ints W W.heap.size S sl ∧ ks.length ≤ 1152921504606846976 ∧ (∀ k ∈ ks, k.length ≤ 1152921504606846976) ∧ sl.length ≤ 1152921504606846976 ∧ GArg W R c P T F Av D E Pa Ta k1 k2 k3 ∧ nq = r.length ∧ Ints W W.heap.size B r ∧ r.length ≤ 1152921504606846976 ∧ nq ≤ eq := by
  obtain ⟨c0, c1, c2, c3, c4, c5, c6, c7, c8, c9, c10, y0, y1, y2, y3, y4, n, rfl, rfl, g0, g1, g2, g3, g4⟩ := open_nest12_5 Tryz.underlying33 (by kernel_rfl) rfl (by kernel_rfl) rfl (by kernel_rfl) rfl (by kernel_rfl) rfl (by kernel_rfl) rfl (by kernel_rfl) hv h
  obtain ⟨z0, z1, _, hy, t0, t1⟩ := Go.Proofs.YtnifmfdlocgefaaGreat.St.open_two10 Tryz.underlying26 rfl (by kernel_rfl) rfl (by kernel_rfl) g1
  have hw : DataW.weights Tryz.prog 33 (.agg [y0.1, y1.1, y2.1, y3.1, y4.1]) = y0.1.weights Tryz.prog 22 ++ (y1.1.weights Tryz.prog 26 ++ (y2.1.weights Tryz.prog 31 ++ (y3.1.weights Tryz.prog 24 ++ (y4.1.weights Tryz.prog 3 ++ ([]))))) := by
    simp [DataW.weights, Tryz.underlying33, DataW.weightsEach]
  have hw1 : DataW.weights Tryz.prog 26 (.agg [z0.1, z1.1]) = z0.1.weights Tryz.prog 23 ++ (z1.1.weights Tryz.prog 24 ++ []) := by
    simp [DataW.weights, Tryz.underlying26, DataW.weightsEach]
  rw [hw, hy, hw1] at hz
  obtain ⟨R0, nl, cl, L, rfl, a1, a2, a3, a4, _⟩ := Sg.open_sigs_cells10 g0
  obtain ⟨A, n', c, ks, rfl, hn, hk, hl, hs⟩ := Hs.open_rows_cells t0 (fun n hn => hz n (by simp [hn]))
  obtain ⟨S, m, e, sl, rfl, hm, _, hS, hsl⟩ := Hs.open_row_cells t1 (fun n hn => hz n (by simp [hn]))
  obtain ⟨R, cc, P, T, F, Av, D, E, Pa, Ta, cr, k1, k2, k3, kp, kt, rfl, rfl, rfl, rfl, rfl, rfl, hG⟩ := open_graph g2 (fun n hn => hz n (by simp [hn]))
  obtain ⟨B, nq, eq, r, rfl, hq, hqe, hB, hr9⟩ := Hs.open_row_cells g3 (fun n hn => hz n (by simp [hn]))
  obtain ⟨u1, e1, _, w1⟩ := DataW.trod_int Tryz.underlying3 g4
  simp only [List.cons.injEq, and_true] at e1
  subst e1
  exact ⟨R0, A, S, F, Av, D, E, Pa, Ta, nl, cl, n', c, m, e, cr, k1, k2, k3, kp, kt, L, ks, sl, R, cc, P, T, B, nq, eq, r, u1, rfl, a1, a2, a3, a4, hn, hm, hk, hS, hl, hs, hsl, hG, hq, hB, hr9, hqe⟩
end
end Go.Proofs.YtnifmfdlocgefaaGreat.Ig
