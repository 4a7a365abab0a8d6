/-
  What the proofs lean on, part 7 of 13.
-/
import Derived.Test.YtakfhlakdlmhjaaPf
namespace Go.Proofs.Ytakfhlakdlmhjaa.Ig
open Go.RowKit Kit Tr Uf
open Go.Proofs.Ytakfhlakdlmhjaa.Hs (Keys Ints atI refAt_any BoxT)
open Go.Proofs.Ytakfhlakdlmhjaa.Tm (Tm termAt refOf_any Box4)
theorem ints_rds {w : World} {Bk : Nat} {A : Option Addr} {xs : List Int} (h : Ints w Bk A xs) : Tr.Rds w Bk A (cellsI xs) := fun h0 => by
  obtain ⟨ad, e, hlt, hc⟩ := h (by rwa [cellsI_len] at h0)
  refine ⟨ad, e, hlt, fun j v hv => ?_⟩
  have hj : j < xs.length := by have := (List.getElem?_eq_some_iff.1 hv).1; rwa [cellsI_len] at this
  rw [cellsI_at hj] at hv
  injection hv with hv
  subst hv
  exact hc j _ (List.getElem?_eq_getElem hj)

/-- a variable's rows are right -/
def okG (R : List Int) (ks : List (List Int)) (V : List Int) (P S : List (List Int)) (v : Nat) : Bool :=
  rowV R ks V.length v true (P.getD v []) && rowV R ks V.length v false (S.getD v []) && ((V.getD v 0 == (v : Int)) || (decide ((P.getD v []).length = 0) && decide ((S.getD v []).length = 0)))
/-- a graph is right -/
def rightG (R : List Int) (ks : List (List Int)) (c : Cells) (P S : List (List Int)) : Bool :=
  (clB R c.V && rightB c) && decide (c.M.length = 0) && decide (P.length = c.V.length) && decide (S.length = c.V.length) && decide (∀ v, v < c.V.length → okG R ks c.V P S v = true)
theorem rows_at {l : List (List Int)} {k : Nat} (h : k < l.length) : l.getD k [] = l[k] := by rw [List.getD_eq_getElem?_getD, List.getElem?_eq_getElem h]; rfl

set_option maxRecDepth 100000 in
set_option maxHeartbeats 8000000 in
theorem refRightG_any (R : List Int) (c : Cells) (A S F Av D E B C : Option Addr) (n ca m d nr cr n1 k1 n2 k2 n3 k3 nb kb nc kc : Nat) (ks P T : List (List Int)) (w : World) (hn : n = ks.length) (hk : Keys w w.heap.size A ks) (hnr : nr = R.length) (hR : Tr.Rds w w.heap.size F (cellsI R))
    (h1 : n1 = c.V.length) (h2 : n2 = c.N.length) (h3 : n3 = c.M.length) (h : Rd w c Av k1 D k2 E k3) (hf : Few c 1000000)
    (hnb : nb = P.length) (hP : Keys w w.heap.size B P) (hnc : nc = T.length) (hT : Keys w w.heap.size C T) (hPl : ∀ x ∈ P, x.length ≤ 1000000) (hTl : ∀ x ∈ T, x.length ≤ 1000000) :
    Calls Try.prog 20 #[.agg #[.slice A n ca, .slice S m d], .agg #[.slice F nr cr, .slice Av n1 k1, .slice D n2 k2, .slice E n3 k3, .slice B nb kb, .slice C nc kc]] w fun e w' => e = .returned (.bool (rightG R ks c P T)) ∧ Q w w' := by
  subst hn
  subst hnr
  subst h1
  subst h2
  subst h3
  subst hnb
  subst hnc
  have q0 := ((Q.refl w).alloc (Obj.cells #[Value.slice A ks.length ca, Value.slice S m d] 26)).alloc (Obj.cells #[Value.slice F R.length cr, Value.slice Av c.V.length k1, Value.slice D c.N.length k2, Value.slice E c.M.length k3, Value.slice B P.length kb, Value.slice C T.length kc] 31)
  have HB := Lib.hid ((BoxT.new w (Value.slice A ks.length ca) (Value.slice S m d) 26).q ((Q.refl _).alloc (Obj.cells #[Value.slice F R.length cr, Value.slice Av c.V.length k1, Value.slice D c.N.length k2, Value.slice E c.M.length k3, Value.slice B P.length kb, Value.slice C T.length kc] 31)))
  have X := Box6.new (w.alloc (Obj.cells #[Value.slice A ks.length ca, Value.slice S m d] 26)) (Value.slice F R.length cr) (Value.slice Av c.V.length k1) (Value.slice D c.N.length k2) (Value.slice E c.M.length k3) (Value.slice B P.length kb) (Value.slice C T.length kc) 31
  rw [World.size_alloc] at X
  have HG := Lib.hid X
  have Hk := Lib.hid ((hk.q (Nat.le_refl _) q0).more q0.size)
  have HR := Lib.hid (hR.q q0)
  have HC := Lib.hid (h.q q0)
  have HP := Lib.hid ((hP.q (Nat.le_refl _) q0).more q0.size)
  have HT := Lib.hid ((hT.q (Nat.le_refl _) q0).more q0.size)
  have HN : Hid (rightG R ks c P T = ((clB R c.V && rightB c) && decide (c.M.length = 0) && decide (P.length = c.V.length) && decide (T.length = c.V.length) && decide (∀ v, v < c.V.length → okG R ks c.V P T v = true))) := rfl
  have Hf := Lib.hid hf
  have HPl := Lib.hid hPl
  have HTl := Lib.hid hTl
  have hfv := hf.1
  clear hk hR h X hP hT hf hPl hTl
  go_enter Try.func20, Try.ntmps20
  go_upto_region 1 with fail
  generalize (w.alloc (Obj.cells #[Value.slice A ks.length ca, Value.slice S m d] 26)).alloc (Obj.cells #[Value.slice F R.length cr, Value.slice Av c.V.length k1, Value.slice D c.N.length k2, Value.slice E c.M.length k3, Value.slice B P.length kb, Value.slice C T.length kc] 31) = W0 at *
  have g0 := HG.out.c0
  have g1 := HG.out.c1
  have g2 := HG.out.c2
  have g3 := HG.out.c3
  have C5 := Lib.hid (right5_any R c Av D E F _ k1 _ k2 _ k3 _ cr W0 rfl rfl rfl rfl HC.out HR.out Hf.out)
  generalize (clB R c.V && rightB c) = u at *
  go_upto_region 2 with (go_at_call 41; refine C5.out.mono ?_; rintro e w2 ⟨rfl, q1⟩)
  have HBq := Lib.hid (HB.out.q q1)
  have HGq := Lib.hid (HG.out.q q1)
  clear g0 g1 g2 g3 C5
  have g1 := HGq.out.c1
  have g2 := HGq.out.c2
  have g3 := HGq.out.c3
  have g4 := HGq.out.c4
  have g5 := HGq.out.c5
  generalize c.M.length = nM at *
  cases u
  · have HF : Hid (rightG R ks c P T = false) := by unfold Hid; rw [HN.out]; rfl
    go_wp2_with fail
    go_ret
    exact ⟨by rw [HF.out]; rfl, q0.trans q1⟩
  by_cases hM : nM = 0
  case neg =>
    have HF : Hid (rightG R ks c P T = false) := by unfold Hid; rw [HN.out, decide_eq_false hM]; rfl
    obtain ⟨j, rfl⟩ : ∃ j, nM = j + 1 := ⟨nM - 1, by omega⟩
    have d1 : decide ((0 : Int) < (j : Int) + 1) = true := decide_eq_true (by omega)
    clear hM HN
    go_wp2_with fail
    go_ret
    exact ⟨by rw [HF.out]; rfl, q0.trans q1⟩
  subst hM
  by_cases hPn : P.length = c.V.length
  case neg =>
    have d2 : ((P.length : Int) != (c.V.length : Int)) = true := by simp; omega
    have HF : Hid (rightG R ks c P T = false) := by unfold Hid; rw [HN.out, decide_eq_false hPn, Bool.and_false]; rfl
    clear hPn
    go_wp2_with fail
    go_ret
    exact ⟨by rw [HF.out]; rfl, q0.trans q1⟩
  have d2 : ((P.length : Int) != (c.V.length : Int)) = false := by simp [hPn]
  by_cases hTn : T.length = c.V.length
  case neg =>
    have d3 : ((T.length : Int) != (c.V.length : Int)) = true := by simp; omega
    have HF : Hid (rightG R ks c P T = false) := by unfold Hid; rw [HN.out, decide_eq_false hTn, Bool.and_false]; rfl
    clear hPn hTn
    go_wp2_with fail
    go_ret
    exact ⟨by rw [HF.out]; rfl, q0.trans q1⟩
  have d3 : ((T.length : Int) != (c.V.length : Int)) = false := by simp [hTn]
  have HN2 : Hid (rightG R ks c P T = decide (∀ v, v < c.V.length → okG R ks c.V P T v = true)) := by unfold Hid; rw [HN.out, decide_eq_true rfl, decide_eq_true hPn, decide_eq_true hTn]; rfl
  have HPn := Lib.hid hPn
  have HTn := Lib.hid hTn
  clear hPn hTn
  have HCq := Lib.hid (HC.out.q q1)
  have HPq := Lib.hid ((HP.out.q (Nat.le_refl _) q1).more q1.size)
  have HTq := Lib.hid ((HT.out.q (Nat.le_refl _) q1).more q1.size)
  have Hkq := Lib.hid ((Hk.out.q (Nat.le_refl _) q1).more q1.size)
  have HRq := Lib.hid (HR.out.q q1)
  go_wp2_with fail
  clear g1 g2 g3 g4 g5
  go_loopw [6] (fun i wr => ∃ k : Nat, k ≤ c.V.length ∧ i = .int .i64 k ∧ Hid (∀ v, v < k → okG R ks c.V P T v = true) ∧ Hid (Q w2 wr)) (fun i _ => c.V.length - (intOf i).toNat)
  case atStart => exact ⟨0, Nat.zero_le _, rfl, Lib.hid (fun n hn => absurd hn (by omega)), Lib.hid (Q.refl _)⟩
  case round =>
    obtain ⟨k, hk, rfl, HH, HQ⟩ := hrel
    have HBr := Lib.hid (HBq.out.q HQ.out)
    have HGr := Lib.hid (HGq.out.q HQ.out)
    have b0 := HBr.out.c0
    have b1' := HBr.out.c1
    have g0 := HGr.out.c0
    have g1 := HGr.out.c1
    have g2 := HGr.out.c2
    have g3 := HGr.out.c3
    have g4 := HGr.out.c4
    have g5 := HGr.out.c5
    have l0 := HBr.out.lt
    have l1 := HGr.out.lt
    by_cases hlt : k < c.V.length
    · have hltP : k < P.length := by rw [HPn.out]; exact hlt
      have hltT : k < T.length := by rw [HTn.out]; exact hlt
      obtain ⟨pa, ep, hpb, a1, c1, hc1, p0, hi1⟩ := ((HPq.out.q (Nat.le_refl _) HQ.out).more HQ.out.size).at_ hltP
      obtain ⟨ta, et, htb, a2, c2, hc2, t0, hi2⟩ := ((HTq.out.q (Nat.le_refl _) HQ.out).more HQ.out.size).at_ hltT
      obtain ⟨va, ev, hvb, v0⟩ := (HCq.out.q HQ.out).v.int_at hlt
      subst ep et ev
      have hpk : (pa.add k).block < wr.heap.size := by rw [Tr.add_block]; exact hpb
      have htk : (ta.add k).block < wr.heap.size := by rw [Tr.add_block]; exact htb
      have hvk : (va.add k).block < wr.heap.size := by rw [Tr.add_block]; exact hvb
      have HO : Hid (okG R ks c.V P T k = (rowV R ks c.V.length k true P[k] && rowV R ks c.V.length k false T[k] && ((c.V[k] == (k : Int)) || (decide (P[k].length = 0) && decide (T[k].length = 0))))) := by unfold Hid okG; rw [rows_at hltP, rows_at hltT, getD_at hlt]
      have HK : Hid (okG R ks c.V P T k = true → ∀ n, n < k + 1 → okG R ks c.V P T n = true) := fun hk n hn => by
        by_cases e : n = k
        · subst e; exact hk
        · exact HH.out n (by omega)
      have HZ : Hid (okG R ks c.V P T k = false → rightG R ks c P T = false) := fun hk => by rw [HN2.out]; exact decide_eq_false (fun h => by have := h k hlt; rw [hk] at this; cases this)
      have C1 : Hid (∀ W, Q wr W → Calls Try.prog 42 #[.agg #[.slice A ks.length ca, .slice S m d], .agg #[.slice F R.length cr, .slice (some va) c.V.length k1, .slice D c.N.length k2, .slice E 0 k3, .slice (some pa) P.length kb, .slice (some ta) T.length kc], .slice a1 P[k].length c1, .int .i64 (k : Int), .bool true] W fun e W' => e = .returned (.bool (rowV R ks c.V.length k true P[k])) ∧ Q W W') := fun W q =>
        refRowV_any R A S F _ a1 _ ca m d _ cr _ k1 _ c1 _ _ _ _ ks P[k] k true W rfl ((Hkq.out.q (Nat.le_refl _) (HQ.out.trans q)).more (HQ.out.trans q).size) rfl (HRq.out.q (HQ.out.trans q)) rfl (ints_rds ((hi1.q (Nat.le_refl _) q).more q.size)) (HPl.out _ (List.getElem_mem hltP))
      have C2 : Hid (∀ W, Q wr W → Calls Try.prog 42 #[.agg #[.slice A ks.length ca, .slice S m d], .agg #[.slice F R.length cr, .slice (some va) c.V.length k1, .slice D c.N.length k2, .slice E 0 k3, .slice (some pa) P.length kb, .slice (some ta) T.length kc], .slice a2 T[k].length c2, .int .i64 (k : Int), .bool false] W fun e W' => e = .returned (.bool (rowV R ks c.V.length k false T[k])) ∧ Q W W') := fun W q =>
        refRowV_any R A S F _ a2 _ ca m d _ cr _ k1 _ c2 _ _ _ _ ks T[k] k false W rfl ((Hkq.out.q (Nat.le_refl _) (HQ.out.trans q)).more (HQ.out.trans q).size) rfl (HRq.out.q (HQ.out.trans q)) rfl (ints_rds ((hi2.q (Nat.le_refl _) q).more q.size)) (HTl.out _ (List.getElem_mem hltT))
      generalize rowV R ks c.V.length k true P[k] = o1 at *
      generalize rowV R ks c.V.length k false T[k] = o2 at *
      generalize P[k].length = np at *
      generalize T[k].length = nt at *
      generalize c.V[k] = x at *
      have j0 : (0 : Int) ≤ (k : Int) := Int.natCast_nonneg _
      have j1 : (k : Int) < (c.V.length : Int) := by omega
      have j2 : (k : Int) < (P.length : Int) := by omega
      have j3 : (k : Int) < (T.length : Int) := by omega
      have Hv0 := Lib.hid v0
      have Hp0 := Lib.hid p0
      have Ht0 := Lib.hid t0
      clear hi1 hi2 v0
      go_upto_region 7 with fail
      go_region_held3 (fun w' => w'.cell? ⟨w.heap.size, 0, none⟩ = some (.slice A ks.length ca) ∧ w'.cell? ⟨w.heap.size, 1, none⟩ = some (.slice S m d) ∧ w'.cell? ⟨w.heap.size + 1, 0, none⟩ = some (.slice F R.length cr) ∧ w'.cell? ⟨w.heap.size + 1, 1, none⟩ = some (.slice (some va) c.V.length k1) ∧ w'.cell? ⟨w.heap.size + 1, 2, none⟩ = some (.slice D c.N.length k2) ∧ w'.cell? ⟨w.heap.size + 1, 3, none⟩ = some (.slice E 0 k3) ∧ w'.cell? ⟨w.heap.size + 1, 4, none⟩ = some (.slice (some pa) P.length kb) ∧ w'.cell? ⟨w.heap.size + 1, 5, none⟩ = some (.slice (some ta) T.length kc) ∧ w'.cell? (pa.add k) = some (.slice a1 np c1))
        (first
          | go_keep
          | exact ⟨(p3.cell (p := ⟨w.heap.size, 0, none⟩) l0).trans b0, (p3.cell (p := ⟨w.heap.size, 1, none⟩) l0).trans b1', (p3.cell (p := ⟨w.heap.size + 1, 0, none⟩) l1).trans g0, (p3.cell (p := ⟨w.heap.size + 1, 1, none⟩) l1).trans g1, (p3.cell (p := ⟨w.heap.size + 1, 2, none⟩) l1).trans g2, (p3.cell (p := ⟨w.heap.size + 1, 3, none⟩) l1).trans g3, (p3.cell (p := ⟨w.heap.size + 1, 4, none⟩) l1).trans g4, (p3.cell (p := ⟨w.heap.size + 1, 5, none⟩) l1).trans g5, (p3.cell hpk).trans p0⟩)
        (first
          | (go_at_call 42; (with_reducible refine (C1.out _ (Q.refl wr).drew).mono ?_); rintro e w3 ⟨rfl, q2⟩; have p3 : Q wr w3 := (Q.refl wr).drew.trans q2))
      have r0 := (p3.cell (p := ⟨w.heap.size, 0, none⟩) l0).trans b0
      have r1 := (p3.cell (p := ⟨w.heap.size, 1, none⟩) l0).trans b1'
      have s0 := (p3.cell (p := ⟨w.heap.size + 1, 0, none⟩) l1).trans g0
      have s1 := (p3.cell (p := ⟨w.heap.size + 1, 1, none⟩) l1).trans g1
      have s2 := (p3.cell (p := ⟨w.heap.size + 1, 2, none⟩) l1).trans g2
      have s3 := (p3.cell (p := ⟨w.heap.size + 1, 3, none⟩) l1).trans g3
      have s4 := (p3.cell (p := ⟨w.heap.size + 1, 4, none⟩) l1).trans g4
      have s5 := (p3.cell (p := ⟨w.heap.size + 1, 5, none⟩) l1).trans g5
      have u0 := (p3.cell htk).trans t0
      have m0 : w.heap.size < w3.heap.size := Nat.lt_of_lt_of_le l0 p3.size
      have m1 : w.heap.size + 1 < w3.heap.size := Nat.lt_of_lt_of_le l1 p3.size
      have mtk : (ta.add k).block < w3.heap.size := Nat.lt_of_lt_of_le htk p3.size
      have Hp3 := Lib.hid p3
      clear b0 b1' g0 g1 g2 g3 g4 g5 p0 t0 q2 C1 p3
      go_upto_region 8 with fail
      go_region_held3 (fun w' => w'.cell? ⟨w.heap.size, 0, none⟩ = some (.slice A ks.length ca) ∧ w'.cell? ⟨w.heap.size, 1, none⟩ = some (.slice S m d) ∧ w'.cell? ⟨w.heap.size + 1, 0, none⟩ = some (.slice F R.length cr) ∧ w'.cell? ⟨w.heap.size + 1, 1, none⟩ = some (.slice (some va) c.V.length k1) ∧ w'.cell? ⟨w.heap.size + 1, 2, none⟩ = some (.slice D c.N.length k2) ∧ w'.cell? ⟨w.heap.size + 1, 3, none⟩ = some (.slice E 0 k3) ∧ w'.cell? ⟨w.heap.size + 1, 4, none⟩ = some (.slice (some pa) P.length kb) ∧ w'.cell? ⟨w.heap.size + 1, 5, none⟩ = some (.slice (some ta) T.length kc) ∧ w'.cell? (ta.add k) = some (.slice a2 nt c2))
        (first
          | go_keep
          | exact ⟨(p4.cell (p := ⟨w.heap.size, 0, none⟩) m0).trans r0, (p4.cell (p := ⟨w.heap.size, 1, none⟩) m0).trans r1, (p4.cell (p := ⟨w.heap.size + 1, 0, none⟩) m1).trans s0, (p4.cell (p := ⟨w.heap.size + 1, 1, none⟩) m1).trans s1, (p4.cell (p := ⟨w.heap.size + 1, 2, none⟩) m1).trans s2, (p4.cell (p := ⟨w.heap.size + 1, 3, none⟩) m1).trans s3, (p4.cell (p := ⟨w.heap.size + 1, 4, none⟩) m1).trans s4, (p4.cell (p := ⟨w.heap.size + 1, 5, none⟩) m1).trans s5, (p4.cell mtk).trans u0⟩)
        (first
          | (go_at_call 42; (with_reducible refine (C2.out _ (Hp3.out.trans (Q.refl w3).drew)).mono ?_); rintro e w4 ⟨rfl, q3⟩; have p4 : Q w3 w4 := (Q.refl w3).drew.trans q3))
      have HQ4 := Lib.hid (Hp3.out.trans p4)
      clear r0 r1 s0 s1 s2 s3 s4 s5 u0 q3 C2 p4
      have g1 := (HGr.out.q HQ4.out).c1
      have g4 := (HGr.out.q HQ4.out).c4
      have g5 := (HGr.out.q HQ4.out).c5
      have v0 := (HQ4.out.cell hvk).trans Hv0.out
      have p0 := (HQ4.out.cell hpk).trans Hp0.out
      have t0 := (HQ4.out.cell htk).trans Ht0.out
      cases o1
      · have HF := Lib.hid (HZ.out (by rw [HO.out]; rfl))
        go_wp2_with fail
        go_ret
        exact ⟨by rw [HF.out]; rfl, (q0.trans q1).trans (HQ.out.trans HQ4.out)⟩
      cases o2
      · have HF := Lib.hid (HZ.out (by rw [HO.out]; rfl))
        go_wp2_with fail
        go_ret
        exact ⟨by rw [HF.out]; rfl, (q0.trans q1).trans (HQ.out.trans HQ4.out)⟩
      cases ex : (x == (k : Int))
      · have ex' : (x != (k : Int)) = true := by simpa using ex
        rw [ex] at HO
        clear ex
        rcases np with _ | np
        · rcases nt with _ | nt
          · have HF := Lib.hid (HK.out (by rw [HO.out]; rfl))
            go_wp2_with fail
            go_roundw
            case rel => exact ⟨k + 1, by omega, by go_num, HF, Lib.hid (HQ.out.trans HQ4.out)⟩
            case measure => simp [intOf]; omega
          · have HF := Lib.hid (HZ.out (by rw [HO.out]; rfl))
            have d4 : decide ((0 : Int) < (nt : Int) + 1) = true := decide_eq_true (by omega)
            go_wp2_with fail
            go_ret
            exact ⟨by rw [HF.out]; rfl, (q0.trans q1).trans (HQ.out.trans HQ4.out)⟩
        · have HF := Lib.hid (HZ.out (by rw [HO.out]; rfl))
          have d4 : decide ((0 : Int) < (np : Int) + 1) = true := decide_eq_true (by omega)
          go_wp2_with fail
          go_ret
          exact ⟨by rw [HF.out]; rfl, (q0.trans q1).trans (HQ.out.trans HQ4.out)⟩
      · have ex' : (x != (k : Int)) = false := by simpa using ex
        have HF := Lib.hid (HK.out (by rw [HO.out, ex]; rfl))
        clear ex
        go_wp2_with fail
        go_roundw
        case rel => exact ⟨k + 1, by omega, by go_num, HF, Lib.hid (HQ.out.trans HQ4.out)⟩
        case measure => simp [intOf]; omega
    · have HF : Hid (rightG R ks c P T = true) := by
        have hall : ∀ v, v < c.V.length → okG R ks c.V P T v = true := fun i hi => HH.out i (by omega)
        unfold Hid; rw [HN2.out]; exact decide_eq_true hall
      clear b0 b1' g0 g2 g3 g4 g5
      go_wp2_with fail
      go_ret
      exact ⟨by rw [HF.out]; rfl, (q0.trans q1).trans HQ.out⟩
end Go.Proofs.Ytakfhlakdlmhjaa.Ig

namespace Go.Proofs.Ytakfhlakdlmhjaa.Ig
open Go.RowKit Kit Tr Uf
open Go.Proofs.Ytakfhlakdlmhjaa.Hs (Keys Ints atI refAt_any BoxT)
open Go.Proofs.Ytakfhlakdlmhjaa.Tm (Tm termAt refOf_any Box4)
def allV (ks : List (List Int)) (m : Nat) : Bool := decide (∀ v : Nat, v < m → 0 ≤ atV ks v)

set_option maxRecDepth 100000 in
set_option maxHeartbeats 2000000 in
theorem refAllV_any (A S Av : Option Addr) (n c m d nv cv : Nat) (r b1 b2 b3 b4 : Value) (ks : List (List Int)) (w : World) (hn : n = ks.length) (hk : Keys w w.heap.size A ks) (hl : ks.length ≤ maxLen) (hs : ∀ k ∈ ks, k.length ≤ maxLen) (hnv : nv ≤ 1000000) :
    Calls Try.prog 21 #[.agg #[.slice A n c, .slice S m d], .agg #[r, .slice Av nv cv, b1, b2, b3, b4]] w fun e w' => e = .returned (.bool (allV ks nv)) ∧ Q w w' := by
  subst hn
  have q0 := ((Q.refl w).alloc (Obj.cells #[Value.slice A ks.length c, Value.slice S m d] 26)).alloc (Obj.cells #[r, Value.slice Av nv cv, b1, b2, b3, b4] 31)
  have HB := Lib.hid ((BoxT.new w (Value.slice A ks.length c) (Value.slice S m d) 26).q ((Q.refl _).alloc (Obj.cells #[r, Value.slice Av nv cv, b1, b2, b3, b4] 31)))
  have X := Box6.new (w.alloc (Obj.cells #[Value.slice A ks.length c, Value.slice S m d] 26)) r (Value.slice Av nv cv) b1 b2 b3 b4 31
  rw [World.size_alloc] at X
  have HG := Lib.hid X
  have Hk := Lib.hid ((hk.q (Nat.le_refl _) q0).more q0.size)
  have HN : Hid (allV ks nv = decide (∀ v : Nat, v < nv → 0 ≤ atV ks v)) := rfl
  clear hk X
  go_enter Try.func21, Try.ntmps21
  go_upto_region 1 with fail
  generalize (w.alloc (Obj.cells #[Value.slice A ks.length c, Value.slice S m d] 26)).alloc (Obj.cells #[r, Value.slice Av nv cv, b1, b2, b3, b4] 31) = W0 at *
  go_wp2_with fail
  go_loopw [5] (fun i wr => ∃ k : Nat, k ≤ nv ∧ i = .int .i64 k ∧ Hid (∀ v : Nat, v < k → 0 ≤ atV ks v) ∧ Hid (Q W0 wr)) (fun i _ => nv - (intOf i).toNat)
  case atStart => exact ⟨0, Nat.zero_le _, rfl, Lib.hid (fun n hn => absurd hn (by omega)), Lib.hid (Q.refl _)⟩
  case round =>
    obtain ⟨k, hk, rfl, HH, HQ⟩ := hrel
    have b0 := (HB.out.q HQ.out).c0
    have b1' := (HB.out.q HQ.out).c1
    have g1 := (HG.out.q HQ.out).c1
    by_cases hlt : k < nv
    · have CA := Lib.hid (refAtV_any A _ c (.slice S m d) ks (k : Int) wr rfl ((Hk.out.q (Nat.le_refl _) HQ.out).more HQ.out.size) hl hs)
      by_cases ha : atV ks k < 0
      · have d1 : decide (atV ks k < 0) = true := decide_eq_true ha
        have HF : Hid (allV ks nv = false) := by unfold Hid; rw [HN.out]; exact decide_eq_false (fun h => by have := h k hlt; omega)
        generalize atV ks k = x at *
        clear ha
        go_wp2_with (go_at_call 43; refine CA.out.mono ?_; rintro e w2 ⟨rfl, q2⟩)
        go_ret
        exact ⟨by rw [HF.out]; rfl, (q0.trans HQ.out).trans q2⟩
      · have d1 : decide (atV ks k < 0) = false := decide_eq_false ha
        have HK : Hid (∀ v : Nat, v < k + 1 → 0 ≤ atV ks v) := fun v hv => by
          by_cases e : v = k
          · subst e; omega
          · exact HH.out v (by omega)
        generalize atV ks k = x at CA d1
        clear ha
        go_wp2_with (go_at_call 43; refine CA.out.mono ?_; rintro e w2 ⟨rfl, q2⟩)
        have HQ2 := Lib.hid (HQ.out.trans q2)
        go_roundw
        case rel => exact ⟨k + 1, by omega, by go_num, HK, HQ2⟩
        case measure => simp [intOf]; omega
    · have HF : Hid (allV ks nv = true) := by
        have hall : ∀ v : Nat, v < nv → 0 ≤ atV ks v := fun i hi => HH.out i (by omega)
        unfold Hid; rw [HN.out]; exact decide_eq_true hall
      go_wp2_with fail
      go_ret
      exact ⟨by rw [HF.out]; rfl, q0.trans HQ.out⟩
end Go.Proofs.Ytakfhlakdlmhjaa.Ig

namespace Go.Proofs.Ytakfhlakdlmhjaa.Ig
open Go.RowKit Kit Tr Uf
open Go.Proofs.Ytakfhlakdlmhjaa.Hs (Keys Ints BoxT)
/-- rows counted, till there are too many -/
def fewR (n : Nat) : List (List Int) → Nat
  | [] => n
  | k :: l => if n ≤ 1000 then fewR (n + k.length) l else n
theorem fewR_at (n : Nat) (ks : List (List Int)) (i : Nat) (h : i < ks.length) (hn : n ≤ 1000) : fewR n (ks.drop i) = fewR (n + ks[i].length) (ks.drop (i + 1)) := by
  rw [List.drop_eq_getElem_cons h, fewR, if_pos hn]
theorem fewR_big (n : Nat) (ks : List (List Int)) (hn : ¬ n ≤ 1000) : fewR n ks = n := by
  cases ks with
  | nil => rfl
  | cons k l => rw [fewR, if_neg hn]
theorem fewR_end (n : Nat) (ks : List (List Int)) (i : Nat) (h : ks.length ≤ i) : fewR n (ks.drop i) = n := by
  rw [List.drop_eq_nil_of_le h]; rfl
theorem fewR_le : ∀ (ks : List (List Int)) (n : Nat), fewR n ks ≤ 1000 → n ≤ 1000 ∧ ∀ k ∈ ks, k.length ≤ 1000
  | [], n, h => ⟨h, fun k hk => by cases hk⟩
  | k :: l, n, h => by
    rw [fewR] at h
    by_cases hn : n ≤ 1000
    · rw [if_pos hn] at h
      obtain ⟨h1, h2⟩ := fewR_le l _ h
      refine ⟨hn, fun x hx => ?_⟩
      rcases List.mem_cons.1 hx with rfl | hx
      · omega
      · exact h2 x hx
    · rw [if_neg hn] at h
      exact absurd h hn
/-- how long the rows themselves are -/
def sixN (R : List Int) (c : Cells) (P T : List (List Int)) : Nat := R.length + c.V.length + c.N.length + c.M.length + P.length + T.length
def few12B (R : List Int) (c : Cells) (P T : List (List Int)) : Bool := decide (fewR (fewR (sixN R c P T) P) T ≤ 1000)
theorem few12_ok {R : List Int} {c : Cells} {P T : List (List Int)} (h : few12B R c P T = true) : R.length ≤ 1000 ∧ Few c 1000 ∧ P.length ≤ 1000 ∧ T.length ≤ 1000 ∧ (∀ k ∈ P, k.length ≤ 1000) ∧ (∀ k ∈ T, k.length ≤ 1000) := by
  have h1 := of_decide_eq_true h
  obtain ⟨h2, h3⟩ := fewR_le T _ h1
  obtain ⟨h4, h5⟩ := fewR_le P _ h2
  unfold sixN at h4
  exact ⟨by omega, ⟨by omega, by omega, by omega⟩, by omega, by omega, h5, h3⟩

set_option maxRecDepth 100000 in
set_option maxHeartbeats 4000000 in
theorem refFew12_any (R : List Int) (c : Cells) (P T : List (List Int)) (F A D E Pa Ta : Option Addr) (nr cr n1 k1 n2 k2 n3 k3 np kp nt kt : Nat) (w : World) (hr : nr = R.length) (h1 : n1 = c.V.length) (h2 : n2 = c.N.length) (h3 : n3 = c.M.length) (hp : np = P.length) (ht : nt = T.length)
    (hP : Keys w w.heap.size Pa P) (hT : Keys w w.heap.size Ta T) (lR : R.length ≤ 1152921504606846976) (lV : c.V.length ≤ 1152921504606846976) (lN : c.N.length ≤ 1152921504606846976) (lM : c.M.length ≤ 1152921504606846976) (lP : P.length ≤ 1152921504606846976) (lT : T.length ≤ 1152921504606846976)
    (sP : ∀ k ∈ P, k.length ≤ 1152921504606846976) (sT : ∀ k ∈ T, k.length ≤ 1152921504606846976) :
    Calls Try.prog 19 #[.agg #[.slice F nr cr, .slice A n1 k1, .slice D n2 k2, .slice E n3 k3, .slice Pa np kp, .slice Ta nt kt]] w fun e w' => e = .returned (.bool (few12B R c P T)) ∧ Q w w' := by
  subst hr h1 h2 h3 hp ht
  have q0 := (Q.refl w).alloc (Obj.cells #[.slice F R.length cr, .slice A c.V.length k1, .slice D c.N.length k2, .slice E c.M.length k3, .slice Pa P.length kp, .slice Ta T.length kt] 31)
  have HB := Lib.hid (Box6.new w (.slice F R.length cr) (.slice A c.V.length k1) (.slice D c.N.length k2) (.slice E c.M.length k3) (.slice Pa P.length kp) (.slice Ta T.length kt) 31)
  have HP := Lib.hid ((hP.q (Nat.le_refl _) q0).more q0.size)
  have HT := Lib.hid ((hT.q (Nat.le_refl _) q0).more q0.size)
  have HS6 : Hid (sixN R c P T = R.length + c.V.length + c.N.length + c.M.length + P.length + T.length) := rfl
  have HD : Hid (few12B R c P T = decide (fewR (fewR (sixN R c P T) P) T ≤ 1000)) := rfl
  have Hsp := Lib.hid sP
  have Hst := Lib.hid sT
  have HLs : Hid (R.length ≤ 1152921504606846976 ∧ c.V.length ≤ 1152921504606846976 ∧ c.N.length ≤ 1152921504606846976 ∧ c.M.length ≤ 1152921504606846976 ∧ P.length ≤ 1152921504606846976 ∧ T.length ≤ 1152921504606846976) := ⟨lR, lV, lN, lM, lP, lT⟩
  have HN : Hid (((sixN R c P T : Nat) : Int) = (R.length : Int) + (c.V.length : Int) + (c.N.length : Int) + (c.M.length : Int) + (P.length : Int) + (T.length : Int) ∧ sixN R c P T ≤ 6917529027641081856) := by unfold Hid; rw [HS6.out]; omega
  clear hP hT sP sT lR lV lN lM lP lT
  go_enter Try.func19, Try.ntmps19
  go_upto_region 1 with fail
  generalize w.alloc (Obj.cells #[.slice F R.length cr, .slice A c.V.length k1, .slice D c.N.length k2, .slice E c.M.length k3, .slice Pa P.length kp, .slice Ta T.length kt] 31) = W at *
  have b0 := HB.out.c0
  have b1 := HB.out.c1
  have b2 := HB.out.c2
  have b3 := HB.out.c3
  have b4 := HB.out.c4
  have b5 := HB.out.c5
  obtain ⟨lR, lV, lN, lM, lP, lT⟩ := HLs.out
  have w1 : wrap64 ((R.length : Int) + (c.V.length : Int)) = (R.length : Int) + (c.V.length : Int) := IntWalk.wrap64_in _ (by omega)
  have w2 : wrap64 ((R.length : Int) + (c.V.length : Int) + (c.N.length : Int)) = (R.length : Int) + (c.V.length : Int) + (c.N.length : Int) := IntWalk.wrap64_in _ (by omega)
  have w3 : wrap64 ((R.length : Int) + (c.V.length : Int) + (c.N.length : Int) + (c.M.length : Int)) = (R.length : Int) + (c.V.length : Int) + (c.N.length : Int) + (c.M.length : Int) := IntWalk.wrap64_in _ (by omega)
  have w4 : wrap64 ((R.length : Int) + (c.V.length : Int) + (c.N.length : Int) + (c.M.length : Int) + (P.length : Int)) = (R.length : Int) + (c.V.length : Int) + (c.N.length : Int) + (c.M.length : Int) + (P.length : Int) := IntWalk.wrap64_in _ (by omega)
  have w5 : wrap64 ((R.length : Int) + (c.V.length : Int) + (c.N.length : Int) + (c.M.length : Int) + (P.length : Int) + (T.length : Int)) = (R.length : Int) + (c.V.length : Int) + (c.N.length : Int) + (c.M.length : Int) + (P.length : Int) + (T.length : Int) := IntWalk.wrap64_in _ (by omega)
  have HW5 := Lib.hid w5
  clear lR lV lN lM lP lT
  go_wp2_with fail
  clear w1 w2 w3 w4 w5 b0 b1 b2 b3
  go_loopw [3, 4] (fun s i wr => ∃ (k a : Nat), k ≤ P.length ∧ i = .int .i64 k ∧ s = .int .i64 a ∧ a ≤ 6917529027641081856 ∧ Hid (fewR (sixN R c P T) P = fewR a (P.drop k)) ∧ W = wr) (fun _ i _ => P.length - (intOf i).toNat)
  case atStart => exact ⟨0, sixN R c P T, Nat.zero_le _, rfl, by rw [HN.out.1, HW5.out], HN.out.2, Lib.hid (by simp), rfl⟩
  case round =>
    obtain ⟨k, a, hk, rfl, rfl, ha, HF, rfl⟩ := hrel
    by_cases hlt : k < P.length
    · by_cases h2 : a ≤ 1000
      · obtain ⟨ad, rfl, hb, a1, c1, _, k0, _⟩ := HP.out.at_ hlt
        have HS := Lib.hid (fewR_at a P k hlt h2)
        have hs1 := Hsp.out _ (List.getElem_mem hlt)
        have HA2 : Hid (a + P[k].length ≤ 6917529027641081856 ∧ k < P.length) := by unfold Hid; omega
        have HA3 : Hid (a ≤ 1000 ∧ P[k].length ≤ 1152921504606846976 ∧ P.length ≤ 1152921504606846976) := Lib.hid ⟨h2, hs1, HLs.out.2.2.2.2.1⟩
        have g9 := HA3.out.2.2
        go_wp2_with fail
        go_roundw
        case rel => exact ⟨k + 1, a + P[k].length, HA2.out.2, by obtain ⟨g1, g2, g3⟩ := HA3.out; have g4 := HA2.out.2; go_num, by obtain ⟨g1, g2, g3⟩ := HA3.out; go_num, HA2.out.1, Lib.hid (HF.out.trans HS.out), trivial⟩
        case measure => obtain ⟨g1, g2, g3⟩ := HA3.out; have g4 := HA2.out.2; simp [intOf]; omega
      · have HE : Hid (fewR (sixN R c P T) P = a) := by unfold Hid; rw [HF.out]; exact fewR_big a _ h2
        have Ha := Lib.hid ha
        have H2 := Lib.hid h2
        go_wp2_with fail
        go_loopw [3, 5] (fun s i wr => ∃ (k a : Nat), k ≤ T.length ∧ i = .int .i64 k ∧ s = .int .i64 a ∧ a ≤ 6917529027641081856 ∧ Hid (fewR (fewR (sixN R c P T) P) T = fewR a (T.drop k)) ∧ W = wr) (fun _ i _ => T.length - (intOf i).toNat)
        case atStart => exact ⟨0, a, Nat.zero_le _, rfl, rfl, Ha.out, Lib.hid (by rw [HE.out]; simp), rfl⟩
        case round =>
          obtain ⟨k, a, hk, rfl, rfl, ha, HF, rfl⟩ := hrel
          by_cases hlt : k < T.length
          · by_cases h2 : a ≤ 1000
            · obtain ⟨ad, rfl, hb, a1, c1, _, k0, _⟩ := HT.out.at_ hlt
              have HS := Lib.hid (fewR_at a T k hlt h2)
              have hs1 := Hst.out _ (List.getElem_mem hlt)
              have HA2 : Hid (a + T[k].length ≤ 6917529027641081856 ∧ k < T.length) := by unfold Hid; omega
              have HA3 : Hid (a ≤ 1000 ∧ T[k].length ≤ 1152921504606846976 ∧ T.length ≤ 1152921504606846976) := Lib.hid ⟨h2, hs1, HLs.out.2.2.2.2.2⟩
              have g9 := HA3.out.2.2
              go_wp2_with fail
              go_roundw
              case rel => exact ⟨k + 1, a + T[k].length, HA2.out.2, by obtain ⟨g1, g2, g3⟩ := HA3.out; have g4 := HA2.out.2; go_num, by obtain ⟨g1, g2, g3⟩ := HA3.out; go_num, HA2.out.1, Lib.hid (HF.out.trans HS.out), trivial⟩
              case measure => obtain ⟨g1, g2, g3⟩ := HA3.out; have g4 := HA2.out.2; simp [intOf]; omega
            · have HE : Hid (fewR (fewR (sixN R c P T) P) T = a) := by unfold Hid; rw [HF.out]; exact fewR_big a _ h2
              have Ha := Lib.hid ha
              have H2 := Lib.hid h2
              go_wp2_with fail
              go_ret
              have hh := H2.out
              exact ⟨by rw [HD.out, HE.out, decide_eq_false hh]; simp; omega, q0⟩
          · have HE : Hid (fewR (fewR (sixN R c P T) P) T = a) := by unfold Hid; rw [HF.out]; exact fewR_end a _ _ (by omega)
            have Ha := Lib.hid ha
            go_wp2_with fail
            go_ret
            exact ⟨by rw [HD.out, HE.out]; simp; omega, q0⟩
    · have HE : Hid (fewR (sixN R c P T) P = a) := by unfold Hid; rw [HF.out]; exact fewR_end a _ _ (by omega)
      have Ha := Lib.hid ha
      go_wp2_with fail
      go_loopw [3, 5] (fun s i wr => ∃ (k a : Nat), k ≤ T.length ∧ i = .int .i64 k ∧ s = .int .i64 a ∧ a ≤ 6917529027641081856 ∧ Hid (fewR (fewR (sixN R c P T) P) T = fewR a (T.drop k)) ∧ W = wr) (fun _ i _ => T.length - (intOf i).toNat)
      case atStart => exact ⟨0, a, Nat.zero_le _, rfl, rfl, Ha.out, Lib.hid (by rw [HE.out]; simp), rfl⟩
      case round =>
        obtain ⟨k, a, hk, rfl, rfl, ha, HF, rfl⟩ := hrel
        by_cases hlt : k < T.length
        · by_cases h2 : a ≤ 1000
          · obtain ⟨ad, rfl, hb, a1, c1, _, k0, _⟩ := HT.out.at_ hlt
            have HS := Lib.hid (fewR_at a T k hlt h2)
            have hs1 := Hst.out _ (List.getElem_mem hlt)
            have HA2 : Hid (a + T[k].length ≤ 6917529027641081856 ∧ k < T.length) := by unfold Hid; omega
            have HA3 : Hid (a ≤ 1000 ∧ T[k].length ≤ 1152921504606846976 ∧ T.length ≤ 1152921504606846976) := Lib.hid ⟨h2, hs1, HLs.out.2.2.2.2.2⟩
            have g9 := HA3.out.2.2
            go_wp2_with fail
            go_roundw
            case rel => exact ⟨k + 1, a + T[k].length, HA2.out.2, by obtain ⟨g1, g2, g3⟩ := HA3.out; have g4 := HA2.out.2; go_num, by obtain ⟨g1, g2, g3⟩ := HA3.out; go_num, HA2.out.1, Lib.hid (HF.out.trans HS.out), trivial⟩
            case measure => obtain ⟨g1, g2, g3⟩ := HA3.out; have g4 := HA2.out.2; simp [intOf]; omega
          · have HE : Hid (fewR (fewR (sixN R c P T) P) T = a) := by unfold Hid; rw [HF.out]; exact fewR_big a _ h2
            have Ha := Lib.hid ha
            have H2 := Lib.hid h2
            go_wp2_with fail
            go_ret
            have hh := H2.out
            exact ⟨by rw [HD.out, HE.out, decide_eq_false hh]; simp; omega, q0⟩
        · have HE : Hid (fewR (fewR (sixN R c P T) P) T = a) := by unfold Hid; rw [HF.out]; exact fewR_end a _ _ (by omega)
          have Ha := Lib.hid ha
          go_wp2_with fail
          go_ret
          exact ⟨by rw [HD.out, HE.out]; simp; omega, q0⟩
end Go.Proofs.Ytakfhlakdlmhjaa.Ig
