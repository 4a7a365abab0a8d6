/-
  What the proofs lean on, part 4 of 11.
-/
import Derived.Test.YteccgjhnifdcfaaPa
import Derived.Test.YteccgjhnifdcfaaPb
import Derived.Test.YteccgjhnifdcfaaPc
import Derived.Laws.Cover1
import Derived.Outline
import Derived.Laws.Append
import Derived.Laws.MakeOwn
import Derived.Laws.CopyOwn
import Derived.Laws.OwnMore
import Derived.OwnWalk
import Derived.Deep.RegionHeld
import Derived.Deep.Slices
import Derived.Deep.Fields
import Derived.ChangeSame
import Derived.SizedLaws
import Derived.OpenShut
import Derived.Lib.SmallJoins
import Derived.Lib.SliceRun
import Derived.Laws.EntriesVeiled
import Derived.Deep.RegionHeld3
namespace Go.Proofs.Yteccgjhnifdcfaa.Ig
open Go.RowKit Kit Tr Uf
open Go.Proofs.Yteccgjhnifdcfaa.Hs (Keys Ints atI refAt_any BoxT)
open Go.Proofs.Yteccgjhnifdcfaa.Tm (Tm termAt refOf_any Box4)
/-- a place of a row: it may stand there, and rises -/
def okV (R : List Int) (ks : List (List Int)) (m : Nat) (v : Int) (less : Bool) (l : List Int) (i : Nat) : Bool :=
  mayV R ks m (l.getD i 0) v less && (decide (i = 0) || decide (l.getD (i - 1) 0 < l.getD i 0))
def rowV (R : List Int) (ks : List (List Int)) (m : Nat) (v : Int) (less : Bool) (l : List Int) : Bool := decide (∀ i, i < l.length → okV R ks m v less l i = true)
theorem getD_at {l : List Int} {k : Nat} (h : k < l.length) : l.getD k 0 = l[k] := by rw [List.getD_eq_getElem?_getD, List.getElem?_eq_getElem h]; rfl

set_option maxRecDepth 100000 in
set_option maxHeartbeats 4000000 in
theorem refRowV_any (R : List Int) (A S F Av B : Option Addr) (n c m d nr cr nv cv nl cl : Nat) (b1 b2 b3 b4 : Value) (ks : List (List Int)) (l : List Int) (v : Int) (less : Bool) (w : World) (hn : n = ks.length) (hk : Keys w w.heap.size A ks) (hnr : nr = R.length) (hR : Tr.Rds w w.heap.size F (cellsI R))
    (hnl : nl = l.length) (hB : Tr.Rds w w.heap.size B (cellsI l)) (hll : l.length ≤ 1000000) :
    Calls Try.prog 49 #[.agg #[.slice A n c, .slice S m d], .agg #[.slice F nr cr, .slice Av nv cv, b1, b2, b3, b4], .slice B nl cl, .int .i64 v, .bool less] w fun e w' => e = .returned (.bool (rowV R ks nv v less l)) ∧ Q w w' := by
  subst hn
  subst hnr
  subst hnl
  have q0 := ((Q.refl w).alloc (Obj.cells #[Value.slice A ks.length c, Value.slice S m d] 26)).alloc (Obj.cells #[Value.slice F R.length cr, Value.slice Av nv cv, b1, b2, b3, b4] 31)
  have HB := Lib.hid ((BoxT.new w (Value.slice A ks.length c) (Value.slice S m d) 26).q ((Q.refl _).alloc (Obj.cells #[Value.slice F R.length cr, Value.slice Av nv cv, b1, b2, b3, b4] 31)))
  have X := Box6.new (w.alloc (Obj.cells #[Value.slice A ks.length c, Value.slice S m d] 26)) (Value.slice F R.length cr) (Value.slice Av nv cv) b1 b2 b3 b4 31
  rw [World.size_alloc] at X
  have HG := Lib.hid X
  have Hk := Lib.hid ((hk.q (Nat.le_refl _) q0).more q0.size)
  have HR := Lib.hid (hR.q q0)
  have HL := Lib.hid (hB.q q0)
  have HN : Hid (rowV R ks nv v less l = decide (∀ i, i < l.length → okV R ks nv v less l i = true)) := rfl
  clear hk hR hB X
  go_enter Try.func49, Try.ntmps49
  go_upto_region 1 with fail
  generalize (w.alloc (Obj.cells #[Value.slice A ks.length c, Value.slice S m d] 26)).alloc (Obj.cells #[Value.slice F R.length cr, Value.slice Av nv cv, b1, b2, b3, b4] 31) = W0 at *
  go_wp2_with fail
  go_loopw [11] (fun i wr => ∃ k : Nat, k ≤ l.length ∧ i = .int .i64 k ∧ Hid (∀ i, i < k → okV R ks nv v less l i = true) ∧ Hid (Q W0 wr)) (fun i _ => l.length - (intOf i).toNat)
  case atStart => exact ⟨0, Nat.zero_le _, rfl, Lib.hid (fun n hn => absurd hn (by omega)), Lib.hid (Q.refl _)⟩
  case round =>
    obtain ⟨k, hk, rfl, HH, HQ⟩ := hrel
    have HBr := Lib.hid (HB.out.q HQ.out)
    have HGr := Lib.hid (HG.out.q HQ.out)
    have HLr := Lib.hid (HL.out.q HQ.out)
    have b0 := HBr.out.c0
    have b1' := HBr.out.c1
    have g0 := HGr.out.c0
    have g1 := HGr.out.c1
    have g2 := HGr.out.c2
    have g3 := HGr.out.c3
    have g4 := HGr.out.c4
    have g5 := HGr.out.c5
    have l0 := HBr.out.lt
    have l1 := HGr.out.lt
    by_cases hlt : k < l.length
    · obtain ⟨ad, e, hb, c0⟩ := HLr.out.int_at hlt
      subst e
      have hbk : (ad.add k).block < wr.heap.size := by rw [Tr.add_block]; exact hb
      have HO : Hid (okV R ks nv v less l k = (mayV R ks nv l[k] v less && (decide (k = 0) || decide (l.getD (k - 1) 0 < l[k])))) := by unfold Hid okV; rw [getD_at hlt]
      have HK : Hid (okV R ks nv v less l k = true → ∀ n, n < k + 1 → okV R ks nv v less l n = true) := fun hk n hn => by
        by_cases e : n = k
        · subst e; exact hk
        · exact HH.out n (by omega)
      have HZ : Hid (okV R ks nv v less l k = false → rowV R ks nv v less l = false) := fun hk => by rw [HN.out]; exact decide_eq_false (fun h => by have := h k hlt; rw [hk] at this; cases this)
      have CM : Hid (∀ W, Q wr W → Calls Try.prog 35 #[.agg #[.slice A ks.length c, .slice S m d], .agg #[.slice F R.length cr, .slice Av nv cv, b1, b2, b3, b4], .int .i64 l[k], .int .i64 v, .bool less] W fun e W' => e = .returned (.bool (mayV R ks nv l[k] v less)) ∧ Q W W') := fun W q =>
        refMayV_any R A S F Av _ c m d _ cr nv cv b1 b2 b3 b4 ks l[k] v less W rfl (((Hk.out.q (Nat.le_refl _) (HQ.out.trans q)).more (HQ.out.trans q).size)) rfl (HR.out.q (HQ.out.trans q))
      generalize mayV R ks nv l[k] v less = ok at *
      have j0 : (0 : Int) ≤ (k : Int) := Int.natCast_nonneg _
      have j1 : (k : Int) < (l.length : Int) := by omega
      go_upto_region 4 with fail
      go_region_held3 (fun w' => w'.cell? ⟨w.heap.size, 0, none⟩ = some (.slice A ks.length c) ∧ w'.cell? ⟨w.heap.size, 1, none⟩ = some (.slice S m d) ∧ w'.cell? ⟨w.heap.size + 1, 0, none⟩ = some (.slice F R.length cr) ∧ w'.cell? ⟨w.heap.size + 1, 1, none⟩ = some (.slice Av nv cv) ∧ w'.cell? ⟨w.heap.size + 1, 2, none⟩ = some b1 ∧ w'.cell? ⟨w.heap.size + 1, 3, none⟩ = some b2 ∧ w'.cell? ⟨w.heap.size + 1, 4, none⟩ = some b3 ∧ w'.cell? ⟨w.heap.size + 1, 5, none⟩ = some b4 ∧ w'.cell? (ad.add k) = some (.int .i64 l[k]))
        (first
          | go_keep
          | exact ⟨(p3.cell (p := ⟨w.heap.size, 0, none⟩) l0).trans b0, (p3.cell (p := ⟨w.heap.size, 1, none⟩) l0).trans b1', (p3.cell (p := ⟨w.heap.size + 1, 0, none⟩) l1).trans g0, (p3.cell (p := ⟨w.heap.size + 1, 1, none⟩) l1).trans g1, (p3.cell (p := ⟨w.heap.size + 1, 2, none⟩) l1).trans g2, (p3.cell (p := ⟨w.heap.size + 1, 3, none⟩) l1).trans g3, (p3.cell (p := ⟨w.heap.size + 1, 4, none⟩) l1).trans g4, (p3.cell (p := ⟨w.heap.size + 1, 5, none⟩) l1).trans g5, (p3.cell hbk).trans c0⟩)
        (first
          | (go_at_call 35; (with_reducible refine (CM.out _ (Q.refl wr).drew).mono ?_); rintro e w3 ⟨rfl, q2⟩; have p3 : Q wr w3 := (Q.refl wr).drew.trans q2))
      have c0' := (p3.cell hbk).trans c0
      have Hp := Lib.hid p3
      clear b0 b1' g0 g1 g2 g3 g4 g5 c0 q2 p3 CM
      cases ok
      · have HF := Lib.hid (HZ.out (by rw [HO.out]; rfl))
        go_wp2_with fail
        go_quiet (fail)
        go_wp2_with fail
        go_ret
        exact ⟨by rw [HF.out]; rfl, (q0.trans HQ.out).trans (Hp.out.trans (q_drewN _ ⟨_, rfl⟩))⟩
      · rcases k with _ | k
        · have HF := Lib.hid (HK.out (by rw [HO.out]; rfl))
          go_wp2_with fail
          go_quiet (fail)
          go_wp2_with fail
          go_roundw
          case rel => exact ⟨0 + 1, by omega, by go_num, HF, Lib.hid (HQ.out.trans (Hp.out.trans (q_drewN _ ⟨_, rfl⟩)))⟩
          case measure => simp [intOf]; omega
        · have hk' : k < l.length := by omega
          obtain ⟨ad', e', _, c1⟩ := HLr.out.int_at hk'
          obtain rfl : ad' = ad := by injection e' with e'; exact e'.symm
          have c1' := (Hp.out.cell (by rw [Tr.add_block]; exact hb)).trans c1
          have HO : Hid (okV R ks nv v less l (k + 1) = decide (l[k] < l[k + 1])) := by unfold Hid; rw [HO.out, Bool.true_and, decide_eq_false (by omega), Bool.false_or, show k + 1 - 1 = k by omega, getD_at hk']
          have j2 : ((k : Int) + 1 - 1) = (k : Int) := by omega
          have j3 : decide (0 < (k : Int) + 1) = true := decide_eq_true (by omega)
          have j5 : ((k : Int) + 1).toNat = k + 1 := by omega
          have j6 : (k : Int) + 1 < (l.length : Int) := by omega
          have j7 : (0 : Int) ≤ (k : Int) + 1 := by omega
          have j8 : (k : Int) < (l.length : Int) := by omega
          have j9 : IntKind.i64.wrap (k : Int) = (k : Int) := IntWalk.i64_in _ (by omega)
          have j10 : (0 : Int) ≤ (k : Int) := by omega
          have j4 : IntKind.i64.wrap ((k : Int) + 1 - 1) = (k : Int) := by rw [j2]; exact IntWalk.i64_in _ (by omega)
          have c0' : w3.cell? ⟨ad'.block, ad'.off + (k + 1), none⟩ = some (.int .i64 l[k + 1]) := by have := c0'; simpa [Addr.add] using this
          clear c1 e'
          generalize l[k + 1] = x at *
          generalize l[k] = y at *
          by_cases hxy : y < x
          · have d3 : decide (x ≤ y) = false := decide_eq_false (by omega)
            have HF := Lib.hid (HK.out (by rw [HO.out]; exact decide_eq_true hxy))
            clear hxy
            go_wp2_with fail
            go_quiet (fail)
            go_wp2_with fail
            go_roundw
            case rel => exact ⟨k + 1 + 1, by omega, by go_num, HF, Lib.hid (HQ.out.trans (Hp.out.trans (q_drewN _ ⟨_, rfl⟩)))⟩
            case measure => simp [intOf]; omega
          · have d3 : decide (x ≤ y) = true := decide_eq_true (by omega)
            have HF := Lib.hid (HZ.out (by rw [HO.out]; exact decide_eq_false hxy))
            clear hxy
            go_wp2_with fail
            go_quiet (fail)
            go_wp2_with fail
            go_ret
            exact ⟨by rw [HF.out]; rfl, (q0.trans HQ.out).trans (Hp.out.trans (q_drewN _ ⟨_, rfl⟩))⟩
    · have HF : Hid (rowV R ks nv v less l = true) := by unfold Hid; rw [HN.out]; exact decide_eq_true (fun i hi => HH.out i (by omega))
      clear b0 b1' g0 g1 g2 g3 g4 g5
      go_wp2_with fail
      go_ret
      exact ⟨by rw [HF.out]; rfl, q0.trans HQ.out⟩
end Go.Proofs.Yteccgjhnifdcfaa.Ig

namespace Go.Proofs.Yteccgjhnifdcfaa.Ig
open Go.RowKit Kit Tr Uf
open Go.Proofs.Yteccgjhnifdcfaa.Hs (Keys Ints atI refAt_any BoxT)
open Go.Proofs.Yteccgjhnifdcfaa.Tm (Tm termAt refOf_any Box4)
theorem ints_rds {w : World} {Bk : Nat} {A : Option Addr} {xs : List Int} (h : Ints w Bk A xs) : Tr.Rds w Bk A (cellsI xs) := fun h0 => by
  obtain ⟨ad, e, hlt, hc⟩ := h (by rwa [cellsI_len] at h0)
  refine ⟨ad, e, hlt, fun j v hv => ?_⟩
  have hj : j < xs.length := by have := (List.getElem?_eq_some_iff.1 hv).1; rwa [cellsI_len] at this
  rw [cellsI_at hj] at hv
  injection hv with hv
  subst hv
  exact hc j _ (List.getElem?_eq_getElem hj)

/-- a variable's rows are right -/
def okG (R : List Int) (ks : List (List Int)) (V : List Int) (P S : List (List Int)) (v : Nat) : Bool :=
  rowV R ks V.length v true (P.getD v []) && rowV R ks V.length v false (S.getD v []) && ((V.getD v 0 == (v : Int)) || (decide ((P.getD v []).length = 0) && decide ((S.getD v []).length = 0)))
/-- a graph is right -/
def rightG (R : List Int) (ks : List (List Int)) (c : Cells) (P S : List (List Int)) : Bool :=
  (clB R c.V && rightB c) && decide (c.M.length = 0) && decide (P.length = c.V.length) && decide (S.length = c.V.length) && decide (∀ v, v < c.V.length → okG R ks c.V P S v = true)
theorem rows_at {l : List (List Int)} {k : Nat} (h : k < l.length) : l.getD k [] = l[k] := by rw [List.getD_eq_getElem?_getD, List.getElem?_eq_getElem h]; rfl

set_option maxRecDepth 100000 in
set_option maxHeartbeats 8000000 in
theorem refRightG_any (R : List Int) (c : Cells) (A S F Av D E B C : Option Addr) (n ca m d nr cr n1 k1 n2 k2 n3 k3 nb kb nc kc : Nat) (ks P T : List (List Int)) (w : World) (hn : n = ks.length) (hk : Keys w w.heap.size A ks) (hnr : nr = R.length) (hR : Tr.Rds w w.heap.size F (cellsI R))
    (h1 : n1 = c.V.length) (h2 : n2 = c.N.length) (h3 : n3 = c.M.length) (h : Rd w c Av k1 D k2 E k3) (hf : Few c 1000000)
    (hnb : nb = P.length) (hP : Keys w w.heap.size B P) (hnc : nc = T.length) (hT : Keys w w.heap.size C T) (hPl : ∀ x ∈ P, x.length ≤ 1000000) (hTl : ∀ x ∈ T, x.length ≤ 1000000) :
    Calls Try.prog 22 #[.agg #[.slice A n ca, .slice S m d], .agg #[.slice F nr cr, .slice Av n1 k1, .slice D n2 k2, .slice E n3 k3, .slice B nb kb, .slice C nc kc]] w fun e w' => e = .returned (.bool (rightG R ks c P T)) ∧ Q w w' := by
  subst hn
  subst hnr
  subst h1
  subst h2
  subst h3
  subst hnb
  subst hnc
  have q0 := ((Q.refl w).alloc (Obj.cells #[Value.slice A ks.length ca, Value.slice S m d] 26)).alloc (Obj.cells #[Value.slice F R.length cr, Value.slice Av c.V.length k1, Value.slice D c.N.length k2, Value.slice E c.M.length k3, Value.slice B P.length kb, Value.slice C T.length kc] 31)
  have HB := Lib.hid ((BoxT.new w (Value.slice A ks.length ca) (Value.slice S m d) 26).q ((Q.refl _).alloc (Obj.cells #[Value.slice F R.length cr, Value.slice Av c.V.length k1, Value.slice D c.N.length k2, Value.slice E c.M.length k3, Value.slice B P.length kb, Value.slice C T.length kc] 31)))
  have X := Box6.new (w.alloc (Obj.cells #[Value.slice A ks.length ca, Value.slice S m d] 26)) (Value.slice F R.length cr) (Value.slice Av c.V.length k1) (Value.slice D c.N.length k2) (Value.slice E c.M.length k3) (Value.slice B P.length kb) (Value.slice C T.length kc) 31
  rw [World.size_alloc] at X
  have HG := Lib.hid X
  have Hk := Lib.hid ((hk.q (Nat.le_refl _) q0).more q0.size)
  have HR := Lib.hid (hR.q q0)
  have HC := Lib.hid (h.q q0)
  have HP := Lib.hid ((hP.q (Nat.le_refl _) q0).more q0.size)
  have HT := Lib.hid ((hT.q (Nat.le_refl _) q0).more q0.size)
  have HN : Hid (rightG R ks c P T = ((clB R c.V && rightB c) && decide (c.M.length = 0) && decide (P.length = c.V.length) && decide (T.length = c.V.length) && decide (∀ v, v < c.V.length → okG R ks c.V P T v = true))) := rfl
  have Hf := Lib.hid hf
  have HPl := Lib.hid hPl
  have HTl := Lib.hid hTl
  have hfv := hf.1
  clear hk hR h X hP hT hf hPl hTl
  go_enter Try.func22, Try.ntmps22
  go_upto_region 1 with fail
  generalize (w.alloc (Obj.cells #[Value.slice A ks.length ca, Value.slice S m d] 26)).alloc (Obj.cells #[Value.slice F R.length cr, Value.slice Av c.V.length k1, Value.slice D c.N.length k2, Value.slice E c.M.length k3, Value.slice B P.length kb, Value.slice C T.length kc] 31) = W0 at *
  have g0 := HG.out.c0
  have g1 := HG.out.c1
  have g2 := HG.out.c2
  have g3 := HG.out.c3
  have C5 := Lib.hid (right5_any R c Av D E F _ k1 _ k2 _ k3 _ cr W0 rfl rfl rfl rfl HC.out HR.out Hf.out)
  generalize (clB R c.V && rightB c) = u at *
  go_upto_region 2 with (go_at_call 48; refine C5.out.mono ?_; rintro e w2 ⟨rfl, q1⟩)
  have HBq := Lib.hid (HB.out.q q1)
  have HGq := Lib.hid (HG.out.q q1)
  clear g0 g1 g2 g3 C5
  have g1 := HGq.out.c1
  have g2 := HGq.out.c2
  have g3 := HGq.out.c3
  have g4 := HGq.out.c4
  have g5 := HGq.out.c5
  generalize c.M.length = nM at *
  cases u
  · have HF : Hid (rightG R ks c P T = false) := by unfold Hid; rw [HN.out]; rfl
    go_wp2_with fail
    go_ret
    exact ⟨by rw [HF.out]; rfl, q0.trans q1⟩
  by_cases hM : nM = 0
  case neg =>
    have HF : Hid (rightG R ks c P T = false) := by unfold Hid; rw [HN.out, decide_eq_false hM]; rfl
    obtain ⟨j, rfl⟩ : ∃ j, nM = j + 1 := ⟨nM - 1, by omega⟩
    have d1 : decide ((0 : Int) < (j : Int) + 1) = true := decide_eq_true (by omega)
    clear hM HN
    go_wp2_with fail
    go_ret
    exact ⟨by rw [HF.out]; rfl, q0.trans q1⟩
  subst hM
  by_cases hPn : P.length = c.V.length
  case neg =>
    have d2 : ((P.length : Int) != (c.V.length : Int)) = true := by simp; omega
    have HF : Hid (rightG R ks c P T = false) := by unfold Hid; rw [HN.out, decide_eq_false hPn, Bool.and_false]; rfl
    clear hPn
    go_wp2_with fail
    go_ret
    exact ⟨by rw [HF.out]; rfl, q0.trans q1⟩
  have d2 : ((P.length : Int) != (c.V.length : Int)) = false := by simp [hPn]
  by_cases hTn : T.length = c.V.length
  case neg =>
    have d3 : ((T.length : Int) != (c.V.length : Int)) = true := by simp; omega
    have HF : Hid (rightG R ks c P T = false) := by unfold Hid; rw [HN.out, decide_eq_false hTn, Bool.and_false]; rfl
    clear hPn hTn
    go_wp2_with fail
    go_ret
    exact ⟨by rw [HF.out]; rfl, q0.trans q1⟩
  have d3 : ((T.length : Int) != (c.V.length : Int)) = false := by simp [hTn]
  have HN2 : Hid (rightG R ks c P T = decide (∀ v, v < c.V.length → okG R ks c.V P T v = true)) := by unfold Hid; rw [HN.out, decide_eq_true rfl, decide_eq_true hPn, decide_eq_true hTn]; rfl
  have HPn := Lib.hid hPn
  have HTn := Lib.hid hTn
  clear hPn hTn
  have HCq := Lib.hid (HC.out.q q1)
  have HPq := Lib.hid ((HP.out.q (Nat.le_refl _) q1).more q1.size)
  have HTq := Lib.hid ((HT.out.q (Nat.le_refl _) q1).more q1.size)
  have Hkq := Lib.hid ((Hk.out.q (Nat.le_refl _) q1).more q1.size)
  have HRq := Lib.hid (HR.out.q q1)
  go_wp2_with fail
  clear g1 g2 g3 g4 g5
  go_loopw [6] (fun i wr => ∃ k : Nat, k ≤ c.V.length ∧ i = .int .i64 k ∧ Hid (∀ v, v < k → okG R ks c.V P T v = true) ∧ Hid (Q w2 wr)) (fun i _ => c.V.length - (intOf i).toNat)
  case atStart => exact ⟨0, Nat.zero_le _, rfl, Lib.hid (fun n hn => absurd hn (by omega)), Lib.hid (Q.refl _)⟩
  case round =>
    obtain ⟨k, hk, rfl, HH, HQ⟩ := hrel
    have HBr := Lib.hid (HBq.out.q HQ.out)
    have HGr := Lib.hid (HGq.out.q HQ.out)
    have b0 := HBr.out.c0
    have b1' := HBr.out.c1
    have g0 := HGr.out.c0
    have g1 := HGr.out.c1
    have g2 := HGr.out.c2
    have g3 := HGr.out.c3
    have g4 := HGr.out.c4
    have g5 := HGr.out.c5
    have l0 := HBr.out.lt
    have l1 := HGr.out.lt
    by_cases hlt : k < c.V.length
    · have hltP : k < P.length := by rw [HPn.out]; exact hlt
      have hltT : k < T.length := by rw [HTn.out]; exact hlt
      obtain ⟨pa, ep, hpb, a1, c1, hc1, p0, hi1⟩ := ((HPq.out.q (Nat.le_refl _) HQ.out).more HQ.out.size).at_ hltP
      obtain ⟨ta, et, htb, a2, c2, hc2, t0, hi2⟩ := ((HTq.out.q (Nat.le_refl _) HQ.out).more HQ.out.size).at_ hltT
      obtain ⟨va, ev, hvb, v0⟩ := (HCq.out.q HQ.out).v.int_at hlt
      subst ep et ev
      have hpk : (pa.add k).block < wr.heap.size := by rw [Tr.add_block]; exact hpb
      have htk : (ta.add k).block < wr.heap.size := by rw [Tr.add_block]; exact htb
      have hvk : (va.add k).block < wr.heap.size := by rw [Tr.add_block]; exact hvb
      have HO : Hid (okG R ks c.V P T k = (rowV R ks c.V.length k true P[k] && rowV R ks c.V.length k false T[k] && ((c.V[k] == (k : Int)) || (decide (P[k].length = 0) && decide (T[k].length = 0))))) := by unfold Hid okG; rw [rows_at hltP, rows_at hltT, getD_at hlt]
      have HK : Hid (okG R ks c.V P T k = true → ∀ n, n < k + 1 → okG R ks c.V P T n = true) := fun hk n hn => by
        by_cases e : n = k
        · subst e; exact hk
        · exact HH.out n (by omega)
      have HZ : Hid (okG R ks c.V P T k = false → rightG R ks c P T = false) := fun hk => by rw [HN2.out]; exact decide_eq_false (fun h => by have := h k hlt; rw [hk] at this; cases this)
      have C1 : Hid (∀ W, Q wr W → Calls Try.prog 49 #[.agg #[.slice A ks.length ca, .slice S m d], .agg #[.slice F R.length cr, .slice (some va) c.V.length k1, .slice D c.N.length k2, .slice E 0 k3, .slice (some pa) P.length kb, .slice (some ta) T.length kc], .slice a1 P[k].length c1, .int .i64 (k : Int), .bool true] W fun e W' => e = .returned (.bool (rowV R ks c.V.length k true P[k])) ∧ Q W W') := fun W q =>
        refRowV_any R A S F _ a1 _ ca m d _ cr _ k1 _ c1 _ _ _ _ ks P[k] k true W rfl ((Hkq.out.q (Nat.le_refl _) (HQ.out.trans q)).more (HQ.out.trans q).size) rfl (HRq.out.q (HQ.out.trans q)) rfl (ints_rds ((hi1.q (Nat.le_refl _) q).more q.size)) (HPl.out _ (List.getElem_mem hltP))
      have C2 : Hid (∀ W, Q wr W → Calls Try.prog 49 #[.agg #[.slice A ks.length ca, .slice S m d], .agg #[.slice F R.length cr, .slice (some va) c.V.length k1, .slice D c.N.length k2, .slice E 0 k3, .slice (some pa) P.length kb, .slice (some ta) T.length kc], .slice a2 T[k].length c2, .int .i64 (k : Int), .bool false] W fun e W' => e = .returned (.bool (rowV R ks c.V.length k false T[k])) ∧ Q W W') := fun W q =>
        refRowV_any R A S F _ a2 _ ca m d _ cr _ k1 _ c2 _ _ _ _ ks T[k] k false W rfl ((Hkq.out.q (Nat.le_refl _) (HQ.out.trans q)).more (HQ.out.trans q).size) rfl (HRq.out.q (HQ.out.trans q)) rfl (ints_rds ((hi2.q (Nat.le_refl _) q).more q.size)) (HTl.out _ (List.getElem_mem hltT))
      generalize rowV R ks c.V.length k true P[k] = o1 at *
      generalize rowV R ks c.V.length k false T[k] = o2 at *
      generalize P[k].length = np at *
      generalize T[k].length = nt at *
      generalize c.V[k] = x at *
      have j0 : (0 : Int) ≤ (k : Int) := Int.natCast_nonneg _
      have j1 : (k : Int) < (c.V.length : Int) := by omega
      have j2 : (k : Int) < (P.length : Int) := by omega
      have j3 : (k : Int) < (T.length : Int) := by omega
      have Hv0 := Lib.hid v0
      have Hp0 := Lib.hid p0
      have Ht0 := Lib.hid t0
      clear hi1 hi2 v0
      go_upto_region 7 with fail
      go_region_held3 (fun w' => w'.cell? ⟨w.heap.size, 0, none⟩ = some (.slice A ks.length ca) ∧ w'.cell? ⟨w.heap.size, 1, none⟩ = some (.slice S m d) ∧ w'.cell? ⟨w.heap.size + 1, 0, none⟩ = some (.slice F R.length cr) ∧ w'.cell? ⟨w.heap.size + 1, 1, none⟩ = some (.slice (some va) c.V.length k1) ∧ w'.cell? ⟨w.heap.size + 1, 2, none⟩ = some (.slice D c.N.length k2) ∧ w'.cell? ⟨w.heap.size + 1, 3, none⟩ = some (.slice E 0 k3) ∧ w'.cell? ⟨w.heap.size + 1, 4, none⟩ = some (.slice (some pa) P.length kb) ∧ w'.cell? ⟨w.heap.size + 1, 5, none⟩ = some (.slice (some ta) T.length kc) ∧ w'.cell? (pa.add k) = some (.slice a1 np c1))
        (first
          | go_keep
          | exact ⟨(p3.cell (p := ⟨w.heap.size, 0, none⟩) l0).trans b0, (p3.cell (p := ⟨w.heap.size, 1, none⟩) l0).trans b1', (p3.cell (p := ⟨w.heap.size + 1, 0, none⟩) l1).trans g0, (p3.cell (p := ⟨w.heap.size + 1, 1, none⟩) l1).trans g1, (p3.cell (p := ⟨w.heap.size + 1, 2, none⟩) l1).trans g2, (p3.cell (p := ⟨w.heap.size + 1, 3, none⟩) l1).trans g3, (p3.cell (p := ⟨w.heap.size + 1, 4, none⟩) l1).trans g4, (p3.cell (p := ⟨w.heap.size + 1, 5, none⟩) l1).trans g5, (p3.cell hpk).trans p0⟩)
        (first
          | (go_at_call 49; (with_reducible refine (C1.out _ (Q.refl wr).drew).mono ?_); rintro e w3 ⟨rfl, q2⟩; have p3 : Q wr w3 := (Q.refl wr).drew.trans q2))
      have r0 := (p3.cell (p := ⟨w.heap.size, 0, none⟩) l0).trans b0
      have r1 := (p3.cell (p := ⟨w.heap.size, 1, none⟩) l0).trans b1'
      have s0 := (p3.cell (p := ⟨w.heap.size + 1, 0, none⟩) l1).trans g0
      have s1 := (p3.cell (p := ⟨w.heap.size + 1, 1, none⟩) l1).trans g1
      have s2 := (p3.cell (p := ⟨w.heap.size + 1, 2, none⟩) l1).trans g2
      have s3 := (p3.cell (p := ⟨w.heap.size + 1, 3, none⟩) l1).trans g3
      have s4 := (p3.cell (p := ⟨w.heap.size + 1, 4, none⟩) l1).trans g4
      have s5 := (p3.cell (p := ⟨w.heap.size + 1, 5, none⟩) l1).trans g5
      have u0 := (p3.cell htk).trans t0
      have m0 : w.heap.size < w3.heap.size := Nat.lt_of_lt_of_le l0 p3.size
      have m1 : w.heap.size + 1 < w3.heap.size := Nat.lt_of_lt_of_le l1 p3.size
      have mtk : (ta.add k).block < w3.heap.size := Nat.lt_of_lt_of_le htk p3.size
      have Hp3 := Lib.hid p3
      clear b0 b1' g0 g1 g2 g3 g4 g5 p0 t0 q2 C1 p3
      go_upto_region 8 with fail
      go_region_held3 (fun w' => w'.cell? ⟨w.heap.size, 0, none⟩ = some (.slice A ks.length ca) ∧ w'.cell? ⟨w.heap.size, 1, none⟩ = some (.slice S m d) ∧ w'.cell? ⟨w.heap.size + 1, 0, none⟩ = some (.slice F R.length cr) ∧ w'.cell? ⟨w.heap.size + 1, 1, none⟩ = some (.slice (some va) c.V.length k1) ∧ w'.cell? ⟨w.heap.size + 1, 2, none⟩ = some (.slice D c.N.length k2) ∧ w'.cell? ⟨w.heap.size + 1, 3, none⟩ = some (.slice E 0 k3) ∧ w'.cell? ⟨w.heap.size + 1, 4, none⟩ = some (.slice (some pa) P.length kb) ∧ w'.cell? ⟨w.heap.size + 1, 5, none⟩ = some (.slice (some ta) T.length kc) ∧ w'.cell? (ta.add k) = some (.slice a2 nt c2))
        (first
          | go_keep
          | exact ⟨(p4.cell (p := ⟨w.heap.size, 0, none⟩) m0).trans r0, (p4.cell (p := ⟨w.heap.size, 1, none⟩) m0).trans r1, (p4.cell (p := ⟨w.heap.size + 1, 0, none⟩) m1).trans s0, (p4.cell (p := ⟨w.heap.size + 1, 1, none⟩) m1).trans s1, (p4.cell (p := ⟨w.heap.size + 1, 2, none⟩) m1).trans s2, (p4.cell (p := ⟨w.heap.size + 1, 3, none⟩) m1).trans s3, (p4.cell (p := ⟨w.heap.size + 1, 4, none⟩) m1).trans s4, (p4.cell (p := ⟨w.heap.size + 1, 5, none⟩) m1).trans s5, (p4.cell mtk).trans u0⟩)
        (first
          | (go_at_call 49; (with_reducible refine (C2.out _ (Hp3.out.trans (Q.refl w3).drew)).mono ?_); rintro e w4 ⟨rfl, q3⟩; have p4 : Q w3 w4 := (Q.refl w3).drew.trans q3))
      have HQ4 := Lib.hid (Hp3.out.trans p4)
      clear r0 r1 s0 s1 s2 s3 s4 s5 u0 q3 C2 p4
      have g1 := (HGr.out.q HQ4.out).c1
      have g4 := (HGr.out.q HQ4.out).c4
      have g5 := (HGr.out.q HQ4.out).c5
      have v0 := (HQ4.out.cell hvk).trans Hv0.out
      have p0 := (HQ4.out.cell hpk).trans Hp0.out
      have t0 := (HQ4.out.cell htk).trans Ht0.out
      cases o1
      · have HF := Lib.hid (HZ.out (by rw [HO.out]; rfl))
        go_wp2_with fail
        go_ret
        exact ⟨by rw [HF.out]; rfl, (q0.trans q1).trans (HQ.out.trans HQ4.out)⟩
      cases o2
      · have HF := Lib.hid (HZ.out (by rw [HO.out]; rfl))
        go_wp2_with fail
        go_ret
        exact ⟨by rw [HF.out]; rfl, (q0.trans q1).trans (HQ.out.trans HQ4.out)⟩
      cases ex : (x == (k : Int))
      · have ex' : (x != (k : Int)) = true := by simpa using ex
        rw [ex] at HO
        clear ex
        rcases np with _ | np
        · rcases nt with _ | nt
          · have HF := Lib.hid (HK.out (by rw [HO.out]; rfl))
            go_wp2_with fail
            go_roundw
            case rel => exact ⟨k + 1, by omega, by go_num, HF, Lib.hid (HQ.out.trans HQ4.out)⟩
            case measure => simp [intOf]; omega
          · have HF := Lib.hid (HZ.out (by rw [HO.out]; rfl))
            have d4 : decide ((0 : Int) < (nt : Int) + 1) = true := decide_eq_true (by omega)
            go_wp2_with fail
            go_ret
            exact ⟨by rw [HF.out]; rfl, (q0.trans q1).trans (HQ.out.trans HQ4.out)⟩
        · have HF := Lib.hid (HZ.out (by rw [HO.out]; rfl))
          have d4 : decide ((0 : Int) < (np : Int) + 1) = true := decide_eq_true (by omega)
          go_wp2_with fail
          go_ret
          exact ⟨by rw [HF.out]; rfl, (q0.trans q1).trans (HQ.out.trans HQ4.out)⟩
      · have ex' : (x != (k : Int)) = false := by simpa using ex
        have HF := Lib.hid (HK.out (by rw [HO.out, ex]; rfl))
        clear ex
        go_wp2_with fail
        go_roundw
        case rel => exact ⟨k + 1, by omega, by go_num, HF, Lib.hid (HQ.out.trans HQ4.out)⟩
        case measure => simp [intOf]; omega
    · have HF : Hid (rightG R ks c P T = true) := by
        have hall : ∀ v, v < c.V.length → okG R ks c.V P T v = true := fun i hi => HH.out i (by omega)
        unfold Hid; rw [HN2.out]; exact decide_eq_true hall
      clear b0 b1' g0 g2 g3 g4 g5
      go_wp2_with fail
      go_ret
      exact ⟨by rw [HF.out]; rfl, (q0.trans q1).trans HQ.out⟩
end Go.Proofs.Yteccgjhnifdcfaa.Ig

namespace Go.Proofs.Yteccgjhnifdcfaa.Ig
open Go.RowKit Kit Tr Uf
open Go.Proofs.Yteccgjhnifdcfaa.Hs (Keys Ints atI refAt_any BoxT)
open Go.Proofs.Yteccgjhnifdcfaa.Tm (Tm termAt refOf_any Box4)
def allV (ks : List (List Int)) (m : Nat) : Bool := decide (∀ v : Nat, v < m → 0 ≤ atV ks v)

set_option maxRecDepth 100000 in
set_option maxHeartbeats 2000000 in
theorem refAllV_any (A S Av : Option Addr) (n c m d nv cv : Nat) (r b1 b2 b3 b4 : Value) (ks : List (List Int)) (w : World) (hn : n = ks.length) (hk : Keys w w.heap.size A ks) (hl : ks.length ≤ maxLen) (hs : ∀ k ∈ ks, k.length ≤ maxLen) (hnv : nv ≤ 1000000) :
    Calls Try.prog 23 #[.agg #[.slice A n c, .slice S m d], .agg #[r, .slice Av nv cv, b1, b2, b3, b4]] w fun e w' => e = .returned (.bool (allV ks nv)) ∧ Q w w' := by
  subst hn
  have q0 := ((Q.refl w).alloc (Obj.cells #[Value.slice A ks.length c, Value.slice S m d] 26)).alloc (Obj.cells #[r, Value.slice Av nv cv, b1, b2, b3, b4] 31)
  have HB := Lib.hid ((BoxT.new w (Value.slice A ks.length c) (Value.slice S m d) 26).q ((Q.refl _).alloc (Obj.cells #[r, Value.slice Av nv cv, b1, b2, b3, b4] 31)))
  have X := Box6.new (w.alloc (Obj.cells #[Value.slice A ks.length c, Value.slice S m d] 26)) r (Value.slice Av nv cv) b1 b2 b3 b4 31
  rw [World.size_alloc] at X
  have HG := Lib.hid X
  have Hk := Lib.hid ((hk.q (Nat.le_refl _) q0).more q0.size)
  have HN : Hid (allV ks nv = decide (∀ v : Nat, v < nv → 0 ≤ atV ks v)) := rfl
  clear hk X
  go_enter Try.func23, Try.ntmps23
  go_upto_region 1 with fail
  generalize (w.alloc (Obj.cells #[Value.slice A ks.length c, Value.slice S m d] 26)).alloc (Obj.cells #[r, Value.slice Av nv cv, b1, b2, b3, b4] 31) = W0 at *
  go_wp2_with fail
  go_loopw [5] (fun i wr => ∃ k : Nat, k ≤ nv ∧ i = .int .i64 k ∧ Hid (∀ v : Nat, v < k → 0 ≤ atV ks v) ∧ Hid (Q W0 wr)) (fun i _ => nv - (intOf i).toNat)
  case atStart => exact ⟨0, Nat.zero_le _, rfl, Lib.hid (fun n hn => absurd hn (by omega)), Lib.hid (Q.refl _)⟩
  case round =>
    obtain ⟨k, hk, rfl, HH, HQ⟩ := hrel
    have b0 := (HB.out.q HQ.out).c0
    have b1' := (HB.out.q HQ.out).c1
    have g1 := (HG.out.q HQ.out).c1
    by_cases hlt : k < nv
    · have CA := Lib.hid (refAtV_any A _ c (.slice S m d) ks (k : Int) wr rfl ((Hk.out.q (Nat.le_refl _) HQ.out).more HQ.out.size) hl hs)
      by_cases ha : atV ks k < 0
      · have d1 : decide (atV ks k < 0) = true := decide_eq_true ha
        have HF : Hid (allV ks nv = false) := by unfold Hid; rw [HN.out]; exact decide_eq_false (fun h => by have := h k hlt; omega)
        generalize atV ks k = x at *
        clear ha
        go_wp2_with (go_at_call 14; refine CA.out.mono ?_; rintro e w2 ⟨rfl, q2⟩)
        go_ret
        exact ⟨by rw [HF.out]; rfl, (q0.trans HQ.out).trans q2⟩
      · have d1 : decide (atV ks k < 0) = false := decide_eq_false ha
        have HK : Hid (∀ v : Nat, v < k + 1 → 0 ≤ atV ks v) := fun v hv => by
          by_cases e : v = k
          · subst e; omega
          · exact HH.out v (by omega)
        generalize atV ks k = x at CA d1
        clear ha
        go_wp2_with (go_at_call 14; refine CA.out.mono ?_; rintro e w2 ⟨rfl, q2⟩)
        have HQ2 := Lib.hid (HQ.out.trans q2)
        go_roundw
        case rel => exact ⟨k + 1, by omega, by go_num, HK, HQ2⟩
        case measure => simp [intOf]; omega
    · have HF : Hid (allV ks nv = true) := by
        have hall : ∀ v : Nat, v < nv → 0 ≤ atV ks v := fun i hi => HH.out i (by omega)
        unfold Hid; rw [HN.out]; exact decide_eq_true hall
      go_wp2_with fail
      go_ret
      exact ⟨by rw [HF.out]; rfl, q0.trans HQ.out⟩
end Go.Proofs.Yteccgjhnifdcfaa.Ig

namespace Go.Proofs.Yteccgjhnifdcfaa.Ig
open Go.RowKit Kit Tr Uf
open Go.Proofs.Yteccgjhnifdcfaa.Hs (Keys Ints BoxT)
/-- rows counted, till there are too many -/
def fewR (n : Nat) : List (List Int) → Nat
  | [] => n
  | k :: l => if n ≤ 1000 then fewR (n + k.length) l else n
theorem fewR_at (n : Nat) (ks : List (List Int)) (i : Nat) (h : i < ks.length) (hn : n ≤ 1000) : fewR n (ks.drop i) = fewR (n + ks[i].length) (ks.drop (i + 1)) := by
  rw [List.drop_eq_getElem_cons h, fewR, if_pos hn]
theorem fewR_big (n : Nat) (ks : List (List Int)) (hn : ¬ n ≤ 1000) : fewR n ks = n := by
  cases ks with
  | nil => rfl
  | cons k l => rw [fewR, if_neg hn]
theorem fewR_end (n : Nat) (ks : List (List Int)) (i : Nat) (h : ks.length ≤ i) : fewR n (ks.drop i) = n := by
  rw [List.drop_eq_nil_of_le h]; rfl
theorem fewR_le : ∀ (ks : List (List Int)) (n : Nat), fewR n ks ≤ 1000 → n ≤ 1000 ∧ ∀ k ∈ ks, k.length ≤ 1000
  | [], n, h => ⟨h, fun k hk => by cases hk⟩
  | k :: l, n, h => by
    rw [fewR] at h
    by_cases hn : n ≤ 1000
    · rw [if_pos hn] at h
      obtain ⟨h1, h2⟩ := fewR_le l _ h
      refine ⟨hn, fun x hx => ?_⟩
      rcases List.mem_cons.1 hx with rfl | hx
      · omega
      · exact h2 x hx
    · rw [if_neg hn] at h
      exact absurd h hn
/-- how long the rows themselves are -/
def sixN (R : List Int) (c : Cells) (P T : List (List Int)) : Nat := R.length + c.V.length + c.N.length + c.M.length + P.length + T.length
def few12B (R : List Int) (c : Cells) (P T : List (List Int)) : Bool := decide (fewR (fewR (sixN R c P T) P) T ≤ 1000)
theorem few12_ok {R : List Int} {c : Cells} {P T : List (List Int)} (h : few12B R c P T = true) : R.length ≤ 1000 ∧ Few c 1000 ∧ P.length ≤ 1000 ∧ T.length ≤ 1000 ∧ (∀ k ∈ P, k.length ≤ 1000) ∧ (∀ k ∈ T, k.length ≤ 1000) := by
  have h1 := of_decide_eq_true h
  obtain ⟨h2, h3⟩ := fewR_le T _ h1
  obtain ⟨h4, h5⟩ := fewR_le P _ h2
  unfold sixN at h4
  exact ⟨by omega, ⟨by omega, by omega, by omega⟩, by omega, by omega, h5, h3⟩

set_option maxRecDepth 100000 in
set_option maxHeartbeats 4000000 in
theorem refFew12_any (R : List Int) (c : Cells) (P T : List (List Int)) (F A D E Pa Ta : Option Addr) (nr cr n1 k1 n2 k2 n3 k3 np kp nt kt : Nat) (w : World) (hr : nr = R.length) (h1 : n1 = c.V.length) (h2 : n2 = c.N.length) (h3 : n3 = c.M.length) (hp : np = P.length) (ht : nt = T.length)
    (hP : Keys w w.heap.size Pa P) (hT : Keys w w.heap.size Ta T) (lR : R.length ≤ 1152921504606846976) (lV : c.V.length ≤ 1152921504606846976) (lN : c.N.length ≤ 1152921504606846976) (lM : c.M.length ≤ 1152921504606846976) (lP : P.length ≤ 1152921504606846976) (lT : T.length ≤ 1152921504606846976)
    (sP : ∀ k ∈ P, k.length ≤ 1152921504606846976) (sT : ∀ k ∈ T, k.length ≤ 1152921504606846976) :
    Calls Try.prog 21 #[.agg #[.slice F nr cr, .slice A n1 k1, .slice D n2 k2, .slice E n3 k3, .slice Pa np kp, .slice Ta nt kt]] w fun e w' => e = .returned (.bool (few12B R c P T)) ∧ Q w w' := by
  subst hr h1 h2 h3 hp ht
  have q0 := (Q.refl w).alloc (Obj.cells #[.slice F R.length cr, .slice A c.V.length k1, .slice D c.N.length k2, .slice E c.M.length k3, .slice Pa P.length kp, .slice Ta T.length kt] 31)
  have HB := Lib.hid (Box6.new w (.slice F R.length cr) (.slice A c.V.length k1) (.slice D c.N.length k2) (.slice E c.M.length k3) (.slice Pa P.length kp) (.slice Ta T.length kt) 31)
  have HP := Lib.hid ((hP.q (Nat.le_refl _) q0).more q0.size)
  have HT := Lib.hid ((hT.q (Nat.le_refl _) q0).more q0.size)
  have HS6 : Hid (sixN R c P T = R.length + c.V.length + c.N.length + c.M.length + P.length + T.length) := rfl
  have HD : Hid (few12B R c P T = decide (fewR (fewR (sixN R c P T) P) T ≤ 1000)) := rfl
  have Hsp := Lib.hid sP
  have Hst := Lib.hid sT
  have HLs : Hid (R.length ≤ 1152921504606846976 ∧ c.V.length ≤ 1152921504606846976 ∧ c.N.length ≤ 1152921504606846976 ∧ c.M.length ≤ 1152921504606846976 ∧ P.length ≤ 1152921504606846976 ∧ T.length ≤ 1152921504606846976) := ⟨lR, lV, lN, lM, lP, lT⟩
  have HN : Hid (((sixN R c P T : Nat) : Int) = (R.length : Int) + (c.V.length : Int) + (c.N.length : Int) + (c.M.length : Int) + (P.length : Int) + (T.length : Int) ∧ sixN R c P T ≤ 6917529027641081856) := by unfold Hid; rw [HS6.out]; omega
  clear hP hT sP sT lR lV lN lM lP lT
  go_enter Try.func21, Try.ntmps21
  go_upto_region 1 with fail
  generalize w.alloc (Obj.cells #[.slice F R.length cr, .slice A c.V.length k1, .slice D c.N.length k2, .slice E c.M.length k3, .slice Pa P.length kp, .slice Ta T.length kt] 31) = W at *
  have b0 := HB.out.c0
  have b1 := HB.out.c1
  have b2 := HB.out.c2
  have b3 := HB.out.c3
  have b4 := HB.out.c4
  have b5 := HB.out.c5
  obtain ⟨lR, lV, lN, lM, lP, lT⟩ := HLs.out
  have w1 : wrap64 ((R.length : Int) + (c.V.length : Int)) = (R.length : Int) + (c.V.length : Int) := IntWalk.wrap64_in _ (by omega)
  have w2 : wrap64 ((R.length : Int) + (c.V.length : Int) + (c.N.length : Int)) = (R.length : Int) + (c.V.length : Int) + (c.N.length : Int) := IntWalk.wrap64_in _ (by omega)
  have w3 : wrap64 ((R.length : Int) + (c.V.length : Int) + (c.N.length : Int) + (c.M.length : Int)) = (R.length : Int) + (c.V.length : Int) + (c.N.length : Int) + (c.M.length : Int) := IntWalk.wrap64_in _ (by omega)
  have w4 : wrap64 ((R.length : Int) + (c.V.length : Int) + (c.N.length : Int) + (c.M.length : Int) + (P.length : Int)) = (R.length : Int) + (c.V.length : Int) + (c.N.length : Int) + (c.M.length : Int) + (P.length : Int) := IntWalk.wrap64_in _ (by omega)
  have w5 : wrap64 ((R.length : Int) + (c.V.length : Int) + (c.N.length : Int) + (c.M.length : Int) + (P.length : Int) + (T.length : Int)) = (R.length : Int) + (c.V.length : Int) + (c.N.length : Int) + (c.M.length : Int) + (P.length : Int) + (T.length : Int) := IntWalk.wrap64_in _ (by omega)
  have HW5 := Lib.hid w5
  clear lR lV lN lM lP lT
  go_wp2_with fail
  clear w1 w2 w3 w4 w5 b0 b1 b2 b3
  go_loopw [3, 4] (fun s i wr => ∃ (k a : Nat), k ≤ P.length ∧ i = .int .i64 k ∧ s = .int .i64 a ∧ a ≤ 6917529027641081856 ∧ Hid (fewR (sixN R c P T) P = fewR a (P.drop k)) ∧ W = wr) (fun _ i _ => P.length - (intOf i).toNat)
  case atStart => exact ⟨0, sixN R c P T, Nat.zero_le _, rfl, by rw [HN.out.1, HW5.out], HN.out.2, Lib.hid (by simp), rfl⟩
  case round =>
    obtain ⟨k, a, hk, rfl, rfl, ha, HF, rfl⟩ := hrel
    by_cases hlt : k < P.length
    · by_cases h2 : a ≤ 1000
      · obtain ⟨ad, rfl, hb, a1, c1, _, k0, _⟩ := HP.out.at_ hlt
        have HS := Lib.hid (fewR_at a P k hlt h2)
        have hs1 := Hsp.out _ (List.getElem_mem hlt)
        have HA2 : Hid (a + P[k].length ≤ 6917529027641081856 ∧ k < P.length) := by unfold Hid; omega
        have HA3 : Hid (a ≤ 1000 ∧ P[k].length ≤ 1152921504606846976 ∧ P.length ≤ 1152921504606846976) := Lib.hid ⟨h2, hs1, HLs.out.2.2.2.2.1⟩
        have g9 := HA3.out.2.2
        go_wp2_with fail
        go_roundw
        case rel => exact ⟨k + 1, a + P[k].length, HA2.out.2, by obtain ⟨g1, g2, g3⟩ := HA3.out; have g4 := HA2.out.2; go_num, by obtain ⟨g1, g2, g3⟩ := HA3.out; go_num, HA2.out.1, Lib.hid (HF.out.trans HS.out), trivial⟩
        case measure => obtain ⟨g1, g2, g3⟩ := HA3.out; have g4 := HA2.out.2; simp [intOf]; omega
      · have HE : Hid (fewR (sixN R c P T) P = a) := by unfold Hid; rw [HF.out]; exact fewR_big a _ h2
        have Ha := Lib.hid ha
        have H2 := Lib.hid h2
        go_wp2_with fail
        go_loopw [3, 5] (fun s i wr => ∃ (k a : Nat), k ≤ T.length ∧ i = .int .i64 k ∧ s = .int .i64 a ∧ a ≤ 6917529027641081856 ∧ Hid (fewR (fewR (sixN R c P T) P) T = fewR a (T.drop k)) ∧ W = wr) (fun _ i _ => T.length - (intOf i).toNat)
        case atStart => exact ⟨0, a, Nat.zero_le _, rfl, rfl, Ha.out, Lib.hid (by rw [HE.out]; simp), rfl⟩
        case round =>
          obtain ⟨k, a, hk, rfl, rfl, ha, HF, rfl⟩ := hrel
          by_cases hlt : k < T.length
          · by_cases h2 : a ≤ 1000
            · obtain ⟨ad, rfl, hb, a1, c1, _, k0, _⟩ := HT.out.at_ hlt
              have HS := Lib.hid (fewR_at a T k hlt h2)
              have hs1 := Hst.out _ (List.getElem_mem hlt)
              have HA2 : Hid (a + T[k].length ≤ 6917529027641081856 ∧ k < T.length) := by unfold Hid; omega
              have HA3 : Hid (a ≤ 1000 ∧ T[k].length ≤ 1152921504606846976 ∧ T.length ≤ 1152921504606846976) := Lib.hid ⟨h2, hs1, HLs.out.2.2.2.2.2⟩
              have g9 := HA3.out.2.2
              go_wp2_with fail
              go_roundw
              case rel => exact ⟨k + 1, a + T[k].length, HA2.out.2, by obtain ⟨g1, g2, g3⟩ := HA3.out; have g4 := HA2.out.2; go_num, by obtain ⟨g1, g2, g3⟩ := HA3.out; go_num, HA2.out.1, Lib.hid (HF.out.trans HS.out), trivial⟩
              case measure => obtain ⟨g1, g2, g3⟩ := HA3.out; have g4 := HA2.out.2; simp [intOf]; omega
            · have HE : Hid (fewR (fewR (sixN R c P T) P) T = a) := by unfold Hid; rw [HF.out]; exact fewR_big a _ h2
              have Ha := Lib.hid ha
              have H2 := Lib.hid h2
              go_wp2_with fail
              go_ret
              have hh := H2.out
              exact ⟨by rw [HD.out, HE.out, decide_eq_false hh]; simp; omega, q0⟩
          · have HE : Hid (fewR (fewR (sixN R c P T) P) T = a) := by unfold Hid; rw [HF.out]; exact fewR_end a _ _ (by omega)
            have Ha := Lib.hid ha
            go_wp2_with fail
            go_ret
            exact ⟨by rw [HD.out, HE.out]; simp; omega, q0⟩
    · have HE : Hid (fewR (sixN R c P T) P = a) := by unfold Hid; rw [HF.out]; exact fewR_end a _ _ (by omega)
      have Ha := Lib.hid ha
      go_wp2_with fail
      go_loopw [3, 5] (fun s i wr => ∃ (k a : Nat), k ≤ T.length ∧ i = .int .i64 k ∧ s = .int .i64 a ∧ a ≤ 6917529027641081856 ∧ Hid (fewR (fewR (sixN R c P T) P) T = fewR a (T.drop k)) ∧ W = wr) (fun _ i _ => T.length - (intOf i).toNat)
      case atStart => exact ⟨0, a, Nat.zero_le _, rfl, rfl, Ha.out, Lib.hid (by rw [HE.out]; simp), rfl⟩
      case round =>
        obtain ⟨k, a, hk, rfl, rfl, ha, HF, rfl⟩ := hrel
        by_cases hlt : k < T.length
        · by_cases h2 : a ≤ 1000
          · obtain ⟨ad, rfl, hb, a1, c1, _, k0, _⟩ := HT.out.at_ hlt
            have HS := Lib.hid (fewR_at a T k hlt h2)
            have hs1 := Hst.out _ (List.getElem_mem hlt)
            have HA2 : Hid (a + T[k].length ≤ 6917529027641081856 ∧ k < T.length) := by unfold Hid; omega
            have HA3 : Hid (a ≤ 1000 ∧ T[k].length ≤ 1152921504606846976 ∧ T.length ≤ 1152921504606846976) := Lib.hid ⟨h2, hs1, HLs.out.2.2.2.2.2⟩
            have g9 := HA3.out.2.2
            go_wp2_with fail
            go_roundw
            case rel => exact ⟨k + 1, a + T[k].length, HA2.out.2, by obtain ⟨g1, g2, g3⟩ := HA3.out; have g4 := HA2.out.2; go_num, by obtain ⟨g1, g2, g3⟩ := HA3.out; go_num, HA2.out.1, Lib.hid (HF.out.trans HS.out), trivial⟩
            case measure => obtain ⟨g1, g2, g3⟩ := HA3.out; have g4 := HA2.out.2; simp [intOf]; omega
          · have HE : Hid (fewR (fewR (sixN R c P T) P) T = a) := by unfold Hid; rw [HF.out]; exact fewR_big a _ h2
            have Ha := Lib.hid ha
            have H2 := Lib.hid h2
            go_wp2_with fail
            go_ret
            have hh := H2.out
            exact ⟨by rw [HD.out, HE.out, decide_eq_false hh]; simp; omega, q0⟩
        · have HE : Hid (fewR (fewR (sixN R c P T) P) T = a) := by unfold Hid; rw [HF.out]; exact fewR_end a _ _ (by omega)
          have Ha := Lib.hid ha
          go_wp2_with fail
          go_ret
          exact ⟨by rw [HD.out, HE.out]; simp; omega, q0⟩
end Go.Proofs.Yteccgjhnifdcfaa.Ig

namespace Go.Proofs.Yteccgjhnifdcfaa.Ig
open Go.RowKit Kit Tr Uf
open Go.Proofs.Yteccgjhnifdcfaa.Hs (Keys Ints BoxT layI fewB refFew_any few_sum mem_len)
open Go.Proofs.Yteccgjhnifdcfaa.Tm (storeB refRight3_any)
def of12B (l : List Sg.Sig) (ks : List (List Int)) (sl : List Int) (R : List Int) (c : Cells) (P T : List (List Int)) : Bool :=
  decide (l.length ≤ 64) && Sg.rightB l && fewB ks sl.length && storeB l ks sl && few12B R c P T && rightG R ks c P T && allV ks c.V.length

theorem of12_ok {L : List Sg.Sig} {ks : List (List Int)} {sl R : List Int} {c : Cells} {P T : List (List Int)} (h : of12B L ks sl R c P T = true) : (Sg.rightB L = true ∧ fewB ks sl.length = true ∧ storeB L ks sl = true) ∧ few12B R c P T = true ∧ rightG R ks c P T = true ∧ allV ks c.V.length = true := by
  unfold of12B at h
  simp only [Bool.and_eq_true] at h
  exact ⟨⟨h.1.1.1.1.1.2, h.1.1.1.1.2, h.1.1.1.2⟩, h.1.1.2, h.1.2, h.2⟩
end Go.Proofs.Yteccgjhnifdcfaa.Ig

namespace Go.Proofs.Yteccgjhnifdcfaa.Ig
open Go.RowKit Kit Tr Uf
open Go.Proofs.Yteccgjhnifdcfaa.Hs (Keys Ints BoxT layI Dist)
open Go.Proofs.Yteccgjhnifdcfaa.Tm (Tm termAt of_any Box4 LookPost)
/-- what the laws ask of a store -/
structure OkS (ks : List (List Int)) : Prop where
  dist : Dist ks
  len : ks.length ≤ 5000
  key : ∀ k ∈ ks, k.length ≤ 100000
  var : ∀ id t, termAt ks id = some t → t.k = 2 → 0 ≤ t.s
theorem numV_def (ks : List (List Int)) (m : Nat) (id : Int) : numV ks m id = if (termAt ks id).isSome = true ∧ ((termAt ks id).getD Tm.none).k = 2 ∧ ((termAt ks id).getD Tm.none).s < (m : Int) then ((termAt ks id).getD Tm.none).s else -1 := rfl
end Go.Proofs.Yteccgjhnifdcfaa.Ig

namespace Go.Proofs.Yteccgjhnifdcfaa.Ig
open Go.RowKit Kit Tr Uf
open Go.Proofs.Yteccgjhnifdcfaa.Hs (Keys Ints layI atI Dist few_sum mem_len fewB)
open Go.Proofs.Yteccgjhnifdcfaa.Tm (Tm Store termAt termAt_at termAt_out ofKey isPl isPl_iff keyOk storeB store_iff mayB standB)
theorem termAt_key {ks : List (List Int)} {i : Nat} {key : List Int} (h : ks[i]? = some key) (h3 : 3 ≤ key.length) : termAt ks (i : Int) = some (ofKey key) := by
  obtain ⟨hi, e⟩ := List.getElem?_eq_some_iff.1 h
  subst e
  exact termAt_at hi h3
theorem okS_of {L : List Sg.Sig} {ks : List (List Int)} (hS : Store L ks) (hl : ks.length ≤ 5000) (hk : ∀ k ∈ ks, k.length ≤ 100000) : OkS ks := by
  refine ⟨hS.dist, hl, hk, fun id t ht h2 => ?_⟩
  cases hp : isPl id ks.length with
  | false => rw [termAt_out hp] at ht; cases ht
  | true =>
    obtain ⟨h0, h4⟩ := (isPl_iff _ _).1 hp
    obtain ⟨i, rfl⟩ := Int.eq_ofNat_of_zero_le h0
    have hi : i < ks.length := by omega
    have hok := hS.ok i ks[i] (List.getElem?_eq_getElem hi)
    by_cases h3 : 3 ≤ ks[i].length
    · rw [termAt_at hi h3] at ht
      injection ht with ht
      subst ht
      unfold keyOk at hok
      simp only [Bool.and_eq_true] at hok
      have hm := hok.1.2
      unfold mayB at hm
      simp only [Bool.and_eq_true] at hm
      have hst := hm.1.1
      unfold standB at hst
      rw [if_pos h2, Bool.and_eq_true] at hst
      exact of_decide_eq_true hst.1
    · rw [Tm.termAt_short hi (by omega)] at ht; cases ht
theorem of12_plain {L : List Sg.Sig} {ks : List (List Int)} {sl R : List Int} {c : Cells} {P T : List (List Int)} (h : of12B L ks sl R c P T = true) : OkS ks ∧ sl = layI ks ∧ (R.length ≤ 1000 ∧ Few c 1000 ∧ P.length ≤ 1000 ∧ T.length ≤ 1000 ∧ (∀ k ∈ P, k.length ≤ 1000) ∧ (∀ k ∈ T, k.length ≤ 1000)) ∧ Cl R c.V ∧ P.length = c.V.length ∧ T.length = c.V.length ∧ rightG R ks c P T = true ∧ allV ks c.V.length = true := by
  obtain ⟨⟨_, hf, hst⟩, h4, h5, h6⟩ := of12_ok h
  have hsum := few_sum hf
  obtain ⟨hS, hsl⟩ := (store_iff _ _ _).1 hst
  have hg := h5
  unfold rightG at hg
  simp only [Bool.and_eq_true, decide_eq_true_eq] at hg
  exact ⟨okS_of hS (by omega) (fun k hk => by have := mem_len hk; omega), hsl, few12_ok h4, cl_of hg.1.1.1.1.1, hg.1.1.2, hg.1.2, h5, h6⟩
end Go.Proofs.Yteccgjhnifdcfaa.Ig

namespace Go.Proofs.Yteccgjhnifdcfaa.Rw
open Go.RowKit Kit

/-- a slice value that reads these cells, below block B -/
def Rds (w : World) (B : Nat) (A : Option Addr) (cs : List Value) : Prop := 0 < cs.length → ∃ ad, A = some ad ∧ ad.block < B ∧ ∀ j v, cs[j]? = some v → w.cell? (ad.add j) = some v
theorem add_block (a : Addr) (n : Nat) : (a.add n).block = a.block := by unfold Addr.add; split <;> rfl
theorem add_succ (a : Addr) (n : Nat) : a.add (n + 1) = ⟨(a.add n).block, (a.add n).off + 1, none⟩ := by
  unfold Addr.add
  by_cases h : n = 0 <;> simp [h, Nat.add_assoc]
theorem add_zero_head (g j : Nat) : (⟨g, 0, none⟩ : Addr).add j = ⟨g, j, none⟩ := by
  unfold Addr.add
  by_cases h : j = 0 <;> simp [h]
theorem Rds.keep {w w' : World} {B : Nat} {A : Option Addr} {l : List Value} (h : Rds w B A l) (hb : Below B w w') : Rds w' B A l := fun h0 => by
  obtain ⟨ad, e, hlt, hc⟩ := h h0
  exact ⟨ad, e, hlt, fun i s hs => (hb.cell (by rw [add_block]; exact hlt)).trans (hc i s hs)⟩
theorem Rds.more {w : World} {B B' : Nat} {A : Option Addr} {l : List Value} (h : Rds w B A l) (hB : B ≤ B') : Rds w B' A l := fun h0 => by
  obtain ⟨ad, e, hlt, hc⟩ := h h0
  exact ⟨ad, e, by omega, hc⟩
theorem Rds.q {w w' : World} {A : Option Addr} {l : List Value} (h : Rds w w.heap.size A l) (q : Q w w') : Rds w' w'.heap.size A l := (h.keep q).more q.size
theorem Rds.nil (w : World) (B : Nat) (A : Option Addr) : Rds w B A [] := fun h => absurd h (by simp)

theorem Rds.src {w : World} {B : Nat} {A : Option Addr} {l : List Value} (h : Rds w B A l) : Src w A l := fun h0 => by
  obtain ⟨ad, e, _, hc⟩ := h h0
  exact ⟨ad, e, hc⟩

/-- block g holds these cells, from its head on, and may be written -/
def OwnC (w : World) (g : Nat) (cs : List Value) : Prop := g < w.heap.size ∧ ∀ j v, cs[j]? = some v → w.cell? ⟨g, j, none⟩ = some v ∧ w.frozen? ⟨g, j, none⟩ = false
theorem OwnC.rds {w : World} {g : Nat} {cs : List Value} (h : OwnC w g cs) : Rds w w.heap.size (some ⟨g, 0, none⟩) cs := fun _ => ⟨_, rfl, h.1, fun j v hv => by rw [add_zero_head]; exact (h.2 j v hv).1⟩
theorem OwnC.q {w w' : World} {g : Nat} {cs : List Value} (h : OwnC w g cs) (q : Q w w') : OwnC w' g cs :=
  ⟨Nat.lt_of_lt_of_le h.1 q.size, fun i x hx => ⟨(q.cell (p := ⟨g, i, none⟩) h.1).trans (h.2 i x hx).1, (q.frozen (p := ⟨g, i, none⟩) h.1).trans (h.2 i x hx).2⟩⟩
theorem OwnC.far {w : World} {g : Nat} {cs : List Value} (h : OwnC w g cs) {b i : Nat} (hb : b ≠ g) (u : Value) : OwnC (w.setCell ⟨b, i, none⟩ u) g cs :=
  ⟨by simpa [World.setCell] using h.1, fun j v hv => ⟨(World.cell?_setCell_far _ _ _ _ hb).trans (h.2 j v hv).1, by rw [World.frozen?_setCell]; exact (h.2 j v hv).2⟩⟩
theorem OwnC.grown {w w' : World} {g : Nat} {cs : List Value} {row : Option Nat} (h : OwnC w g cs) (hg : w.grownBy w' row) (hr : row ≠ some g) : OwnC w' g cs := by
  have hb := hg.block g h.1 (fun e => hr e.symm)
  exact ⟨Nat.lt_of_lt_of_le h.1 hg.size, fun j v hv => ⟨(World.cell?_of_block (a := ⟨g, j, none⟩) hb).trans (h.2 j v hv).1, (World.frozen?_of_block (a := ⟨g, j, none⟩) hb).trans (h.2 j v hv).2⟩⟩
theorem OwnC.take {w : World} {g : Nat} {cs : List Value} (h : OwnC w g cs) (n : Nat) : OwnC w g (cs.take n) :=
  ⟨h.1, fun j v hv => h.2 j v (by rw [List.getElem?_take] at hv; split at hv; exact hv; cases hv)⟩
theorem setCell_ne {W : World} {B i j : Nat} {v u : Value} (h : i ≠ j) (hc : W.cell? ⟨B, j, none⟩ = some u) : (W.setCell ⟨B, i, none⟩ v).cell? ⟨B, j, none⟩ = some u := by
  have := World.cell?_setCell_other (w := W) (a := ⟨B, i, none⟩) (b := ⟨B, j, none⟩) (v := v) (by intro e; injection e with _ e; exact h e)
  exact this.trans hc
theorem setCell_eq {W : World} {B i : Nat} {v u : Value} (hc : W.cell? ⟨B, i, none⟩ = some u) : (W.setCell ⟨B, i, none⟩ v).cell? ⟨B, i, none⟩ = some v := World.cell?_setCell_same' _ _ _ (by rw [hc]; rfl)
theorem OwnC.set {w : World} {g : Nat} {cs : List Value} (h : OwnC w g cs) {s : Nat} (hs : s < cs.length) (v : Value) : OwnC (w.setCell ⟨g, s, none⟩ v) g (cs.set s v) := by
  refine ⟨by simp [World.setCell]; exact h.1, fun i x hx => ?_⟩
  rw [World.frozen?_setCell]
  by_cases hi : s = i
  · subst hi
    rw [List.getElem?_set_self hs] at hx
    obtain rfl : v = x := by simpa using hx
    have := h.2 s _ (List.getElem?_eq_getElem hs)
    exact ⟨setCell_eq this.1, this.2⟩
  · rw [List.getElem?_set_ne hi] at hx
    exact ⟨setCell_ne hi (h.2 i x hx).1, (h.2 i x hx).2⟩
theorem OwnC.of_row {w : World} {base g n cap size : Nat} {e : TypeId} {cs : List Value} (h : w.ownsRow base e size (.slice (some ⟨g, 0, none⟩) n cap) n cs) : OwnC w g cs := by
  refine ⟨(h.lt g rfl).2, fun j v hv => ⟨?_, h.frozenAt j⟩⟩
  have := h.cells (g := g) rfl j v hv
  rwa [add_zero_head] at this
theorem setCell_grown (w : World) (g j : Nat) (u : Value) : w.grownBy (w.setCell ⟨g, j, none⟩ u) (some g) :=
  ⟨rfl, rfl, rfl, by simp [World.setCell], fun k _ hk => heap_setCell_other w ⟨g, j, none⟩ k u (fun e => hk (by simp [e]))⟩
theorem grown_trans {a b c : World} {row : Option Nat} (h : a.grownBy b row) (k : b.grownBy c row) : a.grownBy c row :=
  ⟨k.os.trans h.os, k.tape.trans h.tape, k.output.trans h.output, Nat.le_trans h.size k.size, fun i hi hr => (k.block i (Nat.lt_of_lt_of_le hi h.size) hr).trans (h.block i hi hr)⟩
theorem grows_q {a b : World} (q : Q a b) (row : Option Nat) : a.grownBy b row := ⟨q.os, q.tape, q.output, q.size, fun i hi _ => q.block i hi⟩
theorem grown_q {a b : World} {g : Nat} (h : a.grownBy b (some g)) {W : World} (hq : Q W a) (hg : W.heap.size ≤ g) : Q W b := Below.grown hq h hq.size (fun k e => by injection e with e; omega)

theorem row_kept {w w' : World} {base base' : Nat} {e : TypeId} {size : Nat} {v : Value} {n : Nat} {xs : List Value} (h : w.ownsRow base e size v n xs) (q : Q w w') (hb : base' ≤ base) : w'.ownsRow base' e size v n xs := by
  have h2 := h.kept (row := none) (grows_q q none) (by cases v.ownBlock <;> simp)
  obtain ⟨a, b⟩ := h2
  refine ⟨a, ?_⟩
  rcases b with b | ⟨g, cap, cur, r1, r2, r⟩
  · exact .inl b
  · exact .inr ⟨g, cap, cur, r1, Nat.le_trans hb r2, r⟩
theorem src_alloc (w : World) (cs : List Value) (t : TypeId) (fr : Nat × Nat) : Src (w.alloc (.cells cs.toArray t fr)) (some ⟨w.heap.size, 0, none⟩) cs := by
  have := src_block (heap_alloc_new w (.cells cs.toArray t fr))
  simpa using this
theorem own_nil (w : World) (base : Nat) (e : TypeId) (size : Nat) : w.ownsRow base e size (.slice none 0 0) 0 [] := ⟨by simp, .inl ⟨rfl, rfl⟩⟩
theorem q_drewN (w : World) {w' : World} (h : ∃ d, w' = w.drewN d) : Q w w' := by
  obtain ⟨d, rfl⟩ := h
  exact (Q.refl w).drewN d
end Go.Proofs.Yteccgjhnifdcfaa.Rw

namespace Go.Proofs.Yteccgjhnifdcfaa.Rw
open Go.ChangeShapes Go.WideShapes Go.RowKit Kit Go.Deep Go.Joins

theorem weights_all {H : Type} {P : Program} {e : TypeId} : ∀ {ds : List (DataW H)} {d : DataW H}, d ∈ ds → ∀ n ∈ d.weights P e, n ∈ DataW.weightsAll P e ds
  | x :: l, d, h, n, hn => by
    simp only [DataW.weightsAll, List.mem_append]
    rcases List.mem_cons.1 h with rfl | h
    · exact .inl hn
    · exact .inr (weights_all h n hn)
section
variable {H : Type} {enc : TypeId × Value → H} {P : Program} {w : World} {base : Nat} {spare : Nat → Bool} {held : Bool}
end
end Go.Proofs.Yteccgjhnifdcfaa.Rw

namespace Go.Proofs.Yteccgjhnifdcfaa.Sg
open Go.ChangeShapes Go.WideShapes Go.RowKit Kit Go.Deep Go.Joins
section
variable {H : Type} {enc : TypeId × Value → H} {W : World}
theorem open_sigs_cells10 {fuel : Nat} {v : Value} {y : DataW H × List MemPlace} (hf : DataW.trod enc Try.prog W 0 (fun _ => true) true fuel 22 [v] = some y) :
    ∃ A n c l, v = .slice A n c ∧ n = l.length ∧ Row W W.heap.size A l ∧ l.length ≤ maxLen ∧ Sized l ∧ n ≤ c := by
  rcases open_slice_pairs Try.underlying22 Try.underlying85 (by kernel_rfl) rfl rfl (by kernel_rfl) (by kernel_rfl) hf with ⟨h0, _⟩ | ⟨ad, len', cap', m, n, V0, V1, D0, D1, P0, P1, hcs, _, hl, hm, hmm, _, hi⟩
  · simp only [List.cons.injEq, and_true] at h0
    subst h0
    exact ⟨_, _, _, [], rfl, rfl, fun h => absurd h (by simp), by simp, (fun s hs => by cases hs), Nat.le_refl _⟩
  · simp only [List.cons.injEq, and_true] at hcs
    subst hcs
    obtain ⟨len, hlen'⟩ : ∃ len, len = len' := ⟨_, rfl⟩
    subst hlen'
    have hlm : len ≤ m := by rw [hmm]; split <;> omega
    have each : ∀ i, i < len → ∃ s : Sig, W.cell? (ad.add (i * 2)) = some (.string s.1) ∧ W.cell? (ad.add (i * 2 + 1)) = some (.string s.2) ∧ s.1.size ≤ maxLen ∧ s.2.size ≤ maxLen := fun i hil => by
      obtain ⟨c0, c1, t0, t1⟩ := hi i (by omega)
      obtain ⟨s0, e0, _, z0⟩ := DataW.trod_string Try.underlying9 t0
      obtain ⟨s1, e1, _, z1⟩ := DataW.trod_string Try.underlying9 t1
      simp only [List.cons.injEq, and_true] at e0 e1
      exact ⟨(s0, s1), by rw [c0, e0], by rw [c1, e1], z0, z1⟩
    obtain ⟨q, hq⟩ := choose_lt each
    refine ⟨_, _, _, (List.range len).map q, rfl, by simp, fun h0 => ⟨ad, rfl, ?_, fun i s hs => ?_⟩, by simp; omega, fun s hs => ?_, hl⟩
    · have := (hq 0 (by simpa using h0)).1
      have := World.block_lt_of_cell? W _ this
      rwa [add_block] at this
    · have hil : i < len := by
        have := (List.getElem?_eq_some_iff.1 hs).1
        simpa using this
      have e : s = q i := by
        rw [List.getElem?_map, List.getElem?_range hil] at hs
        simpa using hs.symm
      subst e
      obtain ⟨c0, c1, _, _⟩ := hq i hil
      rw [add_succ] at c1
      exact ⟨c0, c1⟩
    · simp only [List.mem_map, List.mem_range] at hs
      obtain ⟨i, hil, rfl⟩ := hs
      exact (hq i hil).2.2
end
end Go.Proofs.Yteccgjhnifdcfaa.Sg
namespace Go.Proofs.Yteccgjhnifdcfaa.St
open Go.ChangeShapes Go.WideShapes Go.RowKit Kit Rw Go.Deep Go.Joins
open Go.Proofs.Yteccgjhnifdcfaa.Sg (Sig Row Sized)
open Go.Proofs.Yteccgjhnifdcfaa.Hs (Keys Ints)
section
variable {H : Type} {enc : TypeId × Value → H} {P : Program} {w : World} {base : Nat} {spare : Nat → Bool} {held : Bool}
set_option maxRecDepth 100000 in
theorem open_two10 {t : TypeId} {f0 f1 : Field} {fuel : Nat} {c0 c1 : Value} {x : DataW H × List MemPlace} (hs : P.underlying t = some (.struct #[f0, f1]))
    (o0 : f0.offset = 0) (k0 : P.cellsOf f0.type = 1) (o1 : f1.offset = 1) (k1 : P.cellsOf f1.type = 1) (h : DataW.trod enc P w base spare held fuel t [c0, c1] = some x) :
    ∃ (y0 y1 : DataW H × List MemPlace) (n : Nat), x.1 = .agg [y0.1, y1.1] ∧ DataW.trod enc P w base spare held n f0.type [c0] = some y0 ∧ DataW.trod enc P w base spare held n f1.type [c1] = some y1 := by
  obtain ⟨xs, n, _, hx, _, hlen, hg⟩ := DataW.trod_struct hs h
  match xs, hlen with
  | [y0, y1], _ => exact ⟨y0, y1, n, by rw [hx]; rfl, by simpa [o0, k0] using hg 0 f0 rfl, by simpa [o1, k1] using hg 1 f1 rfl⟩
end
section
variable {H : Type} {enc : TypeId × Value → H} {W : World} {base : Nat}
theorem byte_of {x : Int} (h0 : 0 ≤ x) (h1 : x < 256) : ∃ sd : UInt8, x = (sd.toNat : Int) := by
  refine ⟨UInt8.ofNat x.toNat, ?_⟩
  rw [UInt8.toNat_ofNat']
  omega
end
end Go.Proofs.Yteccgjhnifdcfaa.St

namespace Go.Proofs.Yteccgjhnifdcfaa.Ig
open Go.ChangeShapes Go.WideShapes Go.RowKit Kit Go.Deep Go.Joins
open Go.Proofs.Yteccgjhnifdcfaa.Sg (Sig Row Sized)
open Go.Proofs.Yteccgjhnifdcfaa.Hs (Keys Ints)
open Go.Proofs.Yteccgjhnifdcfaa.Tr (cellsI cellsP Cells Rd Few)
section
variable {H : Type} {enc : TypeId × Value → H} {P : Program} {w : World} {base : Nat} {spare : Nat → Bool} {held : Bool}
set_option maxRecDepth 100000 in
theorem open_graph4 {t : TypeId} {f0 f1 f2 f3 : Field} {fuel : Nat} {c0 c1 c2 c3 c4 c5 : Value} {x : DataW H × List MemPlace} (hs : P.underlying t = some (.struct #[f0, f1, f2, f3]))
    (o0 : f0.offset = 0) (k0 : P.cellsOf f0.type = 1) (o1 : f1.offset = 1) (k1 : P.cellsOf f1.type = 3) (o2 : f2.offset = 4) (k2 : P.cellsOf f2.type = 1) (o3 : f3.offset = 5) (k3 : P.cellsOf f3.type = 1) (h : DataW.trod enc P w base spare held fuel t [c0, c1, c2, c3, c4, c5] = some x) :
    ∃ (y0 y1 y2 y3 : DataW H × List MemPlace) (n : Nat), x.1 = .agg [y0.1, y1.1, y2.1, y3.1] ∧ DataW.trod enc P w base spare held n f0.type [c0] = some y0 ∧ DataW.trod enc P w base spare held n f1.type [c1, c2, c3] = some y1 ∧ DataW.trod enc P w base spare held n f2.type [c4] = some y2 ∧ DataW.trod enc P w base spare held n f3.type [c5] = some y3 := by
  obtain ⟨xs, n, _, hx, _, hlen, hg⟩ := DataW.trod_struct hs h
  match xs, hlen with
  | [y0, y1, y2, y3], _ => exact ⟨y0, y1, y2, y3, n, by rw [hx]; rfl, by simpa [o0, k0] using hg 0 f0 rfl, by simpa [o1, k1] using hg 1 f1 rfl, by simpa [o2, k2] using hg 2 f2 rfl, by simpa [o3, k3] using hg 3 f3 rfl⟩
set_option maxRecDepth 100000 in
theorem open_cells12 {t : TypeId} {f0 f1 f2 : Field} {fuel : Nat} {c0 c1 c2 : Value} {x : DataW H × List MemPlace} (hs : P.underlying t = some (.struct #[f0, f1, f2]))
    (o0 : f0.offset = 0) (k0 : P.cellsOf f0.type = 1) (o1 : f1.offset = 1) (k1 : P.cellsOf f1.type = 1) (o2 : f2.offset = 2) (k2 : P.cellsOf f2.type = 1) (h : DataW.trod enc P w base spare held fuel t [c0, c1, c2] = some x) :
    ∃ (y0 y1 y2 : DataW H × List MemPlace) (n : Nat), x.1 = .agg [y0.1, y1.1, y2.1] ∧ DataW.trod enc P w base spare held n f0.type [c0] = some y0 ∧ DataW.trod enc P w base spare held n f1.type [c1] = some y1 ∧ DataW.trod enc P w base spare held n f2.type [c2] = some y2 := by
  obtain ⟨xs, n, _, hx, _, hlen, hg⟩ := DataW.trod_struct hs h
  match xs, hlen with
  | [y0, y1, y2], _ => exact ⟨y0, y1, y2, n, by rw [hx]; rfl, by simpa [o0, k0] using hg 0 f0 rfl, by simpa [o1, k1] using hg 1 f1 rfl, by simpa [o2, k2] using hg 2 f2 rfl⟩
end
section
variable {H : Type} {enc : TypeId × Value → H} {W : World}
/-- a graph, read -/
structure GArg (W : World) (R : List Int) (c : Cells) (P T : List (List Int)) (F A D E Pa Ta : Option Addr) (k1 k2 k3 : Nat) : Prop where
  r : Tr.Rds W W.heap.size F (cellsI R)
  u : Rd W c A k1 D k2 E k3
  p : Keys W W.heap.size Pa P
  t : Keys W W.heap.size Ta T
  lR : R.length ≤ 1152921504606846976
  lU : Few c 1152921504606846976
  lP : P.length ≤ 1152921504606846976
  lT : T.length ≤ 1152921504606846976
  sP : ∀ k ∈ P, k.length ≤ 1152921504606846976
  sT : ∀ k ∈ T, k.length ≤ 1152921504606846976
set_option maxRecDepth 100000 in
theorem open_graph {fuel : Nat} {c0 c1 c2 c3 c4 c5 : Value} {x : DataW H × List MemPlace} (h : DataW.trod enc Try.prog W 0 (fun _ => true) true fuel 31 [c0, c1, c2, c3, c4, c5] = some x) (hz : ∀ n ∈ x.1.weights Try.prog 31, n ≤ reachBytes) :
    ∃ R c P T F A D E Pa Ta cr k1 k2 k3 kp kt, c0 = .slice F (List.length R) cr ∧ c1 = .slice A (List.length (Cells.V c)) k1 ∧ c2 = .slice D (List.length (Cells.N c)) k2 ∧ c3 = .slice E (List.length (Cells.M c)) k3 ∧ c4 = .slice Pa (List.length P) kp ∧ c5 = .slice Ta (List.length T) kt ∧ GArg W R c P T F A D E Pa Ta k1 k2 k3 := by
  obtain ⟨y0, y1, y2, y3, n, hx, g0, g1, g2, g3⟩ := open_graph4 Try.underlying31 rfl (by kernel_rfl) rfl (by kernel_rfl) rfl (by kernel_rfl) rfl (by kernel_rfl) h
  obtain ⟨z0, z1, z2, m, hy, u0, u1, u2⟩ := open_cells12 Try.underlying29 rfl (by kernel_rfl) rfl (by kernel_rfl) rfl (by kernel_rfl) g1
  have hw : DataW.weights Try.prog 31 (.agg [y0.1, y1.1, y2.1, y3.1]) = y0.1.weights Try.prog 24 ++ (y1.1.weights Try.prog 29 ++ (y2.1.weights Try.prog 23 ++ (y3.1.weights Try.prog 23 ++ []))) := by
    simp [DataW.weights, Try.underlying31, DataW.weightsEach]
  rw [hx, hw, hy] at hz
  obtain ⟨F, nr, cr, R, e0, h0, _, r0, l0⟩ := Tr.open_ints_cells g0 (fun n hn => hz n (by simp [hn]))
  obtain ⟨c, A, n1, k1, D, n2, k2, E, n3, k3, e1, e2, e3, h1, h2, h3, hu, hf⟩ := Tr.open_cells3 u0 u1 u2 (fun n hn => hz n (by simp [hn]))
  obtain ⟨Pa, np, kp, P, e4, h4, p0, lP, sP⟩ := Hs.open_rows_cells g2 (fun n hn => hz n (by simp [hn]))
  obtain ⟨Ta, nt, kt, T, e5, h5, t0, lT, sT⟩ := Hs.open_rows_cells g3 (fun n hn => hz n (by simp [hn]))
  subst h0 h1 h2 h3 h4 h5
  exact ⟨R, c, P, T, F, A, D, E, Pa, Ta, cr, k1, k2, k3, kp, kt, e0, e1, e2, e3, e4, e5, r0, hu, p0, t0, l0, hf, lP, lT, sP, sT⟩
end
end Go.Proofs.Yteccgjhnifdcfaa.Ig

namespace Go.Proofs.Yteccgjhnifdcfaa.Ig
open Go.ChangeShapes Go.WideShapes Go.RowKit Kit Go.Deep Go.Joins
section
variable {H : Type} {enc : TypeId × Value → H} {P : Program} {w : World} {base : Nat} {spare : Nat → Bool} {held : Bool}
set_option maxRecDepth 100000 in
theorem open_nest12_6 {r : Go.Reach} {b0 : Nat} {t : TypeId} {f0 f1 f2 f3 f4 f5 : Field} {v : Value} {d : DataW H} {p : List MemPlace} (hs : P.underlying t = some (.struct #[f0, f1, f2, f3, f4, f5])) (hC : P.cellsOf t = 12)
    (o0 : f0.offset = 0) (k0 : P.cellsOf f0.type = 1) (o1 : f1.offset = 1) (k1 : P.cellsOf f1.type = 2) (o2 : f2.offset = 3) (k2 : P.cellsOf f2.type = 6) (o3 : f3.offset = 9) (k3 : P.cellsOf f3.type = 1) (o4 : f4.offset = 10) (k4 : P.cellsOf f4.type = 1) (o5 : f5.offset = 11) (k5 : P.cellsOf f5.type = 1)
    (hv : Value.okWide P w r b0 t v) (h : DataW.Trod enc P w base spare held t v d p) :
    ∃ (c0 c1 c2 c3 c4 c5 c6 c7 c8 c9 c10 c11 : Value) (y0 y1 y2 y3 y4 y5 : DataW H × List MemPlace) (n : Nat), v = .agg #[c0, c1, c2, c3, c4, c5, c6, c7, c8, c9, c10, c11] ∧ d = .agg [y0.1, y1.1, y2.1, y3.1, y4.1, y5.1] ∧ DataW.trod enc P w base spare held n f0.type [c0] = some y0 ∧ DataW.trod enc P w base spare held n f1.type [c1, c2] = some y1 ∧ DataW.trod enc P w base spare held n f2.type [c3, c4, c5, c6, c7, c8] = some y2 ∧ DataW.trod enc P w base spare held n f3.type [c9] = some y3 ∧ DataW.trod enc P w base spare held n f4.type [c10] = some y4 ∧ DataW.trod enc P w base spare held n f5.type [c11] = some y5 := by
  obtain ⟨cs, rfl, hsz⟩ := okWide_struct hs hv
  obtain ⟨l⟩ := cs
  match l, hsz.trans hC with
  | [c0, c1, c2, c3, c4, c5, c6, c7, c8, c9, c10, c11], _ =>
    obtain ⟨fuel, hf⟩ := h
    obtain ⟨xs, n, _, hx, _, hlen, hg⟩ := DataW.trod_struct hs hf
    match xs, hlen with
    | [y0, y1, y2, y3, y4, y5], _ =>
      simp only [Prod.mk.injEq] at hx
      exact ⟨c0, c1, c2, c3, c4, c5, c6, c7, c8, c9, c10, c11, y0, y1, y2, y3, y4, y5, n, rfl, by simpa using hx.1, by simpa [Value.cells, o0, k0] using hg 0 f0 rfl, by simpa [Value.cells, o1, k1] using hg 1 f1 rfl, by simpa [Value.cells, o2, k2] using hg 2 f2 rfl, by simpa [Value.cells, o3, k3] using hg 3 f3 rfl, by simpa [Value.cells, o4, k4] using hg 4 f4 rfl, by simpa [Value.cells, o5, k5] using hg 5 f5 rfl⟩
end
end Go.Proofs.Yteccgjhnifdcfaa.Ig

namespace Go.Proofs.Yteccgjhnifdcfaa.Ig
open Go.ChangeShapes Go.WideShapes Go.RowKit Kit Go.Deep Go.Joins
open Go.Proofs.Yteccgjhnifdcfaa.Sg (Sig Row Sized)
open Go.Proofs.Yteccgjhnifdcfaa.Hs (Keys Ints)
open Go.Proofs.Yteccgjhnifdcfaa.Tr (cellsI cellsP Cells Rd Few)
section
variable {H : Type} {enc : TypeId × Value → H} {W : World} {base : Nat}
set_option maxRecDepth 100000 in
theorem open_CycWaysIn {v : Value} {d : DataW H} {p : List MemPlace} (hv : Value.okWide Try.prog W .any base 33 v) (h : DataW.Trod enc Try.prog W 0 (fun _ => true) true 33 v d p) (hz : ∀ n ∈ d.weights Try.prog 33, n ≤ reachBytes) :
    ∃ (L0 A S F Av D E Pa Ta : Option Addr) (nl cl n ca m d cr k1 k2 k3 kp kt : Nat) (l : List Sig) (ks : List (List Int)) (sl : List Int) (R : List Int) (c : Cells) (P T : List (List Int)) (x0 : Int) (x1 : Int) (x2 : UInt8), v = .agg #[.slice L0 nl cl, .slice A n ca, .slice S m d, .slice F (List.length R) cr, .slice Av (List.length (Cells.V c)) k1, .slice D (List.length (Cells.N c)) k2, .slice E (List.length (Cells.M c)) k3, .slice Pa (List.length P) kp, .slice Ta (List.length T) kt, .int .i64 x0, .int .i64 x1, .int .u8 (x2.toNat : Int)] ∧ nl = l.length ∧ Row W W.heap.size L0 l ∧ l.length ≤ maxLen ∧ Sized l ∧ n = ks.length ∧ m = sl.length ∧ Keys W W.heap.size A ks ∧ Ints W W.heap.size S sl ∧ ks.length ≤ 1152921504606846976 ∧ (∀ k ∈ ks, k.length ≤ 1152921504606846976) ∧ sl.length ≤ 1152921504606846976 ∧ GArg W R c P T F Av D E Pa Ta k1 k2 k3 := by
  obtain ⟨c0, c1, c2, c3, c4, c5, c6, c7, c8, c9, c10, c11, y0, y1, y2, y3, y4, y5, n, rfl, rfl, g0, g1, g2, g3, g4, g5⟩ := open_nest12_6 Try.underlying33 (by kernel_rfl) rfl (by kernel_rfl) rfl (by kernel_rfl) rfl (by kernel_rfl) rfl (by kernel_rfl) rfl (by kernel_rfl) rfl (by kernel_rfl) hv h
  obtain ⟨z0, z1, _, hy, t0, t1⟩ := Go.Proofs.Yteccgjhnifdcfaa.St.open_two10 Try.underlying26 rfl (by kernel_rfl) rfl (by kernel_rfl) g1
  have hw : DataW.weights Try.prog 33 (.agg [y0.1, y1.1, y2.1, y3.1, y4.1, y5.1]) = y0.1.weights Try.prog 22 ++ (y1.1.weights Try.prog 26 ++ (y2.1.weights Try.prog 31 ++ (y3.1.weights Try.prog 3 ++ (y4.1.weights Try.prog 3 ++ (y5.1.weights Try.prog 5 ++ ([])))))) := by
    simp [DataW.weights, Try.underlying33, DataW.weightsEach]
  have hw1 : DataW.weights Try.prog 26 (.agg [z0.1, z1.1]) = z0.1.weights Try.prog 23 ++ (z1.1.weights Try.prog 24 ++ []) := by
    simp [DataW.weights, Try.underlying26, DataW.weightsEach]
  rw [hw, hy, hw1] at hz
  obtain ⟨R0, nl, cl, L, rfl, a1, a2, a3, a4, _⟩ := Sg.open_sigs_cells10 g0
  obtain ⟨A, n', c, ks, rfl, hn, hk, hl, hs⟩ := Hs.open_rows_cells t0 (fun n hn => hz n (by simp [hn]))
  obtain ⟨S, m, e, sl, rfl, hm, _, hS, hsl⟩ := Hs.open_row_cells t1 (fun n hn => hz n (by simp [hn]))
  obtain ⟨R, cc, P, T, F, Av, D, E, Pa, Ta, cr, k1, k2, k3, kp, kt, rfl, rfl, rfl, rfl, rfl, rfl, hG⟩ := open_graph g2 (fun n hn => hz n (by simp [hn]))
  obtain ⟨u0, e0, _, w0⟩ := DataW.trod_int Try.underlying3 g3
  simp only [List.cons.injEq, and_true] at e0
  subst e0
  obtain ⟨u1, e1, _, w1⟩ := DataW.trod_int Try.underlying3 g4
  simp only [List.cons.injEq, and_true] at e1
  subst e1
  obtain ⟨u2, e2, _, w2⟩ := DataW.trod_int Try.underlying5 g5
  simp only [List.cons.injEq, and_true] at e2
  have hb2 : 0 ≤ u2 ∧ u2 < 256 := by
    have h1 : IntKind.u8.min = 0 := rfl
    have h2 : IntKind.u8.max = 255 := rfl
    simp [Lit.wf] at w2
    omega
  subst e2
  obtain ⟨sd2, rfl⟩ : ∃ sd : UInt8, u2 = (sd.toNat : Int) := Go.Proofs.Yteccgjhnifdcfaa.St.byte_of hb2.1 hb2.2
  exact ⟨R0, A, S, F, Av, D, E, Pa, Ta, nl, cl, n', c, m, e, cr, k1, k2, k3, kp, kt, L, ks, sl, R, cc, P, T, u0, u1, sd2, rfl, a1, a2, a3, a4, hn, hm, hk, hS, hl, hs, hsl, hG⟩
end
end Go.Proofs.Yteccgjhnifdcfaa.Ig

namespace Go.Proofs.Yteccgjhnifdcfaa.Ig
open Go.RowKit Kit Tr Uf
open Go.Proofs.Yteccgjhnifdcfaa.Hs (Keys Ints BoxT)
end Go.Proofs.Yteccgjhnifdcfaa.Ig

namespace Go.Proofs.Yteccgjhnifdcfaa.Ig
open Go.RowKit Kit Tr Uf
open Go.Proofs.Yteccgjhnifdcfaa.Hs (Keys Ints BoxT)
theorem set6_grown (W : World) (B : Nat) (a b c d e f : Value) : W.grownBy ((((((W.setCell ⟨B, 0, none⟩ a).setCell ⟨B, 1, none⟩ b).setCell ⟨B, 2, none⟩ c).setCell ⟨B, 3, none⟩ d).setCell ⟨B, 4, none⟩ e).setCell ⟨B, 5, none⟩ f) (some B) :=
  grown_trans (grown_trans (grown_trans (grown_trans (grown_trans (setCell_grown _ _ _ _) (setCell_grown _ _ _ _)) (setCell_grown _ _ _ _)) (setCell_grown _ _ _ _)) (setCell_grown _ _ _ _)) (setCell_grown _ _ _ _)
/-- a box of six cells that may be written into -/
structure BoxW (W : World) (B : Nat) (a b c d e f : Value) : Prop where
  c : Box6 W B a b c d e f
  f0 : W.frozen? ⟨B, 0, none⟩ = false
  f1 : W.frozen? ⟨B, 1, none⟩ = false
  f2 : W.frozen? ⟨B, 2, none⟩ = false
  f3 : W.frozen? ⟨B, 3, none⟩ = false
  f4 : W.frozen? ⟨B, 4, none⟩ = false
  f5 : W.frozen? ⟨B, 5, none⟩ = false
theorem BoxW.own {W : World} {B : Nat} {a b c d e f : Value} : BoxW W B a b c d e f ↔ OwnC W B [a, b, c, d, e, f] := by
  refine ⟨fun h => ⟨h.c.lt, fun j v hv => ?_⟩, fun h => ?_⟩
  · match j, hv with
    | 0, hv => simp at hv; subst hv; exact ⟨h.c.c0, h.f0⟩
    | 1, hv => simp at hv; subst hv; exact ⟨h.c.c1, h.f1⟩
    | 2, hv => simp at hv; subst hv; exact ⟨h.c.c2, h.f2⟩
    | 3, hv => simp at hv; subst hv; exact ⟨h.c.c3, h.f3⟩
    | 4, hv => simp at hv; subst hv; exact ⟨h.c.c4, h.f4⟩
    | 5, hv => simp at hv; subst hv; exact ⟨h.c.c5, h.f5⟩
    | j + 6, hv => simp at hv
  · have h0 := h.2 0 a rfl
    have h1 := h.2 1 b rfl
    have h2 := h.2 2 c rfl
    have h3 := h.2 3 d rfl
    have h4 := h.2 4 e rfl
    have h5 := h.2 5 f rfl
    exact ⟨⟨h0.1, h1.1, h2.1, h3.1, h4.1, h5.1, h.1⟩, h0.2, h1.2, h2.2, h3.2, h4.2, h5.2⟩
theorem BoxW.new (w : World) (a b c d e f : Value) (t : TypeId) : BoxW (w.alloc (.cells #[a, b, c, d, e, f] t)) w.heap.size a b c d e f :=
  ⟨Box6.new w a b c d e f t, by simp, by simp, by simp, by simp, by simp, by simp⟩
theorem BoxW.q {W W' : World} {B : Nat} {a b c d e f : Value} (h : BoxW W B a b c d e f) (q : Q W W') : BoxW W' B a b c d e f := BoxW.own.2 ((BoxW.own.1 h).q q)
theorem BoxW.grown {W W' : World} {B g : Nat} {a b c d e f : Value} (h : BoxW W B a b c d e f) (hg : W.grownBy W' (some g)) (hne : g ≠ B) : BoxW W' B a b c d e f := BoxW.own.2 ((BoxW.own.1 h).grown hg (by intro e; injection e with e; exact hne e))
theorem BoxW.set {W : World} {B : Nat} {a b c d e f : Value} (h : BoxW W B a b c d e f) (x y z u v t : Value) : BoxW ((((((W.setCell ⟨B, 0, none⟩ x).setCell ⟨B, 1, none⟩ y).setCell ⟨B, 2, none⟩ z).setCell ⟨B, 3, none⟩ u).setCell ⟨B, 4, none⟩ v).setCell ⟨B, 5, none⟩ t) B x y z u v t :=
  BoxW.own.2 ((((((((BoxW.own.1 h).set (s := 0) (by simp) x).set (s := 1) (by simp) y).set (s := 2) (by simp) z).set (s := 3) (by simp) u).set (s := 4) (by simp) v).set (s := 5) (by simp) t))

end Go.Proofs.Yteccgjhnifdcfaa.Ig

namespace Go.Proofs.Yteccgjhnifdcfaa.Tr
open Go.RowKit Kit

end Go.Proofs.Yteccgjhnifdcfaa.Tr

namespace Go.Proofs.Yteccgjhnifdcfaa.Uf
open Go.RowKit Kit Tr

theorem OwnO.far {w w' : World} {B g : Nat} {A : Option Addr} {cs : List Value} (h : OwnO w B A cs) (hg : w.grownBy w' (some g)) (hB : g < B) : OwnO w' B A cs := fun h0 => by
  obtain ⟨g', e, hb, hc⟩ := h h0
  exact ⟨g', e, hb, hc.grown hg (by simp; omega)⟩
theorem OwnO.rds {w : World} {B : Nat} {A : Option Addr} {cs : List Value} (h : OwnO w B A cs) : Rds w w.heap.size A cs := fun h0 => by
  obtain ⟨g', rfl, _, hc⟩ := h h0
  exact hc.rds h0
theorem OwnO.base {w : World} {B B' : Nat} {A : Option Addr} {cs : List Value} (h : OwnO w B A cs) (hB : B' ≤ B) : OwnO w B' A cs := fun h0 => by
  obtain ⟨g', e, hb, hc⟩ := h h0
  exact ⟨g', e, by omega, hc⟩
theorem own_o {w : World} {base : Nat} {e : TypeId} {size n : Nat} {v : Value} {cs : List Value} (h : w.ownsRow base e size v n cs) : ∃ A c, v = .slice A n c ∧ n ≤ c ∧ OwnO w base A cs := by
  have h2 := h
  obtain ⟨hl, ⟨rfl, h0⟩ | ⟨g, cap, cur, rfl, hg, hh, hc, _⟩⟩ := h
  · exact ⟨none, 0, by rw [h0], by omega, fun h => by rw [hl, h0] at h; simp at h⟩
  · exact ⟨_, cap, rfl, hc, fun _ => ⟨g, rfl, hg, OwnC.of_row h2⟩⟩
end Go.Proofs.Yteccgjhnifdcfaa.Uf

namespace Go.Proofs.Yteccgjhnifdcfaa.Uf
open Go.RowKit Kit Tr

end Go.Proofs.Yteccgjhnifdcfaa.Uf

namespace Go.Proofs.Yteccgjhnifdcfaa.Ig
open Go.RowKit Kit Tr Uf
open Go.Proofs.Yteccgjhnifdcfaa.Hs (Keys Ints BoxT)
/-- cells with so many more, each a class -/
def moreC (c : Cells) : Nat → Cells
  | 0 => c
  | k + 1 => growC (moreC c k) ((c.V.length + k : Nat) : Int)
theorem moreC_len (c : Cells) (k : Nat) : (moreC c k).V.length = c.V.length + k ∧ (moreC c k).N.length = c.N.length + k ∧ (moreC c k).M = c.M := by
  induction k with
  | zero => exact ⟨rfl, rfl, rfl⟩
  | succ k ih =>
    obtain ⟨a, b, d⟩ := ih
    exact ⟨by simp [moreC, growC, a]; omega, by simp [moreC, growC, b]; omega, d⟩
end Go.Proofs.Yteccgjhnifdcfaa.Ig

namespace Go.Proofs.Yteccgjhnifdcfaa.Hs
open Go.RowKit Kit

/-- a slice value that reads as these numbers, in a block of this kind -/
def IntsP (w : World) (P : Nat → Prop) (A : Option Addr) (xs : List Int) : Prop := 0 < xs.length → ∃ ad, A = some ad ∧ P ad.block ∧ ad.block < w.heap.size ∧ ∀ i x, xs[i]? = some x → w.cell? (ad.add i) = some (.int .i64 x)
def KeysP (w : World) (P : Nat → Prop) (A : Option Addr) (ks : List (List Int)) : Prop :=
  0 < ks.length → ∃ ad, A = some ad ∧ P ad.block ∧ ad.block < w.heap.size ∧ ∀ i k, ks[i]? = some k → ∃ a c, k.length ≤ c ∧ w.cell? (ad.add i) = some (.slice a k.length c) ∧ IntsP w P a k
section
variable {w w' : World} {P : Nat → Prop} {A : Option Addr}
theorem IntsP.ints {xs : List Int} (h : IntsP w P A xs) : Ints w w.heap.size A xs := fun h0 => by
  obtain ⟨ad, e, _, hl, hc⟩ := h h0
  exact ⟨ad, e, hl, hc⟩
theorem KeysP.keys {ks : List (List Int)} (h : KeysP w P A ks) : Keys w w.heap.size A ks := fun h0 => by
  obtain ⟨ad, e, _, hl, hc⟩ := h h0
  exact ⟨ad, e, hl, fun i k hk => by obtain ⟨a, c, h1, h2, h3⟩ := hc i k hk; exact ⟨a, c, h1, h2, h3.ints⟩⟩
theorem IntsP.q {xs : List Int} (h : IntsP w P A xs) (q : Q w w') : IntsP w' P A xs := fun h0 => by
  obtain ⟨ad, e, hp, hl, hc⟩ := h h0
  exact ⟨ad, e, hp, Nat.lt_of_lt_of_le hl q.size, fun i x hx => (q.cell (by rw [add_block]; exact hl)).trans (hc i x hx)⟩
theorem KeysP.q {ks : List (List Int)} (h : KeysP w P A ks) (q : Q w w') : KeysP w' P A ks := fun h0 => by
  obtain ⟨ad, e, hp, hl, hc⟩ := h h0
  exact ⟨ad, e, hp, Nat.lt_of_lt_of_le hl q.size, fun i k hk => by obtain ⟨a, c, h1, h2, h3⟩ := hc i k hk; exact ⟨a, c, h1, (q.cell (by rw [add_block]; exact hl)).trans h2, h3.q q⟩⟩
theorem Ints.p {lo : Nat} {xs : List Int} (h : Ints w lo A xs) (hlo : lo ≤ w.heap.size) (hP : ∀ b, b < lo → P b) : IntsP w P A xs := fun h0 => by
  obtain ⟨ad, e, hl, hc⟩ := h h0
  exact ⟨ad, e, hP _ hl, by omega, hc⟩
theorem Keys.p {lo : Nat} {ks : List (List Int)} (h : Keys w lo A ks) (hlo : lo ≤ w.heap.size) (hP : ∀ b, b < lo → P b) : KeysP w P A ks := fun h0 => by
  obtain ⟨ad, e, hl, hc⟩ := h h0
  exact ⟨ad, e, hP _ hl, by omega, fun i k hk => by obtain ⟨a, c, h1, h2, h3⟩ := hc i k hk; exact ⟨a, c, h1, h2, h3.p hlo hP⟩⟩
/-- another world, the same in blocks of this kind -/
theorem IntsP.to {W : World} {xs : List Int} (h : IntsP w P A xs) (hs : w.heap.size ≤ W.heap.size) (hW : ∀ p : Addr, P p.block → p.block < w.heap.size → W.cell? p = w.cell? p) : Ints W W.heap.size A xs := fun h0 => by
  obtain ⟨ad, e, hp, hl, hc⟩ := h h0
  exact ⟨ad, e, by omega, fun i x hx => by rw [hW _ (by rw [add_block]; exact hp) (by rw [add_block]; exact hl)]; exact hc i x hx⟩
theorem KeysP.to {W : World} {ks : List (List Int)} (h : KeysP w P A ks) (hs : w.heap.size ≤ W.heap.size) (hW : ∀ p : Addr, P p.block → p.block < w.heap.size → W.cell? p = w.cell? p) : Keys W W.heap.size A ks := fun h0 => by
  obtain ⟨ad, e, hp, hl, hc⟩ := h h0
  refine ⟨ad, e, by omega, fun i k hk => ?_⟩
  obtain ⟨a, c, h1, h2, h3⟩ := hc i k hk
  exact ⟨a, c, h1, by rw [hW _ (by rw [add_block]; exact hp) (by rw [add_block]; exact hl)]; exact h2, h3.to hs hW⟩
theorem IntsP.toP {W : World} {P' : Nat → Prop} {xs : List Int} (h : IntsP w P A xs) (hs : w.heap.size ≤ W.heap.size) (hW : ∀ p : Addr, P p.block → p.block < w.heap.size → W.cell? p = w.cell? p) (hP : ∀ b, P b → b < w.heap.size → P' b) : IntsP W P' A xs := fun h0 => by
  obtain ⟨ad, e, hp, hl, hc⟩ := h h0
  exact ⟨ad, e, hP _ hp hl, by omega, fun i x hx => by rw [hW _ (by rw [add_block]; exact hp) (by rw [add_block]; exact hl)]; exact hc i x hx⟩
theorem KeysP.toP {W : World} {P' : Nat → Prop} {ks : List (List Int)} (h : KeysP w P A ks) (hs : w.heap.size ≤ W.heap.size) (hW : ∀ p : Addr, P p.block → p.block < w.heap.size → W.cell? p = w.cell? p) (hP : ∀ b, P b → b < w.heap.size → P' b) : KeysP W P' A ks := fun h0 => by
  obtain ⟨ad, e, hp, hl, hc⟩ := h h0
  refine ⟨ad, e, hP _ hp hl, by omega, fun i k hk => ?_⟩
  obtain ⟨a, c, h1, h2, h3⟩ := hc i k hk
  exact ⟨a, c, h1, by rw [hW _ (by rw [add_block]; exact hp) (by rw [add_block]; exact hl)]; exact h2, h3.toP hs hW hP⟩
theorem KeysP.vals {ks : List (List Int)} (h : KeysP w P A ks) :
    ∃ vs : List Value, vs.length = ks.length ∧ SrcB w w.heap.size A vs ∧ ∀ (i : Nat) (k : List Int), ks[i]? = some k → ∃ a c, k.length ≤ c ∧ vs[i]? = some (Value.slice a k.length c) ∧ IntsP w P a k := by
  obtain ⟨vs, hl, hs, hv⟩ := h.keys.vals
  refine ⟨vs, hl, hs, fun i k hk => ?_⟩
  have hil := (List.getElem?_eq_some_iff.1 hk).1
  obtain ⟨ad, e, _, _, hc⟩ := h (by omega)
  obtain ⟨a', c', hle', e', hI⟩ := hc i k hk
  obtain ⟨ad2, e2, _, hc2⟩ := hs (by omega)
  rw [e] at e2
  injection e2 with e2
  subst e2
  obtain ⟨a, c, _, ev, _⟩ := hv i k hk
  have h2 := hc2 i _ ev
  rw [e'] at h2
  injection h2 with h2
  exact ⟨a', c', hle', by rw [h2]; exact ev, hI⟩
end
end Go.Proofs.Yteccgjhnifdcfaa.Hs

namespace Go.Proofs.Yteccgjhnifdcfaa.Ig
open Go.RowKit Kit Tr Uf
open Go.Proofs.Yteccgjhnifdcfaa.Hs (Keys Ints BoxT KeysP IntsP)
/-- a slice value that reads these cells, in a block of this kind -/
def RdsP (w : World) (P : Nat → Prop) (A : Option Addr) (cs : List Value) : Prop := 0 < cs.length → ∃ ad, A = some ad ∧ P ad.block ∧ ad.block < w.heap.size ∧ ∀ j v, cs[j]? = some v → w.cell? (ad.add j) = some v
theorem RdsP.rds {w : World} {P : Nat → Prop} {A : Option Addr} {cs : List Value} (h : RdsP w P A cs) : Tr.Rds w w.heap.size A cs := fun h0 => by
  obtain ⟨ad, e, _, hl, hc⟩ := h h0
  exact ⟨ad, e, hl, hc⟩
theorem RdsP.toP {w W : World} {P P' : Nat → Prop} {A : Option Addr} {cs : List Value} (h : RdsP w P A cs) (hs : w.heap.size ≤ W.heap.size) (hW : ∀ p : Addr, P p.block → p.block < w.heap.size → W.cell? p = w.cell? p) (hP : ∀ b, P b → b < w.heap.size → P' b) : RdsP W P' A cs := fun h0 => by
  obtain ⟨ad, e, hp, hl, hc⟩ := h h0
  exact ⟨ad, e, hP _ hp hl, by omega, fun j v hj => by rw [hW _ (by rw [Tr.add_block]; exact hp) (by rw [Tr.add_block]; exact hl)]; exact hc j v hj⟩
theorem RdsP.of_own {w : World} {P : Nat → Prop} {g : Nat} {cs : List Value} (h : OwnC w g cs) (hP : P g) : RdsP w P (some ⟨g, 0, none⟩) cs := fun _ => ⟨_, rfl, hP, h.1, fun j v hv => by rw [Tr.add_zero_head]; exact (h.2 j v hv).1⟩
theorem RdsP.of_owno {w : World} {P : Nat → Prop} {lo : Nat} {A : Option Addr} {cs : List Value} (h : OwnO w lo A cs) (hP : ∀ b, lo ≤ b → P b) : RdsP w P A cs := fun h0 => by
  obtain ⟨g, rfl, hg, ho⟩ := h h0
  exact RdsP.of_own ho (hP g hg) h0
/-- what agrees: a store into a block that isn't of the kind -/
theorem agree_grown {w w' : World} {P : Nat → Prop} {B : Nat} (hg : w.grownBy w' (some B)) (hB : ¬ P B) : w.heap.size ≤ w'.heap.size ∧ ∀ p : Addr, P p.block → p.block < w.heap.size → w'.cell? p = w.cell? p := by
  refine ⟨hg.size, fun p hp hl => ?_⟩
  have := hg.block p.block hl (fun e => by injection e with e; rw [e] at hp; exact hB hp)
  simp only [World.cell?, this]
theorem agree_q {w w' : World} {P : Nat → Prop} (q : Q w w') : w.heap.size ≤ w'.heap.size ∧ ∀ p : Addr, P p.block → p.block < w.heap.size → w'.cell? p = w.cell? p := ⟨q.size, fun _ _ hl => q.cell hl⟩
theorem OwnC.src {w : World} {g : Nat} {cs : List Value} (h : OwnC w g cs) : Src w (some ⟨g, 0, none⟩) cs := fun _ => ⟨_, rfl, fun j v hv => by rw [Tr.add_zero_head]; exact (h.2 j v hv).1⟩

/-- its value -/
def gvP (R : List Int) (c : Cells) (P T : List (List Int)) (F A D E Pa Ta : Option Addr) (cr k1 k2 k3 kp kt : Nat) : Value := .agg #[.slice F R.length cr, .slice A c.V.length k1, .slice D c.N.length k2, .slice E c.M.length k3, .slice Pa P.length kp, .slice Ta T.length kt]
end Go.Proofs.Yteccgjhnifdcfaa.Ig

namespace Go.Proofs.Yteccgjhnifdcfaa.Ig
open Go.RowKit Kit Tr Uf
open Go.Proofs.Yteccgjhnifdcfaa.Hs (Keys Ints)
end Go.Proofs.Yteccgjhnifdcfaa.Ig

namespace Go.Proofs.Yteccgjhnifdcfaa.Ig
open Go.RowKit Kit Tr Uf
open Go.Proofs.Yteccgjhnifdcfaa.Hs (Keys Ints)
end Go.Proofs.Yteccgjhnifdcfaa.Ig

namespace Go.Proofs.Yteccgjhnifdcfaa.Kit

section
variable {P : Program} {ops : Array Oper} {Q : Exit → Act → World → Prop} {S : World → Prop}
theorem take_w {i : Nat} {oi : Oper} {d : Option Tmp} {v : Value} {fuel : Nat} {listed : Array Bool} {a : Act} {w : World} (hi : ops[i]? = some oi)
    (hs : Region.noSelect ops = true) (hf : Region.free .any ops listed i = true) (hr : (Region.ready .any ops listed).contains i = true)
    (hQ : ∀ c a w, Q (.panic c) (a.put d v) w → Q (.panic c) a w) (hd : oi.dst = d) (hw : Region.wanted oi (yielded ops a.tmps) = true) (hy : ∀ w, S w → (execOp a.eval oi).run P w = .ok (.value v) w) (hS : S w)
    (h : wpAnyH P .any ops Q S fuel (listed.setIfInBounds i true) (a.put d v) w) : wpAnyH P .any ops Q S (fuel + 1) listed a w := by
  subst hd
  exact wpAnyH_take hi hs hf hr hQ (.inl ⟨hw, hy⟩) hS h
theorem take_u {i : Nat} {oi : Oper} {d : Option Tmp} {fuel : Nat} {listed : Array Bool} {a : Act} {w : World} (hi : ops[i]? = some oi)
    (hs : Region.noSelect ops = true) (hf : Region.free .any ops listed i = true) (hr : (Region.ready .any ops listed).contains i = true)
    (hQ : ∀ c a w, Q (.panic c) (a.put d undef) w → Q (.panic c) a w) (hd : oi.dst = d) (hw : Region.wanted oi (yielded ops a.tmps) = false) (hS : S w)
    (h : wpAnyH P .any ops Q S fuel (listed.setIfInBounds i true) (a.put d undef) w) : wpAnyH P .any ops Q S (fuel + 1) listed a w := by
  subst hd
  exact wpAnyH_take hi hs hf hr hQ (.inr ⟨hw, rfl⟩) hS h
theorem call_w {i : Nat} {o : Oper} {fuel : Nat} {listed : Array Bool} {a : Act} {w : World} (ho : ops[i]? = some o) (hr : Region.ready .any ops listed = [i])
    (hw : Region.wanted o (yielded ops a.tmps) = true)
    (h : ∀ K' : Act → World → Prop, Shut (∀ a w, S w → (S w → wpAnyH P .any ops Q S fuel (listed.setIfInBounds i true) a w) → K' a w) → Oper.wp P o a w K' Q) :
    wpAnyH P .any ops Q S (fuel + 1) listed a w :=
  wpAnyH_ready hr (by simp) (AllReadyH.cons ho (fun K' hK => by rw [if_pos hw]; exact h K' hK) AllReadyH.nil)
end
end Go.Proofs.Yteccgjhnifdcfaa.Kit
