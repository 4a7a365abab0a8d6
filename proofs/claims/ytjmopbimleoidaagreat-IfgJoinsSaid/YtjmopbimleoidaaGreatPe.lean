/-
  What the proofs lean on, part 5 of 12.
-/
import Derived.Test.YtjmopbimleoidaaGreatPc
import Derived.Test.YtjmopbimleoidaaGreatPd
namespace Go.Proofs.YtjmopbimleoidaaGreat.Ig
open Go.RowKit Kit Tr Uf
open Go.Proofs.YtjmopbimleoidaaGreat.Hs (Keys Ints atI refAt_any BoxT)
open Go.Proofs.YtjmopbimleoidaaGreat.Tm (Tm termAt refOf_any Box4)
/-- a graph's box -/
structure Box6 (W : World) (B : Nat) (a b c d e f : Value) : Prop where
  c0 : W.cell? ⟨B, 0, none⟩ = some a
  c1 : W.cell? ⟨B, 1, none⟩ = some b
  c2 : W.cell? ⟨B, 2, none⟩ = some c
  c3 : W.cell? ⟨B, 3, none⟩ = some d
  c4 : W.cell? ⟨B, 4, none⟩ = some e
  c5 : W.cell? ⟨B, 5, none⟩ = some f
  lt : B < W.heap.size
theorem Box6.q {W W' : World} {B : Nat} {a b c d e f : Value} (h : Box6 W B a b c d e f) (q : Q W W') : Box6 W' B a b c d e f :=
  ⟨(q.cell (p := ⟨B, 0, none⟩) h.lt).trans h.c0, (q.cell (p := ⟨B, 1, none⟩) h.lt).trans h.c1, (q.cell (p := ⟨B, 2, none⟩) h.lt).trans h.c2, (q.cell (p := ⟨B, 3, none⟩) h.lt).trans h.c3, (q.cell (p := ⟨B, 4, none⟩) h.lt).trans h.c4, (q.cell (p := ⟨B, 5, none⟩) h.lt).trans h.c5, Nat.lt_of_lt_of_le h.lt q.size⟩
theorem Box6.new (w : World) (a b c d e f : Value) (t : TypeId) : Box6 (w.alloc (.cells #[a, b, c, d, e, f] t)) w.heap.size a b c d e f := ⟨by simp, by simp, by simp, by simp, by simp, by simp, by simp⟩

set_option maxRecDepth 100000 in
set_option maxHeartbeats 2000000 in
theorem refNumber_any (A S Av : Option Addr) (n c m d nv cv : Nat) (r b1 b2 b3 b4 : Value) (ks : List (List Int)) (id : Int) (w : World) (hn : n = ks.length) (hk : Keys w w.heap.size A ks) :
    Calls Tryz.prog 92 #[.agg #[.slice A n c, .slice S m d], .agg #[r, .slice Av nv cv, b1, b2, b3, b4], .int .i64 id] w fun e w' => e = .returned (.int .i64 (numV ks nv id)) ∧ Q w w' := by
  subst hn
  have q0 := ((Q.refl w).alloc (Obj.cells #[Value.slice A ks.length c, Value.slice S m d] 26)).alloc (Obj.cells #[r, Value.slice Av nv cv, b1, b2, b3, b4] 31)
  have HB := Lib.hid ((BoxT.new w (Value.slice A ks.length c) (Value.slice S m d) 26).q ((Q.refl _).alloc (Obj.cells #[r, Value.slice Av nv cv, b1, b2, b3, b4] 31)))
  have X := Box6.new (w.alloc (Obj.cells #[Value.slice A ks.length c, Value.slice S m d] 26)) r (Value.slice Av nv cv) b1 b2 b3 b4 31
  rw [World.size_alloc] at X
  have HG := Lib.hid X
  have Hk := Lib.hid ((hk.q (Nat.le_refl _) q0).more q0.size)
  have HN : Hid (numV ks nv id = if (termAt ks id).isSome = true ∧ ((termAt ks id).getD Tm.none).k = 2 ∧ ((termAt ks id).getD Tm.none).s < (nv : Int) then ((termAt ks id).getD Tm.none).s else -1) := rfl
  clear hk X
  go_enter Tryz.func92, Tryz.ntmps92
  go_upto_region 1 with fail
  generalize (w.alloc (Obj.cells #[Value.slice A ks.length c, Value.slice S m d] 26)).alloc (Obj.cells #[r, Value.slice Av nv cv, b1, b2, b3, b4] 31) = W0 at *
  have b0 := HB.out.c0
  have b1' := HB.out.c1
  have C := Lib.hid (refOf_any A S _ c m d ks id W0 rfl Hk.out)
  go_upto_region 2 with (go_at_call 78; refine C.out.mono ?_; rintro e w2 ⟨At, nt, ct, rfl, rfl, _, q1⟩)
  generalize (termAt ks id).isSome = is at *
  generalize (termAt ks id).getD Tm.none = t at *
  have qt := q1.alloc (Obj.cells #[.int .i64 t.k, .int .i64 t.s, .int .i64 t.p, .slice At t.xs.length ct] 107)
  have g1 := (HG.out.q qt).c1
  have X := Box4.new w2 (.int .i64 t.k) (.int .i64 t.s) (.int .i64 t.p) (.slice At t.xs.length ct) 107
  have x0 := X.c0
  have HQt := Lib.hid qt
  have x1 := X.c1
  clear X C b0 b1' q1
  cases is
  · have HF : Hid (numV ks nv id = -1) := by unfold Hid; rw [HN.out, if_neg (fun h => by cases h.1)]
    go_wp2_with fail
    go_ret
    exact ⟨by rw [HF.out]; rfl, q0.trans qt⟩
  · by_cases h2 : t.k = 2
    · have e2 : (t.k != 2) = false := by simp [h2]
      by_cases hs : t.s < (nv : Int)
      · have d1 : decide ((nv : Int) ≤ t.s) = false := decide_eq_false (by omega)
        have HF : Hid (numV ks nv id = t.s) := by unfold Hid; rw [HN.out, if_pos ⟨rfl, h2, hs⟩]
        clear h2 hs
        go_wp2_with fail
        go_ret
        exact ⟨by rw [HF.out]; rfl, q0.trans qt⟩
      · have d1 : decide ((nv : Int) ≤ t.s) = true := decide_eq_true (by omega)
        have HF : Hid (numV ks nv id = -1) := by unfold Hid; rw [HN.out, if_neg (fun h => hs h.2.2)]
        clear h2 hs
        go_wp2_with fail
        go_ret
        exact ⟨by rw [HF.out]; rfl, q0.trans qt⟩
    · have e2 : (t.k != 2) = true := by simpa using h2
      have HF : Hid (numV ks nv id = -1) := by unfold Hid; rw [HN.out, if_neg (fun h => h2 h.2.1)]
      clear h2
      go_wp2_with fail
      go_ret
      exact ⟨by rw [HF.out]; rfl, q0.trans qt⟩

theorem numV_lt {ks : List (List Int)} {m : Nat} {id : Int} (h : ¬ numV ks m id < 0) : (numV ks m id).toNat < m := by
  have e : numV ks m id = if (termAt ks id).isSome = true ∧ ((termAt ks id).getD Tm.none).k = 2 ∧ ((termAt ks id).getD Tm.none).s < (m : Int) then ((termAt ks id).getD Tm.none).s else -1 := rfl
  by_cases c : (termAt ks id).isSome = true ∧ ((termAt ks id).getD Tm.none).k = 2 ∧ ((termAt ks id).getD Tm.none).s < (m : Int)
  · rw [if_pos c] at e
    rw [e] at h ⊢
    have := c.2.2
    omega
  · rw [if_neg c] at e
    omega

set_option maxRecDepth 100000 in
set_option maxHeartbeats 2000000 in
theorem refRep_any (R V : List Int) (A S Av : Option Addr) (n c m d nv cv : Nat) (r b1 b2 b3 b4 : Value) (ks : List (List Int)) (id : Int) (w : World) (hn : n = ks.length) (hk : Keys w w.heap.size A ks) (hl : ks.length ≤ maxLen) (hs : ∀ k ∈ ks, k.length ≤ maxLen)
    (hnv : nv = V.length) (hv : Tr.Rds w w.heap.size Av (cellsI V)) (hC : Cl R V) (hlv : V.length ≤ 1000000) :
    Calls Tryz.prog 48 #[.agg #[.slice A n c, .slice S m d], .agg #[r, .slice Av nv cv, b1, b2, b3, b4], .int .i64 id] w fun e w' => e = .returned (.int .i64 (repV ks V id)) ∧ Q w w' := by
  subst hn
  subst hnv
  have q0 := ((Q.refl w).alloc (Obj.cells #[Value.slice A ks.length c, Value.slice S m d] 26)).alloc (Obj.cells #[r, Value.slice Av V.length cv, b1, b2, b3, b4] 31)
  have HB := Lib.hid ((BoxT.new w (Value.slice A ks.length c) (Value.slice S m d) 26).q ((Q.refl _).alloc (Obj.cells #[r, Value.slice Av V.length cv, b1, b2, b3, b4] 31)))
  have X := Box6.new (w.alloc (Obj.cells #[Value.slice A ks.length c, Value.slice S m d] 26)) r (Value.slice Av V.length cv) b1 b2 b3 b4 31
  rw [World.size_alloc] at X
  have HG := Lib.hid X
  have Hk := Lib.hid ((hk.q (Nat.le_refl _) q0).more q0.size)
  have Hv := Lib.hid (hv.q q0)
  have HP : Hid (repV ks V id = if numV ks V.length id < 0 then id else atV ks (fst V (numV ks V.length id).toNat : Int)) := rfl
  have HL := fun h => numV_lt (ks := ks) (m := V.length) (id := id) h
  clear hk hv X
  go_enter Tryz.func48, Tryz.ntmps48
  go_upto_region 1 with fail
  generalize (w.alloc (Obj.cells #[Value.slice A ks.length c, Value.slice S m d] 26)).alloc (Obj.cells #[r, Value.slice Av V.length cv, b1, b2, b3, b4] 31) = W0 at *
  have b0 := HB.out.c0
  have b1' := HB.out.c1
  have g0 := HG.out.c0
  have g1 := HG.out.c1
  have g2 := HG.out.c2
  have g3 := HG.out.c3
  have g4 := HG.out.c4
  have g5 := HG.out.c5
  have C := Lib.hid (refNumber_any A S Av _ c m d V.length cv r b1 b2 b3 b4 ks id W0 rfl Hk.out)
  go_upto_region 2 with (go_at_call 92; refine C.out.mono ?_; rintro e w2 ⟨rfl, q1⟩)
  generalize numV ks V.length id = x at *
  clear b0 b1' g0 g1 g2 g3 g4 g5 C
  by_cases hx : x < 0
  · have d0 : decide (x < 0) = true := decide_eq_true hx
    have HF : Hid (repV ks V id = id) := by unfold Hid; rw [HP.out, if_pos hx]
    clear hx HL
    go_wp2_with fail
    go_ret
    exact ⟨by rw [HF.out]; rfl, q0.trans q1⟩
  · have d0 : decide (x < 0) = false := decide_eq_false hx
    have HF : Hid (repV ks V id = atV ks (fst V x.toNat : Int)) := by unfold Hid; rw [HP.out, if_neg hx]
    have hm := HL (by omega)
    obtain ⟨y, rfl⟩ : ∃ y : Nat, x = (y : Int) := ⟨x.toNat, by omega⟩
    rw [Int.toNat_natCast] at HF hm
    have HBq := Lib.hid (HB.out.q q1)
    have HGq := Lib.hid (HG.out.q q1)
    have Hkq := Lib.hid ((Hk.out.q (Nat.le_refl _) q1).more q1.size)
    have Hvq := Lib.hid (Hv.out.q q1)
    have b0 := HBq.out.c0
    have b1' := HBq.out.c1
    have g1 := HGq.out.c1
    have g2 := HGq.out.c2
    have g3 := HGq.out.c3
    have l0 := HBq.out.lt
    have l1 := HGq.out.lt
    have CF : Hid (∀ W, Q w2 W → Calls Tryz.prog 14 #[.agg #[.slice Av V.length cv, b1, b2], .int .i64 (y : Int)] W fun e W' => e = .returned (.int .i64 (fst V y : Int)) ∧ Q W W') := fun W q => refFind_any R V y Av V.length cv b1 b2 W rfl (Hvq.out.q q) hC hm hlv
    have CA : Hid (∀ W, Q w2 W → Calls Tryz.prog 17 #[.agg #[.slice A ks.length c, .slice S m d], .int .i64 (fst V y : Int)] W fun e W' => e = .returned (.int .i64 (atV ks (fst V y : Int))) ∧ Q W W') := fun W q => refAtV_any A _ c (.slice S m d) ks _ W rfl ((Hkq.out.q (Nat.le_refl _) q).more q.size) hl hs
    clear hx HL hm hl hs hC hlv
    go_upto_region 4 with fail
    go_region_held3 (fun w' => w'.cell? ⟨w.heap.size, 0, none⟩ = some (.slice A ks.length c) ∧ w'.cell? ⟨w.heap.size, 1, none⟩ = some (.slice S m d) ∧ w'.cell? ⟨w.heap.size + 1, 1, none⟩ = some (.slice Av V.length cv) ∧ w'.cell? ⟨w.heap.size + 1, 2, none⟩ = some b1 ∧ w'.cell? ⟨w.heap.size + 1, 3, none⟩ = some b2)
      (first
        | go_keep
        | exact ⟨(p3.cell (p := ⟨w.heap.size, 0, none⟩) l0).trans b0, (p3.cell (p := ⟨w.heap.size, 1, none⟩) l0).trans b1', (p3.cell (p := ⟨w.heap.size + 1, 1, none⟩) l1).trans g1, (p3.cell (p := ⟨w.heap.size + 1, 2, none⟩) l1).trans g2, (p3.cell (p := ⟨w.heap.size + 1, 3, none⟩) l1).trans g3⟩
        | exact ⟨(p2.cell (p := ⟨w.heap.size, 0, none⟩) l0).trans b0, (p2.cell (p := ⟨w.heap.size, 1, none⟩) l0).trans b1', (p2.cell (p := ⟨w.heap.size + 1, 1, none⟩) l1).trans g1, (p2.cell (p := ⟨w.heap.size + 1, 2, none⟩) l1).trans g2, (p2.cell (p := ⟨w.heap.size + 1, 3, none⟩) l1).trans g3⟩)
      (first
        | (go_at_call 14; (with_reducible refine (CF.out _ (Q.refl w2).drew).mono ?_); rintro e w3 ⟨rfl, q2⟩; have p2 : Q w2 w3 := (Q.refl w2).drew.trans q2)
        | (go_at_call 17; (with_reducible refine (CA.out _ p2).mono ?_); rintro e w4 ⟨rfl, q3⟩; have p3 : Q w2 w4 := p2.trans q3))
    go_wp2_with fail
    go_ret
    exact ⟨by rw [HF.out]; rfl, (q0.trans q1).trans p3⟩
end Go.Proofs.YtjmopbimleoidaaGreat.Ig

namespace Go.Proofs.YtjmopbimleoidaaGreat.Ig
open Go.RowKit Kit Tr Uf
open Go.Proofs.YtjmopbimleoidaaGreat.Hs (Keys Ints atI refAt_any BoxT)
open Go.Proofs.YtjmopbimleoidaaGreat.Tm (Tm termAt refOf_any Box4)
/-- may a kind stand in a row of those that are less, greater -/
def kindV (k : Int) (less : Bool) : Bool := if less then (k == 1) || (k == 3) else (k == 0) || (k == 3) || (k == 6)
/-- may a term stand in a variable's row -/
def mayV (R : List Int) (ks : List (List Int)) (m : Nat) (id v : Int) (less : Bool) : Bool :=
  if 0 ≤ numV ks m id then lessB R (numV ks m id) v else (termAt ks id).isSome && kindV ((termAt ks id).getD Tm.none).k less

set_option maxRecDepth 100000 in
set_option maxHeartbeats 4000000 in
theorem refMayV_any (R : List Int) (A S F Av : Option Addr) (n c m d nr cr nv cv : Nat) (b1 b2 b3 b4 : Value) (ks : List (List Int)) (id v : Int) (less : Bool) (w : World) (hn : n = ks.length) (hk : Keys w w.heap.size A ks) (hnr : nr = R.length) (hR : Tr.Rds w w.heap.size F (cellsI R)) :
    Calls Tryz.prog 94 #[.agg #[.slice A n c, .slice S m d], .agg #[.slice F nr cr, .slice Av nv cv, b1, b2, b3, b4], .int .i64 id, .int .i64 v, .bool less] w fun e w' => e = .returned (.bool (mayV R ks nv id v less)) ∧ Q w w' := by
  subst hn
  subst hnr
  have q0 := ((Q.refl w).alloc (Obj.cells #[Value.slice A ks.length c, Value.slice S m d] 26)).alloc (Obj.cells #[Value.slice F R.length cr, Value.slice Av nv cv, b1, b2, b3, b4] 31)
  have HB := Lib.hid ((BoxT.new w (Value.slice A ks.length c) (Value.slice S m d) 26).q ((Q.refl _).alloc (Obj.cells #[Value.slice F R.length cr, Value.slice Av nv cv, b1, b2, b3, b4] 31)))
  have X := Box6.new (w.alloc (Obj.cells #[Value.slice A ks.length c, Value.slice S m d] 26)) (Value.slice F R.length cr) (Value.slice Av nv cv) b1 b2 b3 b4 31
  rw [World.size_alloc] at X
  have HG := Lib.hid X
  have Hk := Lib.hid ((hk.q (Nat.le_refl _) q0).more q0.size)
  have HR := Lib.hid (hR.q q0)
  have HN : Hid (mayV R ks nv id v less = if 0 ≤ numV ks nv id then lessB R (numV ks nv id) v else (termAt ks id).isSome && kindV ((termAt ks id).getD Tm.none).k less) := rfl
  clear hk hR X
  go_enter Tryz.func94, Tryz.ntmps94
  go_upto_region 1 with fail
  generalize (w.alloc (Obj.cells #[Value.slice A ks.length c, Value.slice S m d] 26)).alloc (Obj.cells #[Value.slice F R.length cr, Value.slice Av nv cv, b1, b2, b3, b4] 31) = W0 at *
  have b0 := HB.out.c0
  have b1' := HB.out.c1
  have g0 := HG.out.c0
  have g1 := HG.out.c1
  have g2 := HG.out.c2
  have g3 := HG.out.c3
  have g4 := HG.out.c4
  have g5 := HG.out.c5
  have C := Lib.hid (refNumber_any A S Av _ c m d nv cv (.slice F R.length cr) b1 b2 b3 b4 ks id W0 rfl Hk.out)
  go_upto_region 2 with (go_at_call 92; refine C.out.mono ?_; rintro e w2 ⟨rfl, q1⟩)
  generalize numV ks nv id = x at *
  clear b0 b1' g0 g1 g2 g3 g4 g5 C
  by_cases hx : 0 ≤ x
  · have d0 : decide (0 ≤ x) = true := decide_eq_true hx
    have HF : Hid (mayV R ks nv id v less = lessB R x v) := by unfold Hid; rw [HN.out, if_pos hx]
    have g0 := (HG.out.q q1).c0
    have CL := Lib.hid (refLess_any R F _ cr x v w2 rfl (HR.out.q q1))
    clear hx HN
    go_wp2_with (go_at_call 45; refine CL.out.mono ?_; rintro e w3 ⟨rfl, rfl⟩)
    go_ret
    exact ⟨by rw [HF.out]; rfl, q0.trans q1⟩
  · have d0 : decide (0 ≤ x) = false := decide_eq_false hx
    have HF : Hid (mayV R ks nv id v less = ((termAt ks id).isSome && kindV ((termAt ks id).getD Tm.none).k less)) := by unfold Hid; rw [HN.out, if_neg hx]
    have b0 := (HB.out.q q1).c0
    have b1' := (HB.out.q q1).c1
    have C := Lib.hid (refOf_any A S _ c m d ks id w2 rfl ((Hk.out.q (Nat.le_refl _) q1).more q1.size))
    clear hx HN
    go_upto_region 5 with (go_at_call 78; refine C.out.mono ?_; rintro e w3 ⟨At, nt, ct, rfl, rfl, _, q2⟩)
    generalize (termAt ks id).isSome = is at *
    generalize (termAt ks id).getD Tm.none = t at *
    have qt := q2.alloc (Obj.cells #[.int .i64 t.k, .int .i64 t.s, .int .i64 t.p, .slice At t.xs.length ct] 107)
    have X := Box4.new w3 (.int .i64 t.k) (.int .i64 t.s) (.int .i64 t.p) (.slice At t.xs.length ct) 107
    have x0 := X.c0
    clear X C b0 b1' q2
    cases is
    · go_wp2_with fail
      go_ret
      exact ⟨by rw [HF.out]; rfl, (q0.trans q1).trans qt⟩
    · cases less
      · have HF : Hid (mayV R ks nv id v false = ((t.k == 0) || (t.k == 3) || (t.k == 6))) := by unfold Hid; rw [HF.out]; rfl
        cases e0 : t.k == 0 <;> cases e3 : t.k == 3 <;> cases e6 : t.k == 6
        all_goals
          rw [e0, e3, e6] at HF
          go_wp2_with fail
          go_ret
          exact ⟨by rw [HF.out]; rfl, (q0.trans q1).trans qt⟩
      · have HF : Hid (mayV R ks nv id v true = ((t.k == 1) || (t.k == 3))) := by unfold Hid; rw [HF.out]; rfl
        cases e1 : t.k == 1 <;> cases e3 : t.k == 3
        all_goals
          rw [e1, e3] at HF
          go_wp2_with fail
          go_ret
          exact ⟨by rw [HF.out]; rfl, (q0.trans q1).trans qt⟩
end Go.Proofs.YtjmopbimleoidaaGreat.Ig

namespace Go.Proofs.YtjmopbimleoidaaGreat.Ig
open Go.RowKit Kit Tr Uf
open Go.Proofs.YtjmopbimleoidaaGreat.Hs (Keys Ints atI refAt_any BoxT)
open Go.Proofs.YtjmopbimleoidaaGreat.Tm (Tm termAt refOf_any Box4)
/-- a place of a row: it may stand there, and rises -/
def okV (R : List Int) (ks : List (List Int)) (m : Nat) (v : Int) (less : Bool) (l : List Int) (i : Nat) : Bool :=
  mayV R ks m (l.getD i 0) v less && (decide (i = 0) || decide (l.getD (i - 1) 0 < l.getD i 0))
def rowV (R : List Int) (ks : List (List Int)) (m : Nat) (v : Int) (less : Bool) (l : List Int) : Bool := decide (∀ i, i < l.length → okV R ks m v less l i = true)
theorem getD_at {l : List Int} {k : Nat} (h : k < l.length) : l.getD k 0 = l[k] := by rw [List.getD_eq_getElem?_getD, List.getElem?_eq_getElem h]; rfl

set_option maxRecDepth 100000 in
set_option maxHeartbeats 4000000 in
theorem refRowV_any (R : List Int) (A S F Av B : Option Addr) (n c m d nr cr nv cv nl cl : Nat) (b1 b2 b3 b4 : Value) (ks : List (List Int)) (l : List Int) (v : Int) (less : Bool) (w : World) (hn : n = ks.length) (hk : Keys w w.heap.size A ks) (hnr : nr = R.length) (hR : Tr.Rds w w.heap.size F (cellsI R))
    (hnl : nl = l.length) (hB : Tr.Rds w w.heap.size B (cellsI l)) (hll : l.length ≤ 1000000) :
    Calls Tryz.prog 52 #[.agg #[.slice A n c, .slice S m d], .agg #[.slice F nr cr, .slice Av nv cv, b1, b2, b3, b4], .slice B nl cl, .int .i64 v, .bool less] w fun e w' => e = .returned (.bool (rowV R ks nv v less l)) ∧ Q w w' := by
  subst hn
  subst hnr
  subst hnl
  have q0 := ((Q.refl w).alloc (Obj.cells #[Value.slice A ks.length c, Value.slice S m d] 26)).alloc (Obj.cells #[Value.slice F R.length cr, Value.slice Av nv cv, b1, b2, b3, b4] 31)
  have HB := Lib.hid ((BoxT.new w (Value.slice A ks.length c) (Value.slice S m d) 26).q ((Q.refl _).alloc (Obj.cells #[Value.slice F R.length cr, Value.slice Av nv cv, b1, b2, b3, b4] 31)))
  have X := Box6.new (w.alloc (Obj.cells #[Value.slice A ks.length c, Value.slice S m d] 26)) (Value.slice F R.length cr) (Value.slice Av nv cv) b1 b2 b3 b4 31
  rw [World.size_alloc] at X
  have HG := Lib.hid X
  have Hk := Lib.hid ((hk.q (Nat.le_refl _) q0).more q0.size)
  have HR := Lib.hid (hR.q q0)
  have HL := Lib.hid (hB.q q0)
  have HN : Hid (rowV R ks nv v less l = decide (∀ i, i < l.length → okV R ks nv v less l i = true)) := rfl
  clear hk hR hB X
  go_enter Tryz.func52, Tryz.ntmps52
  go_upto_region 1 with fail
  generalize (w.alloc (Obj.cells #[Value.slice A ks.length c, Value.slice S m d] 26)).alloc (Obj.cells #[Value.slice F R.length cr, Value.slice Av nv cv, b1, b2, b3, b4] 31) = W0 at *
  go_wp2_with fail
  go_loopw [11] (fun i wr => ∃ k : Nat, k ≤ l.length ∧ i = .int .i64 k ∧ Hid (∀ i, i < k → okV R ks nv v less l i = true) ∧ Hid (Q W0 wr)) (fun i _ => l.length - (intOf i).toNat)
  case atStart => exact ⟨0, Nat.zero_le _, rfl, Lib.hid (fun n hn => absurd hn (by omega)), Lib.hid (Q.refl _)⟩
  case round =>
    obtain ⟨k, hk, rfl, HH, HQ⟩ := hrel
    have HBr := Lib.hid (HB.out.q HQ.out)
    have HGr := Lib.hid (HG.out.q HQ.out)
    have HLr := Lib.hid (HL.out.q HQ.out)
    have b0 := HBr.out.c0
    have b1' := HBr.out.c1
    have g0 := HGr.out.c0
    have g1 := HGr.out.c1
    have g2 := HGr.out.c2
    have g3 := HGr.out.c3
    have g4 := HGr.out.c4
    have g5 := HGr.out.c5
    have l0 := HBr.out.lt
    have l1 := HGr.out.lt
    by_cases hlt : k < l.length
    · obtain ⟨ad, e, hb, c0⟩ := HLr.out.int_at hlt
      subst e
      have hbk : (ad.add k).block < wr.heap.size := by rw [Tr.add_block]; exact hb
      have HO : Hid (okV R ks nv v less l k = (mayV R ks nv l[k] v less && (decide (k = 0) || decide (l.getD (k - 1) 0 < l[k])))) := by unfold Hid okV; rw [getD_at hlt]
      have HK : Hid (okV R ks nv v less l k = true → ∀ n, n < k + 1 → okV R ks nv v less l n = true) := fun hk n hn => by
        by_cases e : n = k
        · subst e; exact hk
        · exact HH.out n (by omega)
      have HZ : Hid (okV R ks nv v less l k = false → rowV R ks nv v less l = false) := fun hk => by rw [HN.out]; exact decide_eq_false (fun h => by have := h k hlt; rw [hk] at this; cases this)
      have CM : Hid (∀ W, Q wr W → Calls Tryz.prog 94 #[.agg #[.slice A ks.length c, .slice S m d], .agg #[.slice F R.length cr, .slice Av nv cv, b1, b2, b3, b4], .int .i64 l[k], .int .i64 v, .bool less] W fun e W' => e = .returned (.bool (mayV R ks nv l[k] v less)) ∧ Q W W') := fun W q =>
        refMayV_any R A S F Av _ c m d _ cr nv cv b1 b2 b3 b4 ks l[k] v less W rfl (((Hk.out.q (Nat.le_refl _) (HQ.out.trans q)).more (HQ.out.trans q).size)) rfl (HR.out.q (HQ.out.trans q))
      generalize mayV R ks nv l[k] v less = ok at *
      have j0 : (0 : Int) ≤ (k : Int) := Int.natCast_nonneg _
      have j1 : (k : Int) < (l.length : Int) := by omega
      go_upto_region 4 with fail
      go_region_held3 (fun w' => w'.cell? ⟨w.heap.size, 0, none⟩ = some (.slice A ks.length c) ∧ w'.cell? ⟨w.heap.size, 1, none⟩ = some (.slice S m d) ∧ w'.cell? ⟨w.heap.size + 1, 0, none⟩ = some (.slice F R.length cr) ∧ w'.cell? ⟨w.heap.size + 1, 1, none⟩ = some (.slice Av nv cv) ∧ w'.cell? ⟨w.heap.size + 1, 2, none⟩ = some b1 ∧ w'.cell? ⟨w.heap.size + 1, 3, none⟩ = some b2 ∧ w'.cell? ⟨w.heap.size + 1, 4, none⟩ = some b3 ∧ w'.cell? ⟨w.heap.size + 1, 5, none⟩ = some b4 ∧ w'.cell? (ad.add k) = some (.int .i64 l[k]))
        (first
          | go_keep
          | exact ⟨(p3.cell (p := ⟨w.heap.size, 0, none⟩) l0).trans b0, (p3.cell (p := ⟨w.heap.size, 1, none⟩) l0).trans b1', (p3.cell (p := ⟨w.heap.size + 1, 0, none⟩) l1).trans g0, (p3.cell (p := ⟨w.heap.size + 1, 1, none⟩) l1).trans g1, (p3.cell (p := ⟨w.heap.size + 1, 2, none⟩) l1).trans g2, (p3.cell (p := ⟨w.heap.size + 1, 3, none⟩) l1).trans g3, (p3.cell (p := ⟨w.heap.size + 1, 4, none⟩) l1).trans g4, (p3.cell (p := ⟨w.heap.size + 1, 5, none⟩) l1).trans g5, (p3.cell hbk).trans c0⟩)
        (first
          | (go_at_call 94; (with_reducible refine (CM.out _ (Q.refl wr).drew).mono ?_); rintro e w3 ⟨rfl, q2⟩; have p3 : Q wr w3 := (Q.refl wr).drew.trans q2))
      have c0' := (p3.cell hbk).trans c0
      have Hp := Lib.hid p3
      clear b0 b1' g0 g1 g2 g3 g4 g5 c0 q2 p3 CM
      cases ok
      · have HF := Lib.hid (HZ.out (by rw [HO.out]; rfl))
        go_wp2_with fail
        go_quiet (fail)
        go_wp2_with fail
        go_ret
        exact ⟨by rw [HF.out]; rfl, (q0.trans HQ.out).trans (Hp.out.trans (q_drewN _ ⟨_, rfl⟩))⟩
      · rcases k with _ | k
        · have HF := Lib.hid (HK.out (by rw [HO.out]; rfl))
          go_wp2_with fail
          go_quiet (fail)
          go_wp2_with fail
          go_roundw
          case rel => exact ⟨0 + 1, by omega, by go_num, HF, Lib.hid (HQ.out.trans (Hp.out.trans (q_drewN _ ⟨_, rfl⟩)))⟩
          case measure => simp [intOf]; omega
        · have hk' : k < l.length := by omega
          obtain ⟨ad', e', _, c1⟩ := HLr.out.int_at hk'
          obtain rfl : ad' = ad := by injection e' with e'; exact e'.symm
          have c1' := (Hp.out.cell (by rw [Tr.add_block]; exact hb)).trans c1
          have HO : Hid (okV R ks nv v less l (k + 1) = decide (l[k] < l[k + 1])) := by unfold Hid; rw [HO.out, Bool.true_and, decide_eq_false (by omega), Bool.false_or, show k + 1 - 1 = k by omega, getD_at hk']
          have j2 : ((k : Int) + 1 - 1) = (k : Int) := by omega
          have j3 : decide (0 < (k : Int) + 1) = true := decide_eq_true (by omega)
          have j5 : ((k : Int) + 1).toNat = k + 1 := by omega
          have j6 : (k : Int) + 1 < (l.length : Int) := by omega
          have j7 : (0 : Int) ≤ (k : Int) + 1 := by omega
          have j8 : (k : Int) < (l.length : Int) := by omega
          have j9 : IntKind.i64.wrap (k : Int) = (k : Int) := IntWalk.i64_in _ (by omega)
          have j10 : (0 : Int) ≤ (k : Int) := by omega
          have j4 : IntKind.i64.wrap ((k : Int) + 1 - 1) = (k : Int) := by rw [j2]; exact IntWalk.i64_in _ (by omega)
          have c0' : w3.cell? ⟨ad'.block, ad'.off + (k + 1), none⟩ = some (.int .i64 l[k + 1]) := by have := c0'; simpa [Addr.add] using this
          clear c1 e'
          generalize l[k + 1] = x at *
          generalize l[k] = y at *
          by_cases hxy : y < x
          · have d3 : decide (x ≤ y) = false := decide_eq_false (by omega)
            have HF := Lib.hid (HK.out (by rw [HO.out]; exact decide_eq_true hxy))
            clear hxy
            go_wp2_with fail
            go_quiet (fail)
            go_wp2_with fail
            go_roundw
            case rel => exact ⟨k + 1 + 1, by omega, by go_num, HF, Lib.hid (HQ.out.trans (Hp.out.trans (q_drewN _ ⟨_, rfl⟩)))⟩
            case measure => simp [intOf]; omega
          · have d3 : decide (x ≤ y) = true := decide_eq_true (by omega)
            have HF := Lib.hid (HZ.out (by rw [HO.out]; exact decide_eq_false hxy))
            clear hxy
            go_wp2_with fail
            go_quiet (fail)
            go_wp2_with fail
            go_ret
            exact ⟨by rw [HF.out]; rfl, (q0.trans HQ.out).trans (Hp.out.trans (q_drewN _ ⟨_, rfl⟩))⟩
    · have HF : Hid (rowV R ks nv v less l = true) := by unfold Hid; rw [HN.out]; exact decide_eq_true (fun i hi => HH.out i (by omega))
      clear b0 b1' g0 g1 g2 g3 g4 g5
      go_wp2_with fail
      go_ret
      exact ⟨by rw [HF.out]; rfl, q0.trans HQ.out⟩
end Go.Proofs.YtjmopbimleoidaaGreat.Ig

namespace Go.Proofs.YtjmopbimleoidaaGreat.Ig
open Go.RowKit Kit Tr Uf
open Go.Proofs.YtjmopbimleoidaaGreat.Hs (Keys Ints atI refAt_any BoxT)
open Go.Proofs.YtjmopbimleoidaaGreat.Tm (Tm termAt refOf_any Box4)
theorem ints_rds {w : World} {Bk : Nat} {A : Option Addr} {xs : List Int} (h : Ints w Bk A xs) : Tr.Rds w Bk A (cellsI xs) := fun h0 => by
  obtain ⟨ad, e, hlt, hc⟩ := h (by rwa [cellsI_len] at h0)
  refine ⟨ad, e, hlt, fun j v hv => ?_⟩
  have hj : j < xs.length := by have := (List.getElem?_eq_some_iff.1 hv).1; rwa [cellsI_len] at this
  rw [cellsI_at hj] at hv
  injection hv with hv
  subst hv
  exact hc j _ (List.getElem?_eq_getElem hj)

/-- a variable's rows are right -/
def okG (R : List Int) (ks : List (List Int)) (V : List Int) (P S : List (List Int)) (v : Nat) : Bool :=
  rowV R ks V.length v true (P.getD v []) && rowV R ks V.length v false (S.getD v []) && ((V.getD v 0 == (v : Int)) || (decide ((P.getD v []).length = 0) && decide ((S.getD v []).length = 0)))
/-- a graph is right -/
def rightG (R : List Int) (ks : List (List Int)) (c : Cells) (P S : List (List Int)) : Bool :=
  (clB R c.V && rightB c) && decide (c.M.length = 0) && decide (P.length = c.V.length) && decide (S.length = c.V.length) && decide (∀ v, v < c.V.length → okG R ks c.V P S v = true)
theorem rows_at {l : List (List Int)} {k : Nat} (h : k < l.length) : l.getD k [] = l[k] := by rw [List.getD_eq_getElem?_getD, List.getElem?_eq_getElem h]; rfl

set_option maxRecDepth 100000 in
set_option maxHeartbeats 8000000 in
theorem refRightG_any (R : List Int) (c : Cells) (A S F Av D E B C : Option Addr) (n ca m d nr cr n1 k1 n2 k2 n3 k3 nb kb nc kc : Nat) (ks P T : List (List Int)) (w : World) (hn : n = ks.length) (hk : Keys w w.heap.size A ks) (hnr : nr = R.length) (hR : Tr.Rds w w.heap.size F (cellsI R))
    (h1 : n1 = c.V.length) (h2 : n2 = c.N.length) (h3 : n3 = c.M.length) (h : Rd w c Av k1 D k2 E k3) (hf : Few c 1000000)
    (hnb : nb = P.length) (hP : Keys w w.heap.size B P) (hnc : nc = T.length) (hT : Keys w w.heap.size C T) (hPl : ∀ x ∈ P, x.length ≤ 1000000) (hTl : ∀ x ∈ T, x.length ≤ 1000000) :
    Calls Tryz.prog 15 #[.agg #[.slice A n ca, .slice S m d], .agg #[.slice F nr cr, .slice Av n1 k1, .slice D n2 k2, .slice E n3 k3, .slice B nb kb, .slice C nc kc]] w fun e w' => e = .returned (.bool (rightG R ks c P T)) ∧ Q w w' := by
  subst hn
  subst hnr
  subst h1
  subst h2
  subst h3
  subst hnb
  subst hnc
  have q0 := ((Q.refl w).alloc (Obj.cells #[Value.slice A ks.length ca, Value.slice S m d] 26)).alloc (Obj.cells #[Value.slice F R.length cr, Value.slice Av c.V.length k1, Value.slice D c.N.length k2, Value.slice E c.M.length k3, Value.slice B P.length kb, Value.slice C T.length kc] 31)
  have HB := Lib.hid ((BoxT.new w (Value.slice A ks.length ca) (Value.slice S m d) 26).q ((Q.refl _).alloc (Obj.cells #[Value.slice F R.length cr, Value.slice Av c.V.length k1, Value.slice D c.N.length k2, Value.slice E c.M.length k3, Value.slice B P.length kb, Value.slice C T.length kc] 31)))
  have X := Box6.new (w.alloc (Obj.cells #[Value.slice A ks.length ca, Value.slice S m d] 26)) (Value.slice F R.length cr) (Value.slice Av c.V.length k1) (Value.slice D c.N.length k2) (Value.slice E c.M.length k3) (Value.slice B P.length kb) (Value.slice C T.length kc) 31
  rw [World.size_alloc] at X
  have HG := Lib.hid X
  have Hk := Lib.hid ((hk.q (Nat.le_refl _) q0).more q0.size)
  have HR := Lib.hid (hR.q q0)
  have HC := Lib.hid (h.q q0)
  have HP := Lib.hid ((hP.q (Nat.le_refl _) q0).more q0.size)
  have HT := Lib.hid ((hT.q (Nat.le_refl _) q0).more q0.size)
  have HN : Hid (rightG R ks c P T = ((clB R c.V && rightB c) && decide (c.M.length = 0) && decide (P.length = c.V.length) && decide (T.length = c.V.length) && decide (∀ v, v < c.V.length → okG R ks c.V P T v = true))) := rfl
  have Hf := Lib.hid hf
  have HPl := Lib.hid hPl
  have HTl := Lib.hid hTl
  have hfv := hf.1
  clear hk hR h X hP hT hf hPl hTl
  go_enter Tryz.func15, Tryz.ntmps15
  go_upto_region 1 with fail
  generalize (w.alloc (Obj.cells #[Value.slice A ks.length ca, Value.slice S m d] 26)).alloc (Obj.cells #[Value.slice F R.length cr, Value.slice Av c.V.length k1, Value.slice D c.N.length k2, Value.slice E c.M.length k3, Value.slice B P.length kb, Value.slice C T.length kc] 31) = W0 at *
  have g0 := HG.out.c0
  have g1 := HG.out.c1
  have g2 := HG.out.c2
  have g3 := HG.out.c3
  have C5 := Lib.hid (right5_any R c Av D E F _ k1 _ k2 _ k3 _ cr W0 rfl rfl rfl rfl HC.out HR.out Hf.out)
  generalize (clB R c.V && rightB c) = u at *
  go_upto_region 2 with (go_at_call 51; refine C5.out.mono ?_; rintro e w2 ⟨rfl, q1⟩)
  have HBq := Lib.hid (HB.out.q q1)
  have HGq := Lib.hid (HG.out.q q1)
  clear g0 g1 g2 g3 C5
  have g1 := HGq.out.c1
  have g2 := HGq.out.c2
  have g3 := HGq.out.c3
  have g4 := HGq.out.c4
  have g5 := HGq.out.c5
  generalize c.M.length = nM at *
  cases u
  · have HF : Hid (rightG R ks c P T = false) := by unfold Hid; rw [HN.out]; rfl
    go_wp2_with fail
    go_ret
    exact ⟨by rw [HF.out]; rfl, q0.trans q1⟩
  by_cases hM : nM = 0
  case neg =>
    have HF : Hid (rightG R ks c P T = false) := by unfold Hid; rw [HN.out, decide_eq_false hM]; rfl
    obtain ⟨j, rfl⟩ : ∃ j, nM = j + 1 := ⟨nM - 1, by omega⟩
    have d1 : decide ((0 : Int) < (j : Int) + 1) = true := decide_eq_true (by omega)
    clear hM HN
    go_wp2_with fail
    go_ret
    exact ⟨by rw [HF.out]; rfl, q0.trans q1⟩
  subst hM
  by_cases hPn : P.length = c.V.length
  case neg =>
    have d2 : ((P.length : Int) != (c.V.length : Int)) = true := by simp; omega
    have HF : Hid (rightG R ks c P T = false) := by unfold Hid; rw [HN.out, decide_eq_false hPn, Bool.and_false]; rfl
    clear hPn
    go_wp2_with fail
    go_ret
    exact ⟨by rw [HF.out]; rfl, q0.trans q1⟩
  have d2 : ((P.length : Int) != (c.V.length : Int)) = false := by simp [hPn]
  by_cases hTn : T.length = c.V.length
  case neg =>
    have d3 : ((T.length : Int) != (c.V.length : Int)) = true := by simp; omega
    have HF : Hid (rightG R ks c P T = false) := by unfold Hid; rw [HN.out, decide_eq_false hTn, Bool.and_false]; rfl
    clear hPn hTn
    go_wp2_with fail
    go_ret
    exact ⟨by rw [HF.out]; rfl, q0.trans q1⟩
  have d3 : ((T.length : Int) != (c.V.length : Int)) = false := by simp [hTn]
  have HN2 : Hid (rightG R ks c P T = decide (∀ v, v < c.V.length → okG R ks c.V P T v = true)) := by unfold Hid; rw [HN.out, decide_eq_true rfl, decide_eq_true hPn, decide_eq_true hTn]; rfl
  have HPn := Lib.hid hPn
  have HTn := Lib.hid hTn
  clear hPn hTn
  have HCq := Lib.hid (HC.out.q q1)
  have HPq := Lib.hid ((HP.out.q (Nat.le_refl _) q1).more q1.size)
  have HTq := Lib.hid ((HT.out.q (Nat.le_refl _) q1).more q1.size)
  have Hkq := Lib.hid ((Hk.out.q (Nat.le_refl _) q1).more q1.size)
  have HRq := Lib.hid (HR.out.q q1)
  go_wp2_with fail
  clear g1 g2 g3 g4 g5
  go_loopw [6] (fun i wr => ∃ k : Nat, k ≤ c.V.length ∧ i = .int .i64 k ∧ Hid (∀ v, v < k → okG R ks c.V P T v = true) ∧ Hid (Q w2 wr)) (fun i _ => c.V.length - (intOf i).toNat)
  case atStart => exact ⟨0, Nat.zero_le _, rfl, Lib.hid (fun n hn => absurd hn (by omega)), Lib.hid (Q.refl _)⟩
  case round =>
    obtain ⟨k, hk, rfl, HH, HQ⟩ := hrel
    have HBr := Lib.hid (HBq.out.q HQ.out)
    have HGr := Lib.hid (HGq.out.q HQ.out)
    have b0 := HBr.out.c0
    have b1' := HBr.out.c1
    have g0 := HGr.out.c0
    have g1 := HGr.out.c1
    have g2 := HGr.out.c2
    have g3 := HGr.out.c3
    have g4 := HGr.out.c4
    have g5 := HGr.out.c5
    have l0 := HBr.out.lt
    have l1 := HGr.out.lt
    by_cases hlt : k < c.V.length
    · have hltP : k < P.length := by rw [HPn.out]; exact hlt
      have hltT : k < T.length := by rw [HTn.out]; exact hlt
      obtain ⟨pa, ep, hpb, a1, c1, hc1, p0, hi1⟩ := ((HPq.out.q (Nat.le_refl _) HQ.out).more HQ.out.size).at_ hltP
      obtain ⟨ta, et, htb, a2, c2, hc2, t0, hi2⟩ := ((HTq.out.q (Nat.le_refl _) HQ.out).more HQ.out.size).at_ hltT
      obtain ⟨va, ev, hvb, v0⟩ := (HCq.out.q HQ.out).v.int_at hlt
      subst ep et ev
      have hpk : (pa.add k).block < wr.heap.size := by rw [Tr.add_block]; exact hpb
      have htk : (ta.add k).block < wr.heap.size := by rw [Tr.add_block]; exact htb
      have hvk : (va.add k).block < wr.heap.size := by rw [Tr.add_block]; exact hvb
      have HO : Hid (okG R ks c.V P T k = (rowV R ks c.V.length k true P[k] && rowV R ks c.V.length k false T[k] && ((c.V[k] == (k : Int)) || (decide (P[k].length = 0) && decide (T[k].length = 0))))) := by unfold Hid okG; rw [rows_at hltP, rows_at hltT, getD_at hlt]
      have HK : Hid (okG R ks c.V P T k = true → ∀ n, n < k + 1 → okG R ks c.V P T n = true) := fun hk n hn => by
        by_cases e : n = k
        · subst e; exact hk
        · exact HH.out n (by omega)
      have HZ : Hid (okG R ks c.V P T k = false → rightG R ks c P T = false) := fun hk => by rw [HN2.out]; exact decide_eq_false (fun h => by have := h k hlt; rw [hk] at this; cases this)
      have C1 : Hid (∀ W, Q wr W → Calls Tryz.prog 52 #[.agg #[.slice A ks.length ca, .slice S m d], .agg #[.slice F R.length cr, .slice (some va) c.V.length k1, .slice D c.N.length k2, .slice E 0 k3, .slice (some pa) P.length kb, .slice (some ta) T.length kc], .slice a1 P[k].length c1, .int .i64 (k : Int), .bool true] W fun e W' => e = .returned (.bool (rowV R ks c.V.length k true P[k])) ∧ Q W W') := fun W q =>
        refRowV_any R A S F _ a1 _ ca m d _ cr _ k1 _ c1 _ _ _ _ ks P[k] k true W rfl ((Hkq.out.q (Nat.le_refl _) (HQ.out.trans q)).more (HQ.out.trans q).size) rfl (HRq.out.q (HQ.out.trans q)) rfl (ints_rds ((hi1.q (Nat.le_refl _) q).more q.size)) (HPl.out _ (List.getElem_mem hltP))
      have C2 : Hid (∀ W, Q wr W → Calls Tryz.prog 52 #[.agg #[.slice A ks.length ca, .slice S m d], .agg #[.slice F R.length cr, .slice (some va) c.V.length k1, .slice D c.N.length k2, .slice E 0 k3, .slice (some pa) P.length kb, .slice (some ta) T.length kc], .slice a2 T[k].length c2, .int .i64 (k : Int), .bool false] W fun e W' => e = .returned (.bool (rowV R ks c.V.length k false T[k])) ∧ Q W W') := fun W q =>
        refRowV_any R A S F _ a2 _ ca m d _ cr _ k1 _ c2 _ _ _ _ ks T[k] k false W rfl ((Hkq.out.q (Nat.le_refl _) (HQ.out.trans q)).more (HQ.out.trans q).size) rfl (HRq.out.q (HQ.out.trans q)) rfl (ints_rds ((hi2.q (Nat.le_refl _) q).more q.size)) (HTl.out _ (List.getElem_mem hltT))
      generalize rowV R ks c.V.length k true P[k] = o1 at *
      generalize rowV R ks c.V.length k false T[k] = o2 at *
      generalize P[k].length = np at *
      generalize T[k].length = nt at *
      generalize c.V[k] = x at *
      have j0 : (0 : Int) ≤ (k : Int) := Int.natCast_nonneg _
      have j1 : (k : Int) < (c.V.length : Int) := by omega
      have j2 : (k : Int) < (P.length : Int) := by omega
      have j3 : (k : Int) < (T.length : Int) := by omega
      have Hv0 := Lib.hid v0
      have Hp0 := Lib.hid p0
      have Ht0 := Lib.hid t0
      clear hi1 hi2 v0
      go_upto_region 7 with fail
      go_region_held3 (fun w' => w'.cell? ⟨w.heap.size, 0, none⟩ = some (.slice A ks.length ca) ∧ w'.cell? ⟨w.heap.size, 1, none⟩ = some (.slice S m d) ∧ w'.cell? ⟨w.heap.size + 1, 0, none⟩ = some (.slice F R.length cr) ∧ w'.cell? ⟨w.heap.size + 1, 1, none⟩ = some (.slice (some va) c.V.length k1) ∧ w'.cell? ⟨w.heap.size + 1, 2, none⟩ = some (.slice D c.N.length k2) ∧ w'.cell? ⟨w.heap.size + 1, 3, none⟩ = some (.slice E 0 k3) ∧ w'.cell? ⟨w.heap.size + 1, 4, none⟩ = some (.slice (some pa) P.length kb) ∧ w'.cell? ⟨w.heap.size + 1, 5, none⟩ = some (.slice (some ta) T.length kc) ∧ w'.cell? (pa.add k) = some (.slice a1 np c1))
        (first
          | go_keep
          | exact ⟨(p3.cell (p := ⟨w.heap.size, 0, none⟩) l0).trans b0, (p3.cell (p := ⟨w.heap.size, 1, none⟩) l0).trans b1', (p3.cell (p := ⟨w.heap.size + 1, 0, none⟩) l1).trans g0, (p3.cell (p := ⟨w.heap.size + 1, 1, none⟩) l1).trans g1, (p3.cell (p := ⟨w.heap.size + 1, 2, none⟩) l1).trans g2, (p3.cell (p := ⟨w.heap.size + 1, 3, none⟩) l1).trans g3, (p3.cell (p := ⟨w.heap.size + 1, 4, none⟩) l1).trans g4, (p3.cell (p := ⟨w.heap.size + 1, 5, none⟩) l1).trans g5, (p3.cell hpk).trans p0⟩)
        (first
          | (go_at_call 52; (with_reducible refine (C1.out _ (Q.refl wr).drew).mono ?_); rintro e w3 ⟨rfl, q2⟩; have p3 : Q wr w3 := (Q.refl wr).drew.trans q2))
      have r0 := (p3.cell (p := ⟨w.heap.size, 0, none⟩) l0).trans b0
      have r1 := (p3.cell (p := ⟨w.heap.size, 1, none⟩) l0).trans b1'
      have s0 := (p3.cell (p := ⟨w.heap.size + 1, 0, none⟩) l1).trans g0
      have s1 := (p3.cell (p := ⟨w.heap.size + 1, 1, none⟩) l1).trans g1
      have s2 := (p3.cell (p := ⟨w.heap.size + 1, 2, none⟩) l1).trans g2
      have s3 := (p3.cell (p := ⟨w.heap.size + 1, 3, none⟩) l1).trans g3
      have s4 := (p3.cell (p := ⟨w.heap.size + 1, 4, none⟩) l1).trans g4
      have s5 := (p3.cell (p := ⟨w.heap.size + 1, 5, none⟩) l1).trans g5
      have u0 := (p3.cell htk).trans t0
      have m0 : w.heap.size < w3.heap.size := Nat.lt_of_lt_of_le l0 p3.size
      have m1 : w.heap.size + 1 < w3.heap.size := Nat.lt_of_lt_of_le l1 p3.size
      have mtk : (ta.add k).block < w3.heap.size := Nat.lt_of_lt_of_le htk p3.size
      have Hp3 := Lib.hid p3
      clear b0 b1' g0 g1 g2 g3 g4 g5 p0 t0 q2 C1 p3
      go_upto_region 8 with fail
      go_region_held3 (fun w' => w'.cell? ⟨w.heap.size, 0, none⟩ = some (.slice A ks.length ca) ∧ w'.cell? ⟨w.heap.size, 1, none⟩ = some (.slice S m d) ∧ w'.cell? ⟨w.heap.size + 1, 0, none⟩ = some (.slice F R.length cr) ∧ w'.cell? ⟨w.heap.size + 1, 1, none⟩ = some (.slice (some va) c.V.length k1) ∧ w'.cell? ⟨w.heap.size + 1, 2, none⟩ = some (.slice D c.N.length k2) ∧ w'.cell? ⟨w.heap.size + 1, 3, none⟩ = some (.slice E 0 k3) ∧ w'.cell? ⟨w.heap.size + 1, 4, none⟩ = some (.slice (some pa) P.length kb) ∧ w'.cell? ⟨w.heap.size + 1, 5, none⟩ = some (.slice (some ta) T.length kc) ∧ w'.cell? (ta.add k) = some (.slice a2 nt c2))
        (first
          | go_keep
          | exact ⟨(p4.cell (p := ⟨w.heap.size, 0, none⟩) m0).trans r0, (p4.cell (p := ⟨w.heap.size, 1, none⟩) m0).trans r1, (p4.cell (p := ⟨w.heap.size + 1, 0, none⟩) m1).trans s0, (p4.cell (p := ⟨w.heap.size + 1, 1, none⟩) m1).trans s1, (p4.cell (p := ⟨w.heap.size + 1, 2, none⟩) m1).trans s2, (p4.cell (p := ⟨w.heap.size + 1, 3, none⟩) m1).trans s3, (p4.cell (p := ⟨w.heap.size + 1, 4, none⟩) m1).trans s4, (p4.cell (p := ⟨w.heap.size + 1, 5, none⟩) m1).trans s5, (p4.cell mtk).trans u0⟩)
        (first
          | (go_at_call 52; (with_reducible refine (C2.out _ (Hp3.out.trans (Q.refl w3).drew)).mono ?_); rintro e w4 ⟨rfl, q3⟩; have p4 : Q w3 w4 := (Q.refl w3).drew.trans q3))
      have HQ4 := Lib.hid (Hp3.out.trans p4)
      clear r0 r1 s0 s1 s2 s3 s4 s5 u0 q3 C2 p4
      have g1 := (HGr.out.q HQ4.out).c1
      have g4 := (HGr.out.q HQ4.out).c4
      have g5 := (HGr.out.q HQ4.out).c5
      have v0 := (HQ4.out.cell hvk).trans Hv0.out
      have p0 := (HQ4.out.cell hpk).trans Hp0.out
      have t0 := (HQ4.out.cell htk).trans Ht0.out
      cases o1
      · have HF := Lib.hid (HZ.out (by rw [HO.out]; rfl))
        go_wp2_with fail
        go_ret
        exact ⟨by rw [HF.out]; rfl, (q0.trans q1).trans (HQ.out.trans HQ4.out)⟩
      cases o2
      · have HF := Lib.hid (HZ.out (by rw [HO.out]; rfl))
        go_wp2_with fail
        go_ret
        exact ⟨by rw [HF.out]; rfl, (q0.trans q1).trans (HQ.out.trans HQ4.out)⟩
      cases ex : (x == (k : Int))
      · have ex' : (x != (k : Int)) = true := by simpa using ex
        rw [ex] at HO
        clear ex
        rcases np with _ | np
        · rcases nt with _ | nt
          · have HF := Lib.hid (HK.out (by rw [HO.out]; rfl))
            go_wp2_with fail
            go_roundw
            case rel => exact ⟨k + 1, by omega, by go_num, HF, Lib.hid (HQ.out.trans HQ4.out)⟩
            case measure => simp [intOf]; omega
          · have HF := Lib.hid (HZ.out (by rw [HO.out]; rfl))
            have d4 : decide ((0 : Int) < (nt : Int) + 1) = true := decide_eq_true (by omega)
            go_wp2_with fail
            go_ret
            exact ⟨by rw [HF.out]; rfl, (q0.trans q1).trans (HQ.out.trans HQ4.out)⟩
        · have HF := Lib.hid (HZ.out (by rw [HO.out]; rfl))
          have d4 : decide ((0 : Int) < (np : Int) + 1) = true := decide_eq_true (by omega)
          go_wp2_with fail
          go_ret
          exact ⟨by rw [HF.out]; rfl, (q0.trans q1).trans (HQ.out.trans HQ4.out)⟩
      · have ex' : (x != (k : Int)) = false := by simpa using ex
        have HF := Lib.hid (HK.out (by rw [HO.out, ex]; rfl))
        clear ex
        go_wp2_with fail
        go_roundw
        case rel => exact ⟨k + 1, by omega, by go_num, HF, Lib.hid (HQ.out.trans HQ4.out)⟩
        case measure => simp [intOf]; omega
    · have HF : Hid (rightG R ks c P T = true) := by
        have hall : ∀ v, v < c.V.length → okG R ks c.V P T v = true := fun i hi => HH.out i (by omega)
        unfold Hid; rw [HN2.out]; exact decide_eq_true hall
      clear b0 b1' g0 g2 g3 g4 g5
      go_wp2_with fail
      go_ret
      exact ⟨by rw [HF.out]; rfl, (q0.trans q1).trans HQ.out⟩
end Go.Proofs.YtjmopbimleoidaaGreat.Ig

namespace Go.Proofs.YtjmopbimleoidaaGreat.Ig
open Go.RowKit Kit Tr Uf
open Go.Proofs.YtjmopbimleoidaaGreat.Hs (Keys Ints atI refAt_any BoxT)
open Go.Proofs.YtjmopbimleoidaaGreat.Tm (Tm termAt refOf_any Box4)
def allV (ks : List (List Int)) (m : Nat) : Bool := decide (∀ v : Nat, v < m → 0 ≤ atV ks v)

set_option maxRecDepth 100000 in
set_option maxHeartbeats 2000000 in
theorem refAllV_any (A S Av : Option Addr) (n c m d nv cv : Nat) (r b1 b2 b3 b4 : Value) (ks : List (List Int)) (w : World) (hn : n = ks.length) (hk : Keys w w.heap.size A ks) (hl : ks.length ≤ maxLen) (hs : ∀ k ∈ ks, k.length ≤ maxLen) (hnv : nv ≤ 1000000) :
    Calls Tryz.prog 36 #[.agg #[.slice A n c, .slice S m d], .agg #[r, .slice Av nv cv, b1, b2, b3, b4]] w fun e w' => e = .returned (.bool (allV ks nv)) ∧ Q w w' := by
  subst hn
  have q0 := ((Q.refl w).alloc (Obj.cells #[Value.slice A ks.length c, Value.slice S m d] 26)).alloc (Obj.cells #[r, Value.slice Av nv cv, b1, b2, b3, b4] 31)
  have HB := Lib.hid ((BoxT.new w (Value.slice A ks.length c) (Value.slice S m d) 26).q ((Q.refl _).alloc (Obj.cells #[r, Value.slice Av nv cv, b1, b2, b3, b4] 31)))
  have X := Box6.new (w.alloc (Obj.cells #[Value.slice A ks.length c, Value.slice S m d] 26)) r (Value.slice Av nv cv) b1 b2 b3 b4 31
  rw [World.size_alloc] at X
  have HG := Lib.hid X
  have Hk := Lib.hid ((hk.q (Nat.le_refl _) q0).more q0.size)
  have HN : Hid (allV ks nv = decide (∀ v : Nat, v < nv → 0 ≤ atV ks v)) := rfl
  clear hk X
  go_enter Tryz.func36, Tryz.ntmps36
  go_upto_region 1 with fail
  generalize (w.alloc (Obj.cells #[Value.slice A ks.length c, Value.slice S m d] 26)).alloc (Obj.cells #[r, Value.slice Av nv cv, b1, b2, b3, b4] 31) = W0 at *
  go_wp2_with fail
  go_loopw [5] (fun i wr => ∃ k : Nat, k ≤ nv ∧ i = .int .i64 k ∧ Hid (∀ v : Nat, v < k → 0 ≤ atV ks v) ∧ Hid (Q W0 wr)) (fun i _ => nv - (intOf i).toNat)
  case atStart => exact ⟨0, Nat.zero_le _, rfl, Lib.hid (fun n hn => absurd hn (by omega)), Lib.hid (Q.refl _)⟩
  case round =>
    obtain ⟨k, hk, rfl, HH, HQ⟩ := hrel
    have b0 := (HB.out.q HQ.out).c0
    have b1' := (HB.out.q HQ.out).c1
    have g1 := (HG.out.q HQ.out).c1
    by_cases hlt : k < nv
    · have CA := Lib.hid (refAtV_any A _ c (.slice S m d) ks (k : Int) wr rfl ((Hk.out.q (Nat.le_refl _) HQ.out).more HQ.out.size) hl hs)
      by_cases ha : atV ks k < 0
      · have d1 : decide (atV ks k < 0) = true := decide_eq_true ha
        have HF : Hid (allV ks nv = false) := by unfold Hid; rw [HN.out]; exact decide_eq_false (fun h => by have := h k hlt; omega)
        generalize atV ks k = x at *
        clear ha
        go_wp2_with (go_at_call 17; refine CA.out.mono ?_; rintro e w2 ⟨rfl, q2⟩)
        go_ret
        exact ⟨by rw [HF.out]; rfl, (q0.trans HQ.out).trans q2⟩
      · have d1 : decide (atV ks k < 0) = false := decide_eq_false ha
        have HK : Hid (∀ v : Nat, v < k + 1 → 0 ≤ atV ks v) := fun v hv => by
          by_cases e : v = k
          · subst e; omega
          · exact HH.out v (by omega)
        generalize atV ks k = x at CA d1
        clear ha
        go_wp2_with (go_at_call 17; refine CA.out.mono ?_; rintro e w2 ⟨rfl, q2⟩)
        have HQ2 := Lib.hid (HQ.out.trans q2)
        go_roundw
        case rel => exact ⟨k + 1, by omega, by go_num, HK, HQ2⟩
        case measure => simp [intOf]; omega
    · have HF : Hid (allV ks nv = true) := by
        have hall : ∀ v : Nat, v < nv → 0 ≤ atV ks v := fun i hi => HH.out i (by omega)
        unfold Hid; rw [HN.out]; exact decide_eq_true hall
      go_wp2_with fail
      go_ret
      exact ⟨by rw [HF.out]; rfl, q0.trans HQ.out⟩
end Go.Proofs.YtjmopbimleoidaaGreat.Ig

namespace Go.Proofs.YtjmopbimleoidaaGreat.Ig
open Go.RowKit Kit Tr Uf
open Go.Proofs.YtjmopbimleoidaaGreat.Hs (Keys Ints BoxT)
/-- rows counted, till there are too many -/
def fewR (n : Nat) : List (List Int) → Nat
  | [] => n
  | k :: l => if n ≤ 1000 then fewR (n + k.length) l else n
theorem fewR_at (n : Nat) (ks : List (List Int)) (i : Nat) (h : i < ks.length) (hn : n ≤ 1000) : fewR n (ks.drop i) = fewR (n + ks[i].length) (ks.drop (i + 1)) := by
  rw [List.drop_eq_getElem_cons h, fewR, if_pos hn]
theorem fewR_big (n : Nat) (ks : List (List Int)) (hn : ¬ n ≤ 1000) : fewR n ks = n := by
  cases ks with
  | nil => rfl
  | cons k l => rw [fewR, if_neg hn]
theorem fewR_end (n : Nat) (ks : List (List Int)) (i : Nat) (h : ks.length ≤ i) : fewR n (ks.drop i) = n := by
  rw [List.drop_eq_nil_of_le h]; rfl
theorem fewR_le : ∀ (ks : List (List Int)) (n : Nat), fewR n ks ≤ 1000 → n ≤ 1000 ∧ ∀ k ∈ ks, k.length ≤ 1000
  | [], n, h => ⟨h, fun k hk => by cases hk⟩
  | k :: l, n, h => by
    rw [fewR] at h
    by_cases hn : n ≤ 1000
    · rw [if_pos hn] at h
      obtain ⟨h1, h2⟩ := fewR_le l _ h
      refine ⟨hn, fun x hx => ?_⟩
      rcases List.mem_cons.1 hx with rfl | hx
      · omega
      · exact h2 x hx
    · rw [if_neg hn] at h
      exact absurd h hn
/-- how long the rows themselves are -/
def sixN (R : List Int) (c : Cells) (P T : List (List Int)) : Nat := R.length + c.V.length + c.N.length + c.M.length + P.length + T.length
def few12B (R : List Int) (c : Cells) (P T : List (List Int)) : Bool := decide (fewR (fewR (sixN R c P T) P) T ≤ 1000)
theorem few12_ok {R : List Int} {c : Cells} {P T : List (List Int)} (h : few12B R c P T = true) : R.length ≤ 1000 ∧ Few c 1000 ∧ P.length ≤ 1000 ∧ T.length ≤ 1000 ∧ (∀ k ∈ P, k.length ≤ 1000) ∧ (∀ k ∈ T, k.length ≤ 1000) := by
  have h1 := of_decide_eq_true h
  obtain ⟨h2, h3⟩ := fewR_le T _ h1
  obtain ⟨h4, h5⟩ := fewR_le P _ h2
  unfold sixN at h4
  exact ⟨by omega, ⟨by omega, by omega, by omega⟩, by omega, by omega, h5, h3⟩

set_option maxRecDepth 100000 in
set_option maxHeartbeats 4000000 in
theorem refFew12_any (R : List Int) (c : Cells) (P T : List (List Int)) (F A D E Pa Ta : Option Addr) (nr cr n1 k1 n2 k2 n3 k3 np kp nt kt : Nat) (w : World) (hr : nr = R.length) (h1 : n1 = c.V.length) (h2 : n2 = c.N.length) (h3 : n3 = c.M.length) (hp : np = P.length) (ht : nt = T.length)
    (hP : Keys w w.heap.size Pa P) (hT : Keys w w.heap.size Ta T) (lR : R.length ≤ 1152921504606846976) (lV : c.V.length ≤ 1152921504606846976) (lN : c.N.length ≤ 1152921504606846976) (lM : c.M.length ≤ 1152921504606846976) (lP : P.length ≤ 1152921504606846976) (lT : T.length ≤ 1152921504606846976)
    (sP : ∀ k ∈ P, k.length ≤ 1152921504606846976) (sT : ∀ k ∈ T, k.length ≤ 1152921504606846976) :
    Calls Tryz.prog 35 #[.agg #[.slice F nr cr, .slice A n1 k1, .slice D n2 k2, .slice E n3 k3, .slice Pa np kp, .slice Ta nt kt]] w fun e w' => e = .returned (.bool (few12B R c P T)) ∧ Q w w' := by
  subst hr h1 h2 h3 hp ht
  have q0 := (Q.refl w).alloc (Obj.cells #[.slice F R.length cr, .slice A c.V.length k1, .slice D c.N.length k2, .slice E c.M.length k3, .slice Pa P.length kp, .slice Ta T.length kt] 31)
  have HB := Lib.hid (Box6.new w (.slice F R.length cr) (.slice A c.V.length k1) (.slice D c.N.length k2) (.slice E c.M.length k3) (.slice Pa P.length kp) (.slice Ta T.length kt) 31)
  have HP := Lib.hid ((hP.q (Nat.le_refl _) q0).more q0.size)
  have HT := Lib.hid ((hT.q (Nat.le_refl _) q0).more q0.size)
  have HS6 : Hid (sixN R c P T = R.length + c.V.length + c.N.length + c.M.length + P.length + T.length) := rfl
  have HD : Hid (few12B R c P T = decide (fewR (fewR (sixN R c P T) P) T ≤ 1000)) := rfl
  have Hsp := Lib.hid sP
  have Hst := Lib.hid sT
  have HLs : Hid (R.length ≤ 1152921504606846976 ∧ c.V.length ≤ 1152921504606846976 ∧ c.N.length ≤ 1152921504606846976 ∧ c.M.length ≤ 1152921504606846976 ∧ P.length ≤ 1152921504606846976 ∧ T.length ≤ 1152921504606846976) := ⟨lR, lV, lN, lM, lP, lT⟩
  have HN : Hid (((sixN R c P T : Nat) : Int) = (R.length : Int) + (c.V.length : Int) + (c.N.length : Int) + (c.M.length : Int) + (P.length : Int) + (T.length : Int) ∧ sixN R c P T ≤ 6917529027641081856) := by unfold Hid; rw [HS6.out]; omega
  clear hP hT sP sT lR lV lN lM lP lT
  go_enter Tryz.func35, Tryz.ntmps35
  go_upto_region 1 with fail
  generalize w.alloc (Obj.cells #[.slice F R.length cr, .slice A c.V.length k1, .slice D c.N.length k2, .slice E c.M.length k3, .slice Pa P.length kp, .slice Ta T.length kt] 31) = W at *
  have b0 := HB.out.c0
  have b1 := HB.out.c1
  have b2 := HB.out.c2
  have b3 := HB.out.c3
  have b4 := HB.out.c4
  have b5 := HB.out.c5
  obtain ⟨lR, lV, lN, lM, lP, lT⟩ := HLs.out
  have w1 : wrap64 ((R.length : Int) + (c.V.length : Int)) = (R.length : Int) + (c.V.length : Int) := IntWalk.wrap64_in _ (by omega)
  have w2 : wrap64 ((R.length : Int) + (c.V.length : Int) + (c.N.length : Int)) = (R.length : Int) + (c.V.length : Int) + (c.N.length : Int) := IntWalk.wrap64_in _ (by omega)
  have w3 : wrap64 ((R.length : Int) + (c.V.length : Int) + (c.N.length : Int) + (c.M.length : Int)) = (R.length : Int) + (c.V.length : Int) + (c.N.length : Int) + (c.M.length : Int) := IntWalk.wrap64_in _ (by omega)
  have w4 : wrap64 ((R.length : Int) + (c.V.length : Int) + (c.N.length : Int) + (c.M.length : Int) + (P.length : Int)) = (R.length : Int) + (c.V.length : Int) + (c.N.length : Int) + (c.M.length : Int) + (P.length : Int) := IntWalk.wrap64_in _ (by omega)
  have w5 : wrap64 ((R.length : Int) + (c.V.length : Int) + (c.N.length : Int) + (c.M.length : Int) + (P.length : Int) + (T.length : Int)) = (R.length : Int) + (c.V.length : Int) + (c.N.length : Int) + (c.M.length : Int) + (P.length : Int) + (T.length : Int) := IntWalk.wrap64_in _ (by omega)
  have HW5 := Lib.hid w5
  clear lR lV lN lM lP lT
  go_wp2_with fail
  clear w1 w2 w3 w4 w5 b0 b1 b2 b3
  go_loopw [3, 4] (fun s i wr => ∃ (k a : Nat), k ≤ P.length ∧ i = .int .i64 k ∧ s = .int .i64 a ∧ a ≤ 6917529027641081856 ∧ Hid (fewR (sixN R c P T) P = fewR a (P.drop k)) ∧ W = wr) (fun _ i _ => P.length - (intOf i).toNat)
  case atStart => exact ⟨0, sixN R c P T, Nat.zero_le _, rfl, by rw [HN.out.1, HW5.out], HN.out.2, Lib.hid (by simp), rfl⟩
  case round =>
    obtain ⟨k, a, hk, rfl, rfl, ha, HF, rfl⟩ := hrel
    by_cases hlt : k < P.length
    · by_cases h2 : a ≤ 1000
      · obtain ⟨ad, rfl, hb, a1, c1, _, k0, _⟩ := HP.out.at_ hlt
        have HS := Lib.hid (fewR_at a P k hlt h2)
        have hs1 := Hsp.out _ (List.getElem_mem hlt)
        have HA2 : Hid (a + P[k].length ≤ 6917529027641081856 ∧ k < P.length) := by unfold Hid; omega
        have HA3 : Hid (a ≤ 1000 ∧ P[k].length ≤ 1152921504606846976 ∧ P.length ≤ 1152921504606846976) := Lib.hid ⟨h2, hs1, HLs.out.2.2.2.2.1⟩
        have g9 := HA3.out.2.2
        go_wp2_with fail
        go_roundw
        case rel => exact ⟨k + 1, a + P[k].length, HA2.out.2, by obtain ⟨g1, g2, g3⟩ := HA3.out; have g4 := HA2.out.2; go_num, by obtain ⟨g1, g2, g3⟩ := HA3.out; go_num, HA2.out.1, Lib.hid (HF.out.trans HS.out), trivial⟩
        case measure => obtain ⟨g1, g2, g3⟩ := HA3.out; have g4 := HA2.out.2; simp [intOf]; omega
      · have HE : Hid (fewR (sixN R c P T) P = a) := by unfold Hid; rw [HF.out]; exact fewR_big a _ h2
        have Ha := Lib.hid ha
        have H2 := Lib.hid h2
        go_wp2_with fail
        go_loopw [3, 5] (fun s i wr => ∃ (k a : Nat), k ≤ T.length ∧ i = .int .i64 k ∧ s = .int .i64 a ∧ a ≤ 6917529027641081856 ∧ Hid (fewR (fewR (sixN R c P T) P) T = fewR a (T.drop k)) ∧ W = wr) (fun _ i _ => T.length - (intOf i).toNat)
        case atStart => exact ⟨0, a, Nat.zero_le _, rfl, rfl, Ha.out, Lib.hid (by rw [HE.out]; simp), rfl⟩
        case round =>
          obtain ⟨k, a, hk, rfl, rfl, ha, HF, rfl⟩ := hrel
          by_cases hlt : k < T.length
          · by_cases h2 : a ≤ 1000
            · obtain ⟨ad, rfl, hb, a1, c1, _, k0, _⟩ := HT.out.at_ hlt
              have HS := Lib.hid (fewR_at a T k hlt h2)
              have hs1 := Hst.out _ (List.getElem_mem hlt)
              have HA2 : Hid (a + T[k].length ≤ 6917529027641081856 ∧ k < T.length) := by unfold Hid; omega
              have HA3 : Hid (a ≤ 1000 ∧ T[k].length ≤ 1152921504606846976 ∧ T.length ≤ 1152921504606846976) := Lib.hid ⟨h2, hs1, HLs.out.2.2.2.2.2⟩
              have g9 := HA3.out.2.2
              go_wp2_with fail
              go_roundw
              case rel => exact ⟨k + 1, a + T[k].length, HA2.out.2, by obtain ⟨g1, g2, g3⟩ := HA3.out; have g4 := HA2.out.2; go_num, by obtain ⟨g1, g2, g3⟩ := HA3.out; go_num, HA2.out.1, Lib.hid (HF.out.trans HS.out), trivial⟩
              case measure => obtain ⟨g1, g2, g3⟩ := HA3.out; have g4 := HA2.out.2; simp [intOf]; omega
            · have HE : Hid (fewR (fewR (sixN R c P T) P) T = a) := by unfold Hid; rw [HF.out]; exact fewR_big a _ h2
              have Ha := Lib.hid ha
              have H2 := Lib.hid h2
              go_wp2_with fail
              go_ret
              have hh := H2.out
              exact ⟨by rw [HD.out, HE.out, decide_eq_false hh]; simp; omega, q0⟩
          · have HE : Hid (fewR (fewR (sixN R c P T) P) T = a) := by unfold Hid; rw [HF.out]; exact fewR_end a _ _ (by omega)
            have Ha := Lib.hid ha
            go_wp2_with fail
            go_ret
            exact ⟨by rw [HD.out, HE.out]; simp; omega, q0⟩
    · have HE : Hid (fewR (sixN R c P T) P = a) := by unfold Hid; rw [HF.out]; exact fewR_end a _ _ (by omega)
      have Ha := Lib.hid ha
      go_wp2_with fail
      go_loopw [3, 5] (fun s i wr => ∃ (k a : Nat), k ≤ T.length ∧ i = .int .i64 k ∧ s = .int .i64 a ∧ a ≤ 6917529027641081856 ∧ Hid (fewR (fewR (sixN R c P T) P) T = fewR a (T.drop k)) ∧ W = wr) (fun _ i _ => T.length - (intOf i).toNat)
      case atStart => exact ⟨0, a, Nat.zero_le _, rfl, rfl, Ha.out, Lib.hid (by rw [HE.out]; simp), rfl⟩
      case round =>
        obtain ⟨k, a, hk, rfl, rfl, ha, HF, rfl⟩ := hrel
        by_cases hlt : k < T.length
        · by_cases h2 : a ≤ 1000
          · obtain ⟨ad, rfl, hb, a1, c1, _, k0, _⟩ := HT.out.at_ hlt
            have HS := Lib.hid (fewR_at a T k hlt h2)
            have hs1 := Hst.out _ (List.getElem_mem hlt)
            have HA2 : Hid (a + T[k].length ≤ 6917529027641081856 ∧ k < T.length) := by unfold Hid; omega
            have HA3 : Hid (a ≤ 1000 ∧ T[k].length ≤ 1152921504606846976 ∧ T.length ≤ 1152921504606846976) := Lib.hid ⟨h2, hs1, HLs.out.2.2.2.2.2⟩
            have g9 := HA3.out.2.2
            go_wp2_with fail
            go_roundw
            case rel => exact ⟨k + 1, a + T[k].length, HA2.out.2, by obtain ⟨g1, g2, g3⟩ := HA3.out; have g4 := HA2.out.2; go_num, by obtain ⟨g1, g2, g3⟩ := HA3.out; go_num, HA2.out.1, Lib.hid (HF.out.trans HS.out), trivial⟩
            case measure => obtain ⟨g1, g2, g3⟩ := HA3.out; have g4 := HA2.out.2; simp [intOf]; omega
          · have HE : Hid (fewR (fewR (sixN R c P T) P) T = a) := by unfold Hid; rw [HF.out]; exact fewR_big a _ h2
            have Ha := Lib.hid ha
            have H2 := Lib.hid h2
            go_wp2_with fail
            go_ret
            have hh := H2.out
            exact ⟨by rw [HD.out, HE.out, decide_eq_false hh]; simp; omega, q0⟩
        · have HE : Hid (fewR (fewR (sixN R c P T) P) T = a) := by unfold Hid; rw [HF.out]; exact fewR_end a _ _ (by omega)
          have Ha := Lib.hid ha
          go_wp2_with fail
          go_ret
          exact ⟨by rw [HD.out, HE.out]; simp; omega, q0⟩
end Go.Proofs.YtjmopbimleoidaaGreat.Ig

namespace Go.Proofs.YtjmopbimleoidaaGreat.Ig
open Go.RowKit Kit Tr Uf
open Go.Proofs.YtjmopbimleoidaaGreat.Hs (Keys Ints BoxT layI fewB refFew_any few_sum mem_len)
open Go.Proofs.YtjmopbimleoidaaGreat.Tm (storeB refRight3_any)
def of12B (l : List Sg.Sig) (ks : List (List Int)) (sl : List Int) (R : List Int) (c : Cells) (P T : List (List Int)) : Bool :=
  decide (l.length ≤ 64) && Sg.rightB l && fewB ks sl.length && storeB l ks sl && few12B R c P T && rightG R ks c P T && allV ks c.V.length

set_option maxRecDepth 100000 in
set_option maxHeartbeats 8000000 in
theorem of12_any (L A S F Av D E Pa Ta : Option Addr) (nl cl n ca m d nr cr n1 k1 n2 k2 n3 k3 np kp nt kt : Nat) (l : List Sg.Sig) (ks : List (List Int)) (sl : List Int) (R : List Int) (c : Cells) (P T : List (List Int)) (w : World) (hnl : nl = l.length) (hr : Sg.Row w w.heap.size L l) (hn : n = ks.length) (hm : m = sl.length) (hk : Keys w w.heap.size A ks) (hS : Ints w w.heap.size S sl)
    (hll : l.length ≤ maxLen) (hsz : Sg.Sized l) (hl : ks.length ≤ 1152921504606846976) (hs : ∀ k ∈ ks, k.length ≤ 1152921504606846976) (hsl : sl.length ≤ 1152921504606846976)
    (hnr : nr = R.length) (h1 : n1 = c.V.length) (h2 : n2 = c.N.length) (h3 : n3 = c.M.length) (hp : np = P.length) (ht : nt = T.length)
    (hR : Tr.Rds w w.heap.size F (cellsI R)) (h : Rd w c Av k1 D k2 E k3) (hP : Keys w w.heap.size Pa P) (hT : Keys w w.heap.size Ta T) (lR : R.length ≤ 1152921504606846976) (lV : c.V.length ≤ 1152921504606846976) (lN : c.N.length ≤ 1152921504606846976) (lM : c.M.length ≤ 1152921504606846976) (lP : P.length ≤ 1152921504606846976) (lT : T.length ≤ 1152921504606846976)
    (sP : ∀ k ∈ P, k.length ≤ 1152921504606846976) (sT : ∀ k ∈ T, k.length ≤ 1152921504606846976) :
    Calls Tryz.prog 9 #[.slice L nl cl, .agg #[.slice A n ca, .slice S m d], .agg #[.slice F nr cr, .slice Av n1 k1, .slice D n2 k2, .slice E n3 k3, .slice Pa np kp, .slice Ta nt kt]] w fun e w' => e = .returned (.bool (of12B l ks sl R c P T)) ∧ Q w w' := by
  subst hnl hn hm hnr h1 h2 h3 hp ht
  have q0 := ((Q.refl w).alloc (Obj.cells #[.slice A ks.length ca, .slice S sl.length d] 26)).alloc (Obj.cells #[.slice F R.length cr, .slice Av c.V.length k1, .slice D c.N.length k2, .slice E c.M.length k3, .slice Pa P.length kp, .slice Ta T.length kt] 31)
  have HBa := Lib.hid ((BoxT.new w (.slice A ks.length ca) (.slice S sl.length d) 26).q ((Q.refl _).alloc (Obj.cells #[.slice F R.length cr, .slice Av c.V.length k1, .slice D c.N.length k2, .slice E c.M.length k3, .slice Pa P.length kp, .slice Ta T.length kt] 31)))
  have X := Box6.new (w.alloc (Obj.cells #[.slice A ks.length ca, .slice S sl.length d] 26)) (.slice F R.length cr) (.slice Av c.V.length k1) (.slice D c.N.length k2) (.slice E c.M.length k3) (.slice Pa P.length kp) (.slice Ta T.length kt) 31
  rw [World.size_alloc] at X
  have HBg := Lib.hid X
  have HQ0 := Lib.hid q0
  have HD : Hid (of12B l ks sl R c P T = (decide (l.length ≤ 64) && Sg.rightB l && fewB ks sl.length && storeB l ks sl && few12B R c P T && rightG R ks c P T && allV ks c.V.length)) := rfl
  have C2 : Hid (∀ U, Q w U → Calls Tryz.prog 32 #[.slice L l.length cl] U fun e w' => e = .returned (.bool (Sg.rightB l)) ∧ Q U w') := fun U q => (Sg.refRight_any _ _ _ l U rfl ((hr.q (Nat.le_refl _) q).more q.size) hll hsz).mono (by rintro e w' ⟨rfl, rfl⟩; exact ⟨rfl, Q.refl _⟩)
  have C3 : Hid (∀ U, Q w U → Calls Tryz.prog 33 #[.agg #[.slice A ks.length ca, .slice S sl.length d]] U fun e w' => e = .returned (.bool (fewB ks sl.length)) ∧ Q U w') := fun U q => refFew_any _ _ _ _ _ _ ks U rfl ((hk.q (Nat.le_refl _) q).more q.size) hl hs hsl
  have C4 : Hid (fewB ks sl.length = true → ∀ U, Q w U → Calls Tryz.prog 34 #[.slice L l.length cl, .agg #[.slice A ks.length ca, .slice S sl.length d]] U fun e w' => e = .returned (.bool (storeB l ks sl)) ∧ Q U w') := fun hf U q => by
    have hsum := few_sum hf
    exact refRight3_any _ _ _ _ _ _ _ _ _ l ks sl U rfl ((hr.q (Nat.le_refl _) q).more q.size) rfl rfl ((hk.q (Nat.le_refl _) q).more q.size) ((hS.q (Nat.le_refl _) q).more q.size) (fun k hk => by have := mem_len hk; unfold maxLen; omega) (by omega) (by unfold maxLen; omega)
  have C5 : Hid (∀ U, Q w U → Calls Tryz.prog 35 #[.agg #[.slice F R.length cr, .slice Av c.V.length k1, .slice D c.N.length k2, .slice E c.M.length k3, .slice Pa P.length kp, .slice Ta T.length kt]] U fun e w' => e = .returned (.bool (few12B R c P T)) ∧ Q U w') := fun U q => refFew12_any R c P T F Av D E Pa Ta _ cr _ k1 _ k2 _ k3 _ kp _ kt U rfl rfl rfl rfl rfl rfl ((hP.q (Nat.le_refl _) q).more q.size) ((hT.q (Nat.le_refl _) q).more q.size) lR lV lN lM lP lT sP sT
  have C6 : Hid (few12B R c P T = true → ∀ U, Q w U → Calls Tryz.prog 15 #[.agg #[.slice A ks.length ca, .slice S sl.length d], .agg #[.slice F R.length cr, .slice Av c.V.length k1, .slice D c.N.length k2, .slice E c.M.length k3, .slice Pa P.length kp, .slice Ta T.length kt]] U fun e w' => e = .returned (.bool (rightG R ks c P T)) ∧ Q U w') := fun hf U q => by
    obtain ⟨f1, f2, f3, f4, f5, f6⟩ := few12_ok hf
    exact refRightG_any R c A S F Av D E Pa Ta _ ca _ d _ cr _ k1 _ k2 _ k3 _ kp _ kt ks P T U rfl ((hk.q (Nat.le_refl _) q).more q.size) rfl (hR.q q) rfl rfl rfl (h.q q) ⟨by have := f2.1; omega, by have := f2.2.1; omega, by have := f2.2.2; omega⟩ rfl ((hP.q (Nat.le_refl _) q).more q.size) rfl ((hT.q (Nat.le_refl _) q).more q.size) (fun x hx => Nat.le_trans (f5 x hx) (by omega)) (fun x hx => Nat.le_trans (f6 x hx) (by omega))
  have C7 : Hid (fewB ks sl.length = true → few12B R c P T = true → ∀ U, Q w U → Calls Tryz.prog 36 #[.agg #[.slice A ks.length ca, .slice S sl.length d], .agg #[.slice F R.length cr, .slice Av c.V.length k1, .slice D c.N.length k2, .slice E c.M.length k3, .slice Pa P.length kp, .slice Ta T.length kt]] U fun e w' => e = .returned (.bool (allV ks c.V.length)) ∧ Q U w') := fun hf hg U q => by
    have hsum := few_sum hf
    obtain ⟨f1, f2, _⟩ := few12_ok hg
    exact refAllV_any A S Av _ ca _ d _ k1 (.slice F R.length cr) (.slice D c.N.length k2) (.slice E c.M.length k3) (.slice Pa P.length kp) (.slice Ta T.length kt) ks U rfl ((hk.q (Nat.le_refl _) q).more q.size) (by unfold maxLen; omega) (fun k hk => by have := mem_len hk; unfold maxLen; omega) (by have := f2.1; omega)
  clear X q0 hr hk hS hll hsz hl hs hsl hR h hP hT lR lV lN lM lP lT sP sT
  cases h0 : decide (l.length ≤ 64)
  · have HR : Hid (of12B l ks sl R c P T = false) := by unfold Hid; rw [HD.out]; simp [h0]
    have CC2 := Lib.hid (C2.out)
    have d64 : decide ((l.length : Int) ≤ 64) = false := decide_eq_false (by have := of_decide_eq_false h0; omega)
    clear CC2 C2 C3 C4 C5 C6 C7 h0 
    go_enter Tryz.func9, Tryz.ntmps9
    go_upto_region 1 with fail
    generalize (w.alloc (Obj.cells #[.slice A ks.length ca, .slice S sl.length d] 26)).alloc (Obj.cells #[.slice F R.length cr, .slice Av c.V.length k1, .slice D c.N.length k2, .slice E c.M.length k3, .slice Pa P.length kp, .slice Ta T.length kt] 31) = W0 at *
    have ALL : Hid (∀ U, Q W0 U → U.cell? ⟨w.heap.size, 0, none⟩ = some (.slice A ks.length ca) ∧ U.cell? ⟨w.heap.size, 1, none⟩ = some (.slice S sl.length d) ∧ U.cell? ⟨w.heap.size + 1, 0, none⟩ = some (.slice F R.length cr) ∧ U.cell? ⟨w.heap.size + 1, 1, none⟩ = some (.slice Av c.V.length k1) ∧ U.cell? ⟨w.heap.size + 1, 2, none⟩ = some (.slice D c.N.length k2) ∧ U.cell? ⟨w.heap.size + 1, 3, none⟩ = some (.slice E c.M.length k3) ∧ U.cell? ⟨w.heap.size + 1, 4, none⟩ = some (.slice Pa P.length kp) ∧ U.cell? ⟨w.heap.size + 1, 5, none⟩ = some (.slice Ta T.length kt)) := fun U q => by
      have h1 := HBa.out.q q
      have h2 := HBg.out.q q
      exact ⟨h1.c0, h1.c1, h2.c0, h2.c1, h2.c2, h2.c3, h2.c4, h2.c5⟩
    obtain ⟨s0, s1, s2, s3, s4, s5, s6, s7⟩ := ALL.out W0 (Q.refl _)
    have HQ1 : Hid (Q W0 W0) := Lib.hid (Q.refl _)
    go_wp2_with fail
    go_ret
    exact ⟨by rw [HR.out]; rfl, HQ0.out.trans HQ1.out⟩
  · cases h1 : Sg.rightB l
    · have HR : Hid (of12B l ks sl R c P T = false) := by unfold Hid; rw [HD.out]; simp [h0, h1]
      have CC2 := Lib.hid (C2.out)
      have D1 := Lib.hid C2.out
      unfold Hid at D1
      rw [h1] at D1
      have E1 := Lib.hid D1
      have d64 : decide ((l.length : Int) ≤ 64) = true := decide_eq_true (by have := of_decide_eq_true h0; omega)
      clear CC2 C2 C3 C4 C5 C6 C7 h0 h1 D1
      go_enter Tryz.func9, Tryz.ntmps9
      go_upto_region 1 with fail
      generalize (w.alloc (Obj.cells #[.slice A ks.length ca, .slice S sl.length d] 26)).alloc (Obj.cells #[.slice F R.length cr, .slice Av c.V.length k1, .slice D c.N.length k2, .slice E c.M.length k3, .slice Pa P.length kp, .slice Ta T.length kt] 31) = W0 at *
      have ALL : Hid (∀ U, Q W0 U → U.cell? ⟨w.heap.size, 0, none⟩ = some (.slice A ks.length ca) ∧ U.cell? ⟨w.heap.size, 1, none⟩ = some (.slice S sl.length d) ∧ U.cell? ⟨w.heap.size + 1, 0, none⟩ = some (.slice F R.length cr) ∧ U.cell? ⟨w.heap.size + 1, 1, none⟩ = some (.slice Av c.V.length k1) ∧ U.cell? ⟨w.heap.size + 1, 2, none⟩ = some (.slice D c.N.length k2) ∧ U.cell? ⟨w.heap.size + 1, 3, none⟩ = some (.slice E c.M.length k3) ∧ U.cell? ⟨w.heap.size + 1, 4, none⟩ = some (.slice Pa P.length kp) ∧ U.cell? ⟨w.heap.size + 1, 5, none⟩ = some (.slice Ta T.length kt)) := fun U q => by
        have h1 := HBa.out.q q
        have h2 := HBg.out.q q
        exact ⟨h1.c0, h1.c1, h2.c0, h2.c1, h2.c2, h2.c3, h2.c4, h2.c5⟩
      obtain ⟨s0, s1, s2, s3, s4, s5, s6, s7⟩ := ALL.out W0 (Q.refl _)
      have HQ1 : Hid (Q W0 W0) := Lib.hid (Q.refl _)
      go_wp2_with (first
        | (go_at_call 32; refine (E1.out W0 (HQ0.out.trans HQ1.out)).mono ?_; rintro e w2 ⟨rfl, q1⟩; have HQ2 := Lib.hid (HQ1.out.trans q1); clear s0 s1 s2 s3 s4 s5 s6 s7 q1; obtain ⟨s0, s1, s2, s3, s4, s5, s6, s7⟩ := ALL.out w2 HQ2.out)
        | fail)
      go_ret
      exact ⟨by rw [HR.out]; rfl, HQ0.out.trans HQ2.out⟩
    · cases h2 : fewB ks sl.length
      · have HR : Hid (of12B l ks sl R c P T = false) := by unfold Hid; rw [HD.out]; simp [h0, h1, h2]
        have CC2 := Lib.hid (C2.out)
        have D1 := Lib.hid C2.out
        unfold Hid at D1
        rw [h1] at D1
        have E1 := Lib.hid D1
        have D2 := Lib.hid C3.out
        unfold Hid at D2
        rw [h2] at D2
        have E2 := Lib.hid D2
        have d64 : decide ((l.length : Int) ≤ 64) = true := decide_eq_true (by have := of_decide_eq_true h0; omega)
        clear CC2 C2 C3 C4 C5 C6 C7 h0 h1 h2 D1 D2
        go_enter Tryz.func9, Tryz.ntmps9
        go_upto_region 1 with fail
        generalize (w.alloc (Obj.cells #[.slice A ks.length ca, .slice S sl.length d] 26)).alloc (Obj.cells #[.slice F R.length cr, .slice Av c.V.length k1, .slice D c.N.length k2, .slice E c.M.length k3, .slice Pa P.length kp, .slice Ta T.length kt] 31) = W0 at *
        have ALL : Hid (∀ U, Q W0 U → U.cell? ⟨w.heap.size, 0, none⟩ = some (.slice A ks.length ca) ∧ U.cell? ⟨w.heap.size, 1, none⟩ = some (.slice S sl.length d) ∧ U.cell? ⟨w.heap.size + 1, 0, none⟩ = some (.slice F R.length cr) ∧ U.cell? ⟨w.heap.size + 1, 1, none⟩ = some (.slice Av c.V.length k1) ∧ U.cell? ⟨w.heap.size + 1, 2, none⟩ = some (.slice D c.N.length k2) ∧ U.cell? ⟨w.heap.size + 1, 3, none⟩ = some (.slice E c.M.length k3) ∧ U.cell? ⟨w.heap.size + 1, 4, none⟩ = some (.slice Pa P.length kp) ∧ U.cell? ⟨w.heap.size + 1, 5, none⟩ = some (.slice Ta T.length kt)) := fun U q => by
          have h1 := HBa.out.q q
          have h2 := HBg.out.q q
          exact ⟨h1.c0, h1.c1, h2.c0, h2.c1, h2.c2, h2.c3, h2.c4, h2.c5⟩
        obtain ⟨s0, s1, s2, s3, s4, s5, s6, s7⟩ := ALL.out W0 (Q.refl _)
        have HQ1 : Hid (Q W0 W0) := Lib.hid (Q.refl _)
        go_wp2_with (first
          | (go_at_call 32; refine (E1.out W0 (HQ0.out.trans HQ1.out)).mono ?_; rintro e w2 ⟨rfl, q1⟩; have HQ2 := Lib.hid (HQ1.out.trans q1); clear s0 s1 s2 s3 s4 s5 s6 s7 q1; obtain ⟨s0, s1, s2, s3, s4, s5, s6, s7⟩ := ALL.out w2 HQ2.out)
          | (go_at_call 33; refine (E2.out w2 (HQ0.out.trans HQ2.out)).mono ?_; rintro e w3 ⟨rfl, q2⟩; have HQ3 := Lib.hid (HQ2.out.trans q2); clear s0 s1 s2 s3 s4 s5 s6 s7 q2; obtain ⟨s0, s1, s2, s3, s4, s5, s6, s7⟩ := ALL.out w3 HQ3.out)
          | fail)
        go_ret
        exact ⟨by rw [HR.out]; rfl, HQ0.out.trans HQ3.out⟩
      · cases h3 : storeB l ks sl
        · have HR : Hid (of12B l ks sl R c P T = false) := by unfold Hid; rw [HD.out]; simp [h0, h1, h2, h3]
          have CC2 := Lib.hid (C2.out)
          have D1 := Lib.hid C2.out
          unfold Hid at D1
          rw [h1] at D1
          have E1 := Lib.hid D1
          have D2 := Lib.hid C3.out
          unfold Hid at D2
          rw [h2] at D2
          have E2 := Lib.hid D2
          have D3 := Lib.hid (C4.out h2)
          unfold Hid at D3
          rw [h3] at D3
          have E3 := Lib.hid D3
          have d64 : decide ((l.length : Int) ≤ 64) = true := decide_eq_true (by have := of_decide_eq_true h0; omega)
          clear CC2 C2 C3 C4 C5 C6 C7 h0 h1 h2 h3 D1 D2 D3
          go_enter Tryz.func9, Tryz.ntmps9
          go_upto_region 1 with fail
          generalize (w.alloc (Obj.cells #[.slice A ks.length ca, .slice S sl.length d] 26)).alloc (Obj.cells #[.slice F R.length cr, .slice Av c.V.length k1, .slice D c.N.length k2, .slice E c.M.length k3, .slice Pa P.length kp, .slice Ta T.length kt] 31) = W0 at *
          have ALL : Hid (∀ U, Q W0 U → U.cell? ⟨w.heap.size, 0, none⟩ = some (.slice A ks.length ca) ∧ U.cell? ⟨w.heap.size, 1, none⟩ = some (.slice S sl.length d) ∧ U.cell? ⟨w.heap.size + 1, 0, none⟩ = some (.slice F R.length cr) ∧ U.cell? ⟨w.heap.size + 1, 1, none⟩ = some (.slice Av c.V.length k1) ∧ U.cell? ⟨w.heap.size + 1, 2, none⟩ = some (.slice D c.N.length k2) ∧ U.cell? ⟨w.heap.size + 1, 3, none⟩ = some (.slice E c.M.length k3) ∧ U.cell? ⟨w.heap.size + 1, 4, none⟩ = some (.slice Pa P.length kp) ∧ U.cell? ⟨w.heap.size + 1, 5, none⟩ = some (.slice Ta T.length kt)) := fun U q => by
            have h1 := HBa.out.q q
            have h2 := HBg.out.q q
            exact ⟨h1.c0, h1.c1, h2.c0, h2.c1, h2.c2, h2.c3, h2.c4, h2.c5⟩
          obtain ⟨s0, s1, s2, s3, s4, s5, s6, s7⟩ := ALL.out W0 (Q.refl _)
          have HQ1 : Hid (Q W0 W0) := Lib.hid (Q.refl _)
          go_wp2_with (first
            | (go_at_call 32; refine (E1.out W0 (HQ0.out.trans HQ1.out)).mono ?_; rintro e w2 ⟨rfl, q1⟩; have HQ2 := Lib.hid (HQ1.out.trans q1); clear s0 s1 s2 s3 s4 s5 s6 s7 q1; obtain ⟨s0, s1, s2, s3, s4, s5, s6, s7⟩ := ALL.out w2 HQ2.out)
            | (go_at_call 33; refine (E2.out w2 (HQ0.out.trans HQ2.out)).mono ?_; rintro e w3 ⟨rfl, q2⟩; have HQ3 := Lib.hid (HQ2.out.trans q2); clear s0 s1 s2 s3 s4 s5 s6 s7 q2; obtain ⟨s0, s1, s2, s3, s4, s5, s6, s7⟩ := ALL.out w3 HQ3.out)
            | (go_at_call 34; refine (E3.out w3 (HQ0.out.trans HQ3.out)).mono ?_; rintro e w4 ⟨rfl, q3⟩; have HQ4 := Lib.hid (HQ3.out.trans q3); clear s0 s1 s2 s3 s4 s5 s6 s7 q3; obtain ⟨s0, s1, s2, s3, s4, s5, s6, s7⟩ := ALL.out w4 HQ4.out)
            | fail)
          go_ret
          exact ⟨by rw [HR.out]; rfl, HQ0.out.trans HQ4.out⟩
        · cases h4 : few12B R c P T
          · have HR : Hid (of12B l ks sl R c P T = false) := by unfold Hid; rw [HD.out]; simp [h0, h1, h2, h3, h4]
            have CC2 := Lib.hid (C2.out)
            have D1 := Lib.hid C2.out
            unfold Hid at D1
            rw [h1] at D1
            have E1 := Lib.hid D1
            have D2 := Lib.hid C3.out
            unfold Hid at D2
            rw [h2] at D2
            have E2 := Lib.hid D2
            have D3 := Lib.hid (C4.out h2)
            unfold Hid at D3
            rw [h3] at D3
            have E3 := Lib.hid D3
            have D4 := Lib.hid C5.out
            unfold Hid at D4
            rw [h4] at D4
            have E4 := Lib.hid D4
            have d64 : decide ((l.length : Int) ≤ 64) = true := decide_eq_true (by have := of_decide_eq_true h0; omega)
            clear CC2 C2 C3 C4 C5 C6 C7 h0 h1 h2 h3 h4 D1 D2 D3 D4
            go_enter Tryz.func9, Tryz.ntmps9
            go_upto_region 1 with fail
            generalize (w.alloc (Obj.cells #[.slice A ks.length ca, .slice S sl.length d] 26)).alloc (Obj.cells #[.slice F R.length cr, .slice Av c.V.length k1, .slice D c.N.length k2, .slice E c.M.length k3, .slice Pa P.length kp, .slice Ta T.length kt] 31) = W0 at *
            have ALL : Hid (∀ U, Q W0 U → U.cell? ⟨w.heap.size, 0, none⟩ = some (.slice A ks.length ca) ∧ U.cell? ⟨w.heap.size, 1, none⟩ = some (.slice S sl.length d) ∧ U.cell? ⟨w.heap.size + 1, 0, none⟩ = some (.slice F R.length cr) ∧ U.cell? ⟨w.heap.size + 1, 1, none⟩ = some (.slice Av c.V.length k1) ∧ U.cell? ⟨w.heap.size + 1, 2, none⟩ = some (.slice D c.N.length k2) ∧ U.cell? ⟨w.heap.size + 1, 3, none⟩ = some (.slice E c.M.length k3) ∧ U.cell? ⟨w.heap.size + 1, 4, none⟩ = some (.slice Pa P.length kp) ∧ U.cell? ⟨w.heap.size + 1, 5, none⟩ = some (.slice Ta T.length kt)) := fun U q => by
              have h1 := HBa.out.q q
              have h2 := HBg.out.q q
              exact ⟨h1.c0, h1.c1, h2.c0, h2.c1, h2.c2, h2.c3, h2.c4, h2.c5⟩
            obtain ⟨s0, s1, s2, s3, s4, s5, s6, s7⟩ := ALL.out W0 (Q.refl _)
            have HQ1 : Hid (Q W0 W0) := Lib.hid (Q.refl _)
            go_wp2_with (first
              | (go_at_call 32; refine (E1.out W0 (HQ0.out.trans HQ1.out)).mono ?_; rintro e w2 ⟨rfl, q1⟩; have HQ2 := Lib.hid (HQ1.out.trans q1); clear s0 s1 s2 s3 s4 s5 s6 s7 q1; obtain ⟨s0, s1, s2, s3, s4, s5, s6, s7⟩ := ALL.out w2 HQ2.out)
              | (go_at_call 33; refine (E2.out w2 (HQ0.out.trans HQ2.out)).mono ?_; rintro e w3 ⟨rfl, q2⟩; have HQ3 := Lib.hid (HQ2.out.trans q2); clear s0 s1 s2 s3 s4 s5 s6 s7 q2; obtain ⟨s0, s1, s2, s3, s4, s5, s6, s7⟩ := ALL.out w3 HQ3.out)
              | (go_at_call 34; refine (E3.out w3 (HQ0.out.trans HQ3.out)).mono ?_; rintro e w4 ⟨rfl, q3⟩; have HQ4 := Lib.hid (HQ3.out.trans q3); clear s0 s1 s2 s3 s4 s5 s6 s7 q3; obtain ⟨s0, s1, s2, s3, s4, s5, s6, s7⟩ := ALL.out w4 HQ4.out)
              | (go_at_call 35; refine (E4.out w4 (HQ0.out.trans HQ4.out)).mono ?_; rintro e w5 ⟨rfl, q4⟩; have HQ5 := Lib.hid (HQ4.out.trans q4); clear s0 s1 s2 s3 s4 s5 s6 s7 q4; obtain ⟨s0, s1, s2, s3, s4, s5, s6, s7⟩ := ALL.out w5 HQ5.out)
              | fail)
            go_ret
            exact ⟨by rw [HR.out]; rfl, HQ0.out.trans HQ5.out⟩
          · cases h5 : rightG R ks c P T
            · have HR : Hid (of12B l ks sl R c P T = false) := by unfold Hid; rw [HD.out]; simp [h0, h1, h2, h3, h4, h5]
              have CC2 := Lib.hid (C2.out)
              have D1 := Lib.hid C2.out
              unfold Hid at D1
              rw [h1] at D1
              have E1 := Lib.hid D1
              have D2 := Lib.hid C3.out
              unfold Hid at D2
              rw [h2] at D2
              have E2 := Lib.hid D2
              have D3 := Lib.hid (C4.out h2)
              unfold Hid at D3
              rw [h3] at D3
              have E3 := Lib.hid D3
              have D4 := Lib.hid C5.out
              unfold Hid at D4
              rw [h4] at D4
              have E4 := Lib.hid D4
              have D5 := Lib.hid (C6.out h4)
              unfold Hid at D5
              rw [h5] at D5
              have E5 := Lib.hid D5
              have d64 : decide ((l.length : Int) ≤ 64) = true := decide_eq_true (by have := of_decide_eq_true h0; omega)
              clear CC2 C2 C3 C4 C5 C6 C7 h0 h1 h2 h3 h4 h5 D1 D2 D3 D4 D5
              go_enter Tryz.func9, Tryz.ntmps9
              go_upto_region 1 with fail
              generalize (w.alloc (Obj.cells #[.slice A ks.length ca, .slice S sl.length d] 26)).alloc (Obj.cells #[.slice F R.length cr, .slice Av c.V.length k1, .slice D c.N.length k2, .slice E c.M.length k3, .slice Pa P.length kp, .slice Ta T.length kt] 31) = W0 at *
              have ALL : Hid (∀ U, Q W0 U → U.cell? ⟨w.heap.size, 0, none⟩ = some (.slice A ks.length ca) ∧ U.cell? ⟨w.heap.size, 1, none⟩ = some (.slice S sl.length d) ∧ U.cell? ⟨w.heap.size + 1, 0, none⟩ = some (.slice F R.length cr) ∧ U.cell? ⟨w.heap.size + 1, 1, none⟩ = some (.slice Av c.V.length k1) ∧ U.cell? ⟨w.heap.size + 1, 2, none⟩ = some (.slice D c.N.length k2) ∧ U.cell? ⟨w.heap.size + 1, 3, none⟩ = some (.slice E c.M.length k3) ∧ U.cell? ⟨w.heap.size + 1, 4, none⟩ = some (.slice Pa P.length kp) ∧ U.cell? ⟨w.heap.size + 1, 5, none⟩ = some (.slice Ta T.length kt)) := fun U q => by
                have h1 := HBa.out.q q
                have h2 := HBg.out.q q
                exact ⟨h1.c0, h1.c1, h2.c0, h2.c1, h2.c2, h2.c3, h2.c4, h2.c5⟩
              obtain ⟨s0, s1, s2, s3, s4, s5, s6, s7⟩ := ALL.out W0 (Q.refl _)
              have HQ1 : Hid (Q W0 W0) := Lib.hid (Q.refl _)
              go_wp2_with (first
                | (go_at_call 32; refine (E1.out W0 (HQ0.out.trans HQ1.out)).mono ?_; rintro e w2 ⟨rfl, q1⟩; have HQ2 := Lib.hid (HQ1.out.trans q1); clear s0 s1 s2 s3 s4 s5 s6 s7 q1; obtain ⟨s0, s1, s2, s3, s4, s5, s6, s7⟩ := ALL.out w2 HQ2.out)
                | (go_at_call 33; refine (E2.out w2 (HQ0.out.trans HQ2.out)).mono ?_; rintro e w3 ⟨rfl, q2⟩; have HQ3 := Lib.hid (HQ2.out.trans q2); clear s0 s1 s2 s3 s4 s5 s6 s7 q2; obtain ⟨s0, s1, s2, s3, s4, s5, s6, s7⟩ := ALL.out w3 HQ3.out)
                | (go_at_call 34; refine (E3.out w3 (HQ0.out.trans HQ3.out)).mono ?_; rintro e w4 ⟨rfl, q3⟩; have HQ4 := Lib.hid (HQ3.out.trans q3); clear s0 s1 s2 s3 s4 s5 s6 s7 q3; obtain ⟨s0, s1, s2, s3, s4, s5, s6, s7⟩ := ALL.out w4 HQ4.out)
                | (go_at_call 35; refine (E4.out w4 (HQ0.out.trans HQ4.out)).mono ?_; rintro e w5 ⟨rfl, q4⟩; have HQ5 := Lib.hid (HQ4.out.trans q4); clear s0 s1 s2 s3 s4 s5 s6 s7 q4; obtain ⟨s0, s1, s2, s3, s4, s5, s6, s7⟩ := ALL.out w5 HQ5.out)
                | (go_at_call 15; refine (E5.out w5 (HQ0.out.trans HQ5.out)).mono ?_; rintro e w6 ⟨rfl, q5⟩; have HQ6 := Lib.hid (HQ5.out.trans q5); clear s0 s1 s2 s3 s4 s5 s6 s7 q5; obtain ⟨s0, s1, s2, s3, s4, s5, s6, s7⟩ := ALL.out w6 HQ6.out)
                | fail)
              go_ret
              exact ⟨by rw [HR.out]; rfl, HQ0.out.trans HQ6.out⟩
            · cases h6 : allV ks c.V.length
              · have HR : Hid (of12B l ks sl R c P T = false) := by unfold Hid; rw [HD.out]; simp [h0, h1, h2, h3, h4, h5, h6]
                have CC2 := Lib.hid (C2.out)
                have D1 := Lib.hid C2.out
                unfold Hid at D1
                rw [h1] at D1
                have E1 := Lib.hid D1
                have D2 := Lib.hid C3.out
                unfold Hid at D2
                rw [h2] at D2
                have E2 := Lib.hid D2
                have D3 := Lib.hid (C4.out h2)
                unfold Hid at D3
                rw [h3] at D3
                have E3 := Lib.hid D3
                have D4 := Lib.hid C5.out
                unfold Hid at D4
                rw [h4] at D4
                have E4 := Lib.hid D4
                have D5 := Lib.hid (C6.out h4)
                unfold Hid at D5
                rw [h5] at D5
                have E5 := Lib.hid D5
                have D6 := Lib.hid (C7.out h2 h4)
                unfold Hid at D6
                rw [h6] at D6
                have E6 := Lib.hid D6
                have d64 : decide ((l.length : Int) ≤ 64) = true := decide_eq_true (by have := of_decide_eq_true h0; omega)
                clear CC2 C2 C3 C4 C5 C6 C7 h0 h1 h2 h3 h4 h5 h6 D1 D2 D3 D4 D5 D6
                go_enter Tryz.func9, Tryz.ntmps9
                go_upto_region 1 with fail
                generalize (w.alloc (Obj.cells #[.slice A ks.length ca, .slice S sl.length d] 26)).alloc (Obj.cells #[.slice F R.length cr, .slice Av c.V.length k1, .slice D c.N.length k2, .slice E c.M.length k3, .slice Pa P.length kp, .slice Ta T.length kt] 31) = W0 at *
                have ALL : Hid (∀ U, Q W0 U → U.cell? ⟨w.heap.size, 0, none⟩ = some (.slice A ks.length ca) ∧ U.cell? ⟨w.heap.size, 1, none⟩ = some (.slice S sl.length d) ∧ U.cell? ⟨w.heap.size + 1, 0, none⟩ = some (.slice F R.length cr) ∧ U.cell? ⟨w.heap.size + 1, 1, none⟩ = some (.slice Av c.V.length k1) ∧ U.cell? ⟨w.heap.size + 1, 2, none⟩ = some (.slice D c.N.length k2) ∧ U.cell? ⟨w.heap.size + 1, 3, none⟩ = some (.slice E c.M.length k3) ∧ U.cell? ⟨w.heap.size + 1, 4, none⟩ = some (.slice Pa P.length kp) ∧ U.cell? ⟨w.heap.size + 1, 5, none⟩ = some (.slice Ta T.length kt)) := fun U q => by
                  have h1 := HBa.out.q q
                  have h2 := HBg.out.q q
                  exact ⟨h1.c0, h1.c1, h2.c0, h2.c1, h2.c2, h2.c3, h2.c4, h2.c5⟩
                obtain ⟨s0, s1, s2, s3, s4, s5, s6, s7⟩ := ALL.out W0 (Q.refl _)
                have HQ1 : Hid (Q W0 W0) := Lib.hid (Q.refl _)
                go_wp2_with (first
                  | (go_at_call 32; refine (E1.out W0 (HQ0.out.trans HQ1.out)).mono ?_; rintro e w2 ⟨rfl, q1⟩; have HQ2 := Lib.hid (HQ1.out.trans q1); clear s0 s1 s2 s3 s4 s5 s6 s7 q1; obtain ⟨s0, s1, s2, s3, s4, s5, s6, s7⟩ := ALL.out w2 HQ2.out)
                  | (go_at_call 33; refine (E2.out w2 (HQ0.out.trans HQ2.out)).mono ?_; rintro e w3 ⟨rfl, q2⟩; have HQ3 := Lib.hid (HQ2.out.trans q2); clear s0 s1 s2 s3 s4 s5 s6 s7 q2; obtain ⟨s0, s1, s2, s3, s4, s5, s6, s7⟩ := ALL.out w3 HQ3.out)
                  | (go_at_call 34; refine (E3.out w3 (HQ0.out.trans HQ3.out)).mono ?_; rintro e w4 ⟨rfl, q3⟩; have HQ4 := Lib.hid (HQ3.out.trans q3); clear s0 s1 s2 s3 s4 s5 s6 s7 q3; obtain ⟨s0, s1, s2, s3, s4, s5, s6, s7⟩ := ALL.out w4 HQ4.out)
                  | (go_at_call 35; refine (E4.out w4 (HQ0.out.trans HQ4.out)).mono ?_; rintro e w5 ⟨rfl, q4⟩; have HQ5 := Lib.hid (HQ4.out.trans q4); clear s0 s1 s2 s3 s4 s5 s6 s7 q4; obtain ⟨s0, s1, s2, s3, s4, s5, s6, s7⟩ := ALL.out w5 HQ5.out)
                  | (go_at_call 15; refine (E5.out w5 (HQ0.out.trans HQ5.out)).mono ?_; rintro e w6 ⟨rfl, q5⟩; have HQ6 := Lib.hid (HQ5.out.trans q5); clear s0 s1 s2 s3 s4 s5 s6 s7 q5; obtain ⟨s0, s1, s2, s3, s4, s5, s6, s7⟩ := ALL.out w6 HQ6.out)
                  | (go_at_call 36; refine (E6.out w6 (HQ0.out.trans HQ6.out)).mono ?_; rintro e w7 ⟨rfl, q6⟩; have HQ7 := Lib.hid (HQ6.out.trans q6); clear s0 s1 s2 s3 s4 s5 s6 s7 q6; obtain ⟨s0, s1, s2, s3, s4, s5, s6, s7⟩ := ALL.out w7 HQ7.out)
                  | fail)
                go_ret
                exact ⟨by rw [HR.out]; rfl, HQ0.out.trans HQ7.out⟩
              · have HR : Hid (of12B l ks sl R c P T = true) := by unfold Hid; rw [HD.out]; simp [h0, h1, h2, h3, h4, h5, h6]
                have CC2 := Lib.hid (C2.out)
                have D1 := Lib.hid C2.out
                unfold Hid at D1
                rw [h1] at D1
                have E1 := Lib.hid D1
                have D2 := Lib.hid C3.out
                unfold Hid at D2
                rw [h2] at D2
                have E2 := Lib.hid D2
                have D3 := Lib.hid (C4.out h2)
                unfold Hid at D3
                rw [h3] at D3
                have E3 := Lib.hid D3
                have D4 := Lib.hid C5.out
                unfold Hid at D4
                rw [h4] at D4
                have E4 := Lib.hid D4
                have D5 := Lib.hid (C6.out h4)
                unfold Hid at D5
                rw [h5] at D5
                have E5 := Lib.hid D5
                have D6 := Lib.hid (C7.out h2 h4)
                unfold Hid at D6
                rw [h6] at D6
                have E6 := Lib.hid D6
                have d64 : decide ((l.length : Int) ≤ 64) = true := decide_eq_true (by have := of_decide_eq_true h0; omega)
                clear CC2 C2 C3 C4 C5 C6 C7 h0 h1 h2 h3 h4 h5 h6 D1 D2 D3 D4 D5 D6
                go_enter Tryz.func9, Tryz.ntmps9
                go_upto_region 1 with fail
                generalize (w.alloc (Obj.cells #[.slice A ks.length ca, .slice S sl.length d] 26)).alloc (Obj.cells #[.slice F R.length cr, .slice Av c.V.length k1, .slice D c.N.length k2, .slice E c.M.length k3, .slice Pa P.length kp, .slice Ta T.length kt] 31) = W0 at *
                have ALL : Hid (∀ U, Q W0 U → U.cell? ⟨w.heap.size, 0, none⟩ = some (.slice A ks.length ca) ∧ U.cell? ⟨w.heap.size, 1, none⟩ = some (.slice S sl.length d) ∧ U.cell? ⟨w.heap.size + 1, 0, none⟩ = some (.slice F R.length cr) ∧ U.cell? ⟨w.heap.size + 1, 1, none⟩ = some (.slice Av c.V.length k1) ∧ U.cell? ⟨w.heap.size + 1, 2, none⟩ = some (.slice D c.N.length k2) ∧ U.cell? ⟨w.heap.size + 1, 3, none⟩ = some (.slice E c.M.length k3) ∧ U.cell? ⟨w.heap.size + 1, 4, none⟩ = some (.slice Pa P.length kp) ∧ U.cell? ⟨w.heap.size + 1, 5, none⟩ = some (.slice Ta T.length kt)) := fun U q => by
                  have h1 := HBa.out.q q
                  have h2 := HBg.out.q q
                  exact ⟨h1.c0, h1.c1, h2.c0, h2.c1, h2.c2, h2.c3, h2.c4, h2.c5⟩
                obtain ⟨s0, s1, s2, s3, s4, s5, s6, s7⟩ := ALL.out W0 (Q.refl _)
                have HQ1 : Hid (Q W0 W0) := Lib.hid (Q.refl _)
                go_wp2_with (first
                  | (go_at_call 32; refine (E1.out W0 (HQ0.out.trans HQ1.out)).mono ?_; rintro e w2 ⟨rfl, q1⟩; have HQ2 := Lib.hid (HQ1.out.trans q1); clear s0 s1 s2 s3 s4 s5 s6 s7 q1; obtain ⟨s0, s1, s2, s3, s4, s5, s6, s7⟩ := ALL.out w2 HQ2.out)
                  | (go_at_call 33; refine (E2.out w2 (HQ0.out.trans HQ2.out)).mono ?_; rintro e w3 ⟨rfl, q2⟩; have HQ3 := Lib.hid (HQ2.out.trans q2); clear s0 s1 s2 s3 s4 s5 s6 s7 q2; obtain ⟨s0, s1, s2, s3, s4, s5, s6, s7⟩ := ALL.out w3 HQ3.out)
                  | (go_at_call 34; refine (E3.out w3 (HQ0.out.trans HQ3.out)).mono ?_; rintro e w4 ⟨rfl, q3⟩; have HQ4 := Lib.hid (HQ3.out.trans q3); clear s0 s1 s2 s3 s4 s5 s6 s7 q3; obtain ⟨s0, s1, s2, s3, s4, s5, s6, s7⟩ := ALL.out w4 HQ4.out)
                  | (go_at_call 35; refine (E4.out w4 (HQ0.out.trans HQ4.out)).mono ?_; rintro e w5 ⟨rfl, q4⟩; have HQ5 := Lib.hid (HQ4.out.trans q4); clear s0 s1 s2 s3 s4 s5 s6 s7 q4; obtain ⟨s0, s1, s2, s3, s4, s5, s6, s7⟩ := ALL.out w5 HQ5.out)
                  | (go_at_call 15; refine (E5.out w5 (HQ0.out.trans HQ5.out)).mono ?_; rintro e w6 ⟨rfl, q5⟩; have HQ6 := Lib.hid (HQ5.out.trans q5); clear s0 s1 s2 s3 s4 s5 s6 s7 q5; obtain ⟨s0, s1, s2, s3, s4, s5, s6, s7⟩ := ALL.out w6 HQ6.out)
                  | (go_at_call 36; refine (E6.out w6 (HQ0.out.trans HQ6.out)).mono ?_; rintro e w7 ⟨rfl, q6⟩; have HQ7 := Lib.hid (HQ6.out.trans q6); clear s0 s1 s2 s3 s4 s5 s6 s7 q6; obtain ⟨s0, s1, s2, s3, s4, s5, s6, s7⟩ := ALL.out w7 HQ7.out)
                  | fail)
                go_ret
                exact ⟨by rw [HR.out]; rfl, HQ0.out.trans HQ7.out⟩
theorem of12_ok {L : List Sg.Sig} {ks : List (List Int)} {sl R : List Int} {c : Cells} {P T : List (List Int)} (h : of12B L ks sl R c P T = true) : (Sg.rightB L = true ∧ fewB ks sl.length = true ∧ storeB L ks sl = true) ∧ few12B R c P T = true ∧ rightG R ks c P T = true ∧ allV ks c.V.length = true := by
  unfold of12B at h
  simp only [Bool.and_eq_true] at h
  exact ⟨⟨h.1.1.1.1.1.2, h.1.1.1.1.2, h.1.1.1.2⟩, h.1.1.2, h.1.2, h.2⟩
end Go.Proofs.YtjmopbimleoidaaGreat.Ig
