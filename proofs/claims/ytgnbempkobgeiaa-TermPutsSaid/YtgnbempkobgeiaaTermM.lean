/-
  Contract of partsOfKinds: a map of the call's own, and what stands at each key.
-/
import Derived.Test.YtgnbempkobgeiaaTermD
import Derived.Maps.Own
import Derived.Maps.OwnOps
import Derived.Maps.OwnSet
namespace Go.Proofs.Ytgnbempkobgeiaa.Tm
open Go.RowKit Kit Hs Go.Maps

def isKindB (k : Int) : Bool := (k == 0) || (k == 1) || (k == 2) || (k == 4) || (k == 5) || (k == 6)
def partsN (k : Int) : Int := if k = 4 then 2 else if k = 5 then 2 else if k = 6 then 1 else 0
def Wf (k : Int) : Prop := -9223372036854775808 ≤ k ∧ k ≤ 9223372036854775807
theorem Wf.lit {k : Int} (h : Wf k) : (Lit.int .i64 k).wf = true := WalkArith.wf_i64 h

theorem lawI : Keyed Try.prog 3 := int_keyed Try.underlying3
theorem zeroI (w : World) : (zeroValue 3).run Try.prog w = .ok (.int .i64 0) w := by kernel_rfl
theorem wpList_insert_own {H : Type} {P : Program} (w : World) {ops : Array Oper} {rest : List Oper} {o : Oper} {a : Act} {Q : Exit → Act → World → Prop}
    (hg : o.guard = none) (m x v : Operand) (t : TypeId) (hop : o.op = Op.insert t m x v)
    (k e : TypeId) (K : Keyed P k) (ht : P.underlying t = some (.map k e)) (R : Value → Option (DataW H × List MemPlace)) (b n : Nat) (D : DataW H)
    (hm : a.eval m = .map (some b)) (hown : w.ownsMap P k R b n D) (hn : n < maxLen) (key val : Value) (kl : Lit) (hx : a.eval x = key) (hv : a.eval v = val) (hkey : keyOf P k key = some kl)
    (d : DataW H) (ps : List MemPlace) (hval : R val = some (d, ps))
    (hK : ∀ w', w'.ownsMap P k R b (n + 1) (D.put kl d) → w.grownBy w' (some b) → wpList P ops Q rest (a.put o.dst undef) w') :
    wpList P ops Q (o :: rest) a w := by
  refine wpList_plain hg fun K' hK' => ?_
  obtain ⟨w', hrun, r1, r2⟩ := hown.update K ht hn hkey hval
  unfold Oper.wp
  simp [execOp, hop, hm, hx, hv, hrun, Result.andThen]
  exact hK' _ _ (hK w' r1 r2)

def D6 : DataW Unit := ((((((.map [] : DataW Unit).put (.int .i64 0) (.lit (.int .i64 0))).put (.int .i64 1) (.lit (.int .i64 0))).put (.int .i64 2) (.lit (.int .i64 0))).put (.int .i64 4) (.lit (.int .i64 2))).put (.int .i64 5) (.lit (.int .i64 2))).put (.int .i64 6) (.lit (.int .i64 1))
theorem D6_eq : D6 = .map [(.int .i64 0, .lit (.int .i64 0)), (.int .i64 1, .lit (.int .i64 0)), (.int .i64 2, .lit (.int .i64 0)), (.int .i64 4, .lit (.int .i64 2)), (.int .i64 5, .lit (.int .i64 2)), (.int .i64 6, .lit (.int .i64 1))] := rfl
theorem D6_has (k : Int) : Maps.has D6 (.int .i64 k) = isKindB k := by
  rw [D6_eq, Maps.has_eq]
  rw [Bool.eq_iff_iff]
  simp [Lit.sameKey, isKindB]
  omega
theorem D6_at (k : Int) : D6.atKey (.int .i64 k) (.lit (.int .i64 0)) = .lit (.int .i64 (partsN k)) := by
  rw [D6_eq]
  unfold DataW.atKey partsN
  simp only [List.find?_cons, Lit.sameKey, true_and, List.find?_nil]
  by_cases h0 : 0 = k
  · subst h0; rfl
  by_cases h1 : 1 = k
  · subst h1; rfl
  by_cases h2 : 2 = k
  · subst h2; rfl
  by_cases h4 : 4 = k
  · subst h4; rfl
  by_cases h5 : 5 = k
  · subst h5; rfl
  by_cases h6 : 6 = k
  · subst h6; rfl
  have e4 : ¬ k = 4 := fun e => h4 e.symm
  have e5 : ¬ k = 5 := fun e => h5 e.symm
  have e6 : ¬ k = 6 := fun e => h6 e.symm
  simp [h0, h1, h2, h4, h5, h6, e4, e5, e6]

def PartsPost (w : World) (e : Ending) (w' : World) : Prop :=
  ∃ B, e = .returned (.map (some B)) ∧ Q w w' ∧ ∀ W, Q w' W → ∀ k, Wf k → (Instr.lookup 81 (.map (some B)) (.int .i64 k) true).run Try.prog W = .ok (.tuple #[.int .i64 (partsN k), .bool (isKindB k)]) W
theorem parts_close {w w' : World} {B n : Nat} (h : w'.ownsMap Try.prog 3 (plainElem Try.prog 3) B n D6) (q : Q w w') : PartsPost w (.returned (.map (some B))) w' := by
  refine ⟨B, rfl, q, fun W hW k hk => ?_⟩
  have hlt := h.lt
  obtain ⟨es, clock, hb, F, hs, hD⟩ := h
  have h' : W.ownsMap Try.prog 3 (plainElem Try.prog 3) B n D6 := ⟨es, clock, (hW.block B hlt).trans hb, F, hs, hD⟩
  obtain ⟨v, ps, hrun, hv⟩ := h'.look_ok lawI Try.underlying81 (zeroI W) (plainElem_int Try.underlying3 (by decide)) (keyOf_int_mk Try.underlying3 hk.lit)
  obtain ⟨c, rfl, hc, _⟩ := plainElem_int_inv Try.underlying3 hv
  rw [D6_at] at hc
  simp only [Prod.mk.injEq, DataW.lit.injEq, Lit.int.injEq, true_and] at hc
  rw [hrun, D6_has, hc.1]

set_option maxRecDepth 100000 in
set_option maxHeartbeats 1000000 in
theorem parts_any (w : World) : Calls Try.prog 60 #[] w (PartsPost w) := by
  have hmm := @run_makeMap Try.prog
  have o0 := World.ownsMap_made w Try.prog 3 (plainElem (H := Unit) Try.prog 3)
  have q0 := (Q.refl w).alloc (.map #[] 0)
  obtain ⟨w1, e1, o1, g1⟩ := o0.update (val := .int .i64 0) lawI Try.underlying81 (by unfold maxLen; omega) (keyOf_int_mk Try.underlying3 (a := 0) (by decide)) (plainElem_int Try.underlying3 (by decide))
  obtain ⟨w2, e2, o2, g2⟩ := o1.update (val := .int .i64 0) lawI Try.underlying81 (by unfold maxLen; omega) (keyOf_int_mk Try.underlying3 (a := 1) (by decide)) (plainElem_int Try.underlying3 (by decide))
  obtain ⟨w3, e3, o3, g3⟩ := o2.update (val := .int .i64 0) lawI Try.underlying81 (by unfold maxLen; omega) (keyOf_int_mk Try.underlying3 (a := 2) (by decide)) (plainElem_int Try.underlying3 (by decide))
  obtain ⟨w4, e4, o4, g4⟩ := o3.update (val := .int .i64 2) lawI Try.underlying81 (by unfold maxLen; omega) (keyOf_int_mk Try.underlying3 (a := 4) (by decide)) (plainElem_int Try.underlying3 (by decide))
  obtain ⟨w5, e5, o5, g5⟩ := o4.update (val := .int .i64 2) lawI Try.underlying81 (by unfold maxLen; omega) (keyOf_int_mk Try.underlying3 (a := 5) (by decide)) (plainElem_int Try.underlying3 (by decide))
  obtain ⟨w6, e6, o6, g6⟩ := o5.update (val := .int .i64 1) lawI Try.underlying81 (by unfold maxLen; omega) (keyOf_int_mk Try.underlying3 (a := 6) (by decide)) (plainElem_int Try.underlying3 (by decide))
  have q1 : Q w w1 := q0.grown g1 (by simp) (by intro b hb; cases hb; exact Nat.le_refl _)
  have q2 : Q w w2 := q1.grown g2 q1.size (by intro b hb; cases hb; exact Nat.le_refl _)
  have q3 : Q w w3 := q2.grown g3 q2.size (by intro b hb; cases hb; exact Nat.le_refl _)
  have q4 : Q w w4 := q3.grown g4 q3.size (by intro b hb; cases hb; exact Nat.le_refl _)
  have q5 : Q w w5 := q4.grown g5 q4.size (by intro b hb; cases hb; exact Nat.le_refl _)
  have q6 : Q w w6 := q5.grown g6 q5.size (by intro b hb; cases hb; exact Nat.le_refl _)
  have H6 := Lib.hid o6
  clear o0 o1 o2 o3 o4 o5 o6 g1 g2 g3 g4 g5 g6 q0 q1 q2 q3 q4 q5
  go_enter Try.func60, Try.ntmps60
  go_wp2_with fail
  go_ret
  exact parts_close H6.out q6
end Go.Proofs.Ytgnbempkobgeiaa.Tm
