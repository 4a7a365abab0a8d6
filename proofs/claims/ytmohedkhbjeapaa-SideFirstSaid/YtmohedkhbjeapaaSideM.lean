/-
  Contracts of package side: others (a map of the call's own), turn.
-/
import Derived.Test.YtmohedkhbjeapaaRef8J
import Derived.Maps.Own
import Derived.Maps.OwnOps
import Derived.Maps.OwnSet
namespace Go.Proofs.Ytmohedkhbjeapaa.Ex
open Go.RowKit Kit Rw Go.Maps

theorem lawB : Keyed Try.prog 5 := int_keyed Try.underlying5
theorem zeroB (w : World) : (zeroValue 5).run Try.prog w = .ok (.int .u8 0) w := by kernel_rfl
theorem wfB (b : UInt8) : (Lit.int .u8 (b.toNat : Int)).wf = true := WalkArith.wf_u8 (by have := b.toNat_lt; omega)
def D3 : DataW Unit := (((.map [] : DataW Unit).put (.int .u8 76) (.lit (.int .u8 82))).put (.int .u8 82) (.lit (.int .u8 76))).put (.int .u8 66) (.lit (.int .u8 66))
theorem D3_at {s : UInt8} (h : IsSide s) : D3.atKey (.int .u8 (s.toNat : Int)) (.lit (.int .u8 0)) = .lit (.int .u8 ((turnB s 45).toNat : Int)) := by
  rcases h with rfl | rfl | rfl <;> rfl
def OthersRead (B : Nat) (w' : World) : Prop := B < w'.heap.size ∧ ∀ W : World, W.heap[B]? = w'.heap[B]? → ∀ s : UInt8, IsSide s → (Instr.lookup 57 (.map (some B)) (.int .u8 (s.toNat : Int)) false).run Try.prog W = .ok (.int .u8 ((turnB s 45).toNat : Int)) W
theorem OthersRead.q {B : Nat} {w w' : World} (h : OthersRead B w) (q : Q w w') : OthersRead B w' := ⟨Nat.lt_of_lt_of_le h.1 q.size, fun W hW => h.2 W (hW.trans (q.block B h.1))⟩
theorem OthersRead.grown {B g : Nat} {w w' : World} (h : OthersRead B w) (gr : w.grownBy w' (some g)) (hne : B ≠ g) : OthersRead B w' :=
  ⟨Nat.lt_of_lt_of_le h.1 gr.size, fun W hW => h.2 W (hW.trans (gr.block B h.1 (fun e => hne (by injection e))))⟩
def OthersPost (w : World) (e : Ending) (w' : World) : Prop := ∃ B, e = .returned (.map (some B)) ∧ OthersRead B w' ∧ w.heap.size ≤ B ∧ Q w w'
theorem others_close {w w' : World} {B n : Nat} (h : w'.ownsMap Try.prog 5 (plainElem Try.prog 5) B n D3) (q : Q w w') (hB : w.heap.size ≤ B) : OthersPost w (.returned (.map (some B))) w' := by
  refine ⟨B, rfl, ⟨h.lt, fun W hW s hs => ?_⟩, hB, q⟩
  obtain ⟨es, clock, hb, F, hs', hD⟩ := h
  have h' : W.ownsMap Try.prog 5 (plainElem Try.prog 5) B n D3 := ⟨es, clock, hW.trans hb, F, hs', hD⟩
  obtain ⟨c, hrun, hc, _⟩ := h'.lookup_int lawB Try.underlying57 Try.underlying5 (zeroB W) (keyOf_int_mk Try.underlying5 (wfB s))
  rw [D3_at hs] at hc
  simp only [DataW.lit.injEq, Lit.int.injEq, true_and] at hc
  rw [hrun, hc]

set_option maxRecDepth 100000 in
set_option maxHeartbeats 1000000 in
theorem others_any (w : World) : Calls Try.prog 28 #[] w (OthersPost w) := by
  have hmm := @run_makeMap Try.prog
  have o0 := World.ownsMap_made w Try.prog 5 (plainElem (H := Unit) Try.prog 5)
  have q0 := (Q.refl w).alloc (.map #[] 0)
  obtain ⟨w1, e1, o1, g1⟩ := o0.update (val := .int .u8 82) lawB Try.underlying57 (by unfold maxLen; omega) (keyOf_int_mk Try.underlying5 (a := 76) (by decide)) (plainElem_int Try.underlying5 (by decide))
  obtain ⟨w2, e2, o2, g2⟩ := o1.update (val := .int .u8 76) lawB Try.underlying57 (by unfold maxLen; omega) (keyOf_int_mk Try.underlying5 (a := 82) (by decide)) (plainElem_int Try.underlying5 (by decide))
  obtain ⟨w3, e3, o3, g3⟩ := o2.update (val := .int .u8 66) lawB Try.underlying57 (by unfold maxLen; omega) (keyOf_int_mk Try.underlying5 (a := 66) (by decide)) (plainElem_int Try.underlying5 (by decide))
  have q1 : Q w w1 := q0.grown g1 (by simp) (by intro b hb; cases hb; exact Nat.le_refl _)
  have q2 : Q w w2 := q1.grown g2 q1.size (by intro b hb; cases hb; exact Nat.le_refl _)
  have q3 : Q w w3 := q2.grown g3 q2.size (by intro b hb; cases hb; exact Nat.le_refl _)
  have H3 := Lib.hid o3
  clear o0 o1 o2 o3 g1 g2 g3 q0 q1 q2
  go_enter Try.func28, Try.ntmps28
  go_wp2_with fail
  go_ret
  exact others_close H3.out q3 (Nat.le_refl _)

set_option maxHeartbeats 1000000 in
theorem turn8_any (s v : UInt8) (B : Nat) (w : World) (hs : IsSide s) (hB : OthersRead B w) :
    Calls Try.prog 30 #[.int .u8 (s.toNat : Int), .int .u8 (v.toNat : Int), .map (some B)] w fun e w' => e = .returned (.int .u8 ((turnB s v).toNat : Int)) ∧ w = w' := by
  have e43 : ((v.toNat : Int) == 43) = decide (v = 43) := byte_is v 43 (by decide)
  have e45 : ((v.toNat : Int) == 45) = decide (v = 45) := byte_is v 45 (by decide)
  have hL := hB.2 w rfl s hs
  by_cases h1 : v = 43
  · have HT : Hid (turnB s v = s) := by unfold Hid turnB; rw [if_pos h1]
    rw [decide_eq_true h1] at e43
    clear e45 h1 hL hB
    generalize (v.toNat : Int) = vv at *
    generalize hsx : (s.toNat : Int) = ss at *
    have HS := Lib.hid hsx
    clear hsx
    go_enter Try.func30, Try.ntmps30
    go_wp2_with fail
    go_ret
    exact ⟨by rw [HT.out, HS.out]; rfl, rfl⟩
  · rw [decide_eq_false h1] at e43
    by_cases h2 : v = 45
    · have HT : Hid (turnB s v = turnB s 45) := by unfold Hid; rw [h2]
      rw [decide_eq_true h2] at e45
      clear h1 h2 hB
      generalize turnB s 45 = t at *
      generalize (v.toNat : Int) = vv at *
      generalize (s.toNat : Int) = ss at *
      go_enter Try.func30, Try.ntmps30
      go_wp2_with fail
      go_ret
      exact ⟨by rw [HT.out]; rfl, rfl⟩
    · have HT : Hid (turnB s v = 66) := by unfold Hid turnB; rw [if_neg h1, if_neg (fun h => h2 h.1), if_neg (fun h => h2 h.1)]
      rw [decide_eq_false h2] at e45
      clear h1 h2 hL hB
      generalize (v.toNat : Int) = vv at *
      generalize (s.toNat : Int) = ss at *
      go_enter Try.func30, Try.ntmps30
      go_wp2_with fail
      go_ret
      exact ⟨by rw [HT.out]; rfl, rfl⟩
end Go.Proofs.Ytmohedkhbjeapaa.Ex
