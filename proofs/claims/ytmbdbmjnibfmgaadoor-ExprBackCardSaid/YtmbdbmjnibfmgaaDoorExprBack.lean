/-
  ExprBack holds: the text of nodes, read, is these nodes, and all of it. No conditions.
-/
import Derived.Test.YtmbdbmjnibfmgaaDoorExprLaw
import Derived.Test.YtmbdbmjnibfmgaaDoorExprOpen
import Derived.Test.YtmbdbmjnibfmgaaDoorLaid
import Derived.OpenShut
import Derived.RegionTactic
import Derived.Deep.RegionHeld3
import Derived.Deep.DeepCutAuto
namespace Go.Proofs.YtmbdbmjnibfmgaaDoor.exprBack
open Go.ChangeShapes Go.WideShapes Go.ChangeAt Go.RowKit Kit Rw Ex
open Go.ChangeMaps (open_string shut_string)

set_option maxRecDepth 100000 in
set_option maxHeartbeats 4000000 in
theorem walk (A : Option Addr) (n c : Nat) (l : List Tg) (w : World) (hn : n = l.length) (hr : Rds w w.heap.size A (cellsG l)) (hl : l.length ≤ 140737488355328) (hz : ∀ t ∈ l, t.2.1.size ≤ 140737488355328) :
    Calls Tryd.prog 3 #[.slice A n c] w fun e w' => e = .returned (.bool true) ∧ Q w w' := by
  subst hn
  have HR := Lib.hid hr
  have CF := Lib.hid (fun (W : World) (q : Q w W) => few7_any A l.length c l W rfl (hr.q q) hl hz)
  clear hr hz
  by_cases hf : total7 l ≤ 600
  · rw [decide_eq_true hf] at CF
    have hl6 : l.length ≤ 600 := Nat.le_trans (total7_ge l) hf
    have CR := Lib.hid (fun (W : World) (q : Q w W) => right7_any A l.length c l W rfl (HR.out.q q) hf)
    cases hrt : rightB l
    · rw [hrt] at CR
      clear hrt hf
      go_enter Tryd.func3, Tryd.ntmps3
      go_wp2_with (first
        | (go_at_call 7; refine (shown_any _).mono ?_; rintro e w1 ⟨rfl, q1⟩; have HQ1 := Lib.hid q1; clear q1)
        | (go_at_call 8; refine (CF.out _ HQ1.out).mono ?_; rintro e w2 ⟨rfl, q2⟩; have HQ2 := Lib.hid (HQ1.out.trans q2); clear q2)
        | (go_at_call 9; refine (CR.out _ HQ2.out).mono ?_; rintro e w3 ⟨rfl, q3⟩; have HQ3 := Lib.hid (HQ2.out.trans q3); clear q3))
      go_ret
      exact ⟨rfl, HQ3.out⟩
    · rw [hrt] at CR
      obtain ⟨x, hx⟩ := right_x hrt
      have CT := Lib.hid (fun (W : World) (q : Q w W) => hx.text hf A c W (HR.out.q q))
      have CK := Lib.hid (fun (W : World) => toks_of hx.lx (by have := hx.textLen hf; omega) W)
      have CD := Lib.hid (fun (A : Option Addr) (c : Nat) (toks : List Tg) (W : World) hr ha hl => hx.read hf A c toks W hr ha hl)
      have CS := Lib.hid (fun (A' : Option Addr) (c' : Nat) (W : World) (q : Q w W) hr' => same_self A' A c' c l W hr' (HR.out.q q) (by omega))
      clear hrt hf hx
      generalize x.text.toArray = tx at *
      go_enter Tryd.func3, Tryd.ntmps3
      go_wp2_with (first
        | (go_at_call 7; refine (shown_any _).mono ?_; rintro e w1 ⟨rfl, q1⟩; have HQ1 := Lib.hid q1; clear q1)
        | (go_at_call 8; refine (CF.out _ HQ1.out).mono ?_; rintro e w2 ⟨rfl, q2⟩; have HQ2 := Lib.hid (HQ1.out.trans q2); clear q2)
        | (go_at_call 9; refine (CR.out _ HQ2.out).mono ?_; rintro e w3 ⟨rfl, q3⟩; have HQ3 := Lib.hid (HQ2.out.trans q3); clear q3)
        | (go_at_call 11; refine (CT.out _ HQ3.out).mono ?_; rintro e w4 ⟨rfl, q4⟩; have HQ4 := Lib.hid (HQ3.out.trans q4); clear q4)
        | (go_at_call 10; refine (CK.out _).mono ?_; rintro e w5 ⟨A5, c5, toks, rfl, hr5, ha5, hl5, q5⟩; have HQ5 := Lib.hid (HQ4.out.trans q5); have HR5 := Lib.hid hr5; have HA5 := Lib.hid ha5; have HL5 := Lib.hid hl5; clear q5 hr5 ha5 hl5)
        | (go_at_call 12; refine (CD.out A5 c5 toks _ HR5.out HA5.out HL5.out).mono ?_; rintro e w6 ⟨A6, n6, c6, rfl, rfl, hr6, q6⟩; have HQ6 := Lib.hid (HQ5.out.trans q6); have HR6 := Lib.hid hr6; clear q6 hr6)
        | (go_at_call 13; refine (CS.out A6 c6 _ HQ6.out HR6.out).mono ?_; rintro e w7 ⟨rfl, q7⟩; have HQ7 := Lib.hid (HQ6.out.trans q7); clear q7))
      go_ret
      exact ⟨by first | rfl | simp, HQ7.out⟩
  · rw [decide_eq_false hf] at CF
    clear hf
    go_enter Tryd.func3, Tryd.ntmps3
    go_wp2_with (first
        | (go_at_call 7; refine (shown_any _).mono ?_; rintro e w1 ⟨rfl, q1⟩; have HQ1 := Lib.hid q1; clear q1)
        | (go_at_call 8; refine (CF.out _ HQ1.out).mono ?_; rintro e w2 ⟨rfl, q2⟩; have HQ2 := Lib.hid (HQ1.out.trans q2); clear q2))
    go_ret
    exact ⟨rfl, HQ2.out⟩

theorem reads (os : Os) {H : Type} (enc : TypeId × Value → H) : ∃ places, DataW.whole enc Tryd.prog ((laidWorld os).forCall (fun _ _ => 0) ⟨#[], #[.slice none 0 0], []⟩).memory Tryd.f3.params.toList Rows.exprBackSpec.vars false (#[.slice none 0 0] : Array Value).toList 8 = some ([.nil], [], places) :=
  ⟨[], by kernel_rfl⟩

set_option maxRecDepth 100000 in
theorem contract (H : Type) (enc : TypeId × Value → H) (W : World) (base : Nat) (args : Array Value) (ds gs : List (DataW H)) (before : List MemPlace)
    (hval : ∀ (j : Nat) t v, Tryd.f3.params[j]? = some t → args[j]? = some v → Value.okWide Tryd.prog W .any base t v)
    (hW : DataW.Whole enc Tryd.prog Tryd.f3.params.toList Rows.exprBackSpec.vars false W args.toList ds gs before)
    (hsz0 : (DataW.weightsEach Tryd.prog (Tryd.f3.params.toList ++ Rows.exprBackSpec.plain.varTypes Tryd.prog) (ds ++ gs)).all (· ≤ reachBytes) = true) :
    Calls Tryd.prog 3 args W fun e W' => ∃ v, e = .returned v ∧ Rows.exprBackSpec.post enc Tryd.prog Tryd.f3 false true false false W args v W' := by
  have hW' := hW
  obtain ⟨p, q, hA0, hV, rfl, hfz, hnd⟩ := hW
  have hA : DataW.TrodAll enc Tryd.prog W 0 (fun _ => true) true Tryd.f3.params.toList args.toList ds p := hA0
  rw [Tryd.params3] at hA hval
  obtain ⟨v0, vs0, d0, ds0, p0, q0, hargs, rfl, rfl, h0, r0⟩ := trodAll_cons hA
  obtain ⟨rfl, rfl, rfl⟩ := trodAll_nil r0
  obtain rfl : args = #[v0] := by cases args; simp_all
  obtain ⟨rfl, rfl⟩ := trodVars_none hV
  have z0 : ∀ n ∈ d0.weights Tryd.prog 22, n ≤ reachBytes := fun n hn => by
    have := List.all_eq_true.1 hsz0 n (DataW.weights_mem_each (j := 0) (t := 22) (d := d0) (by rw [Tryd.params3]; rfl) rfl n hn)
    simpa using this
  clear hsz0
  obtain ⟨A0, n0, k0, l0, rfl, e0, hr0, x0, y0, u0⟩ := open_nodes (hval 0 22 v0 rfl rfl) h0 z0
  clear hA0
  refine (walk A0 n0 k0 l0 W e0 hr0 x0 u0).mono fun e W' ⟨he, hg⟩ => ?_
  subst he
  exact ⟨_, rfl, post_law laid (by rw [Tryd.params3]; decide +kernel) rfl rfl (by kernel_rfl) Tryd.underlying4 hW' hg⟩

set_option maxRecDepth 100000 in
theorem lifted (os : Os) (started : os.Started) (H : Type) (enc : TypeId × Value → H) (F : Stop.Interp) :
    ReturnsInHanded {} Tryd.checked os 3 .any ((OpenSpec.ofChange Rows.exprBackSpec).preRow enc Tryd.prog Tryd.f3 Rows.exprBackRow.domain false Rows.exprBackRow.laid) (((OpenSpec.ofChange Rows.exprBackSpec).at F).post enc Tryd.prog Tryd.f3 false true false false) := by
  obtain ⟨places, hx⟩ := reads os enc
  refine returnsInHanded_of_row (C := Tryd.checked) (s := OpenSpec.ofChange Rows.exprBackSpec) own started (by kernel_rfl) Tryd.func3
    (witness_row_at (enc := enc) (C := Tryd.checked) false (laidWorld os) #[.slice none 0 0] rfl (laid_vars os _) (by kernel_rfl) (by kernel_rfl)
      (OpenSpec.preRow_of_cond 8 hx (by kernel_rfl) (fun k hk => by cases hk) (by kernel_rfl) (laid_met os _))) ?_
  intro W base args ds gs before hval hW _ _ hsz _ _ _
  exact contract H enc W base args ds gs before hval hW hsz

theorem said : Rows.ExprBackSaid :=
  OpenClaim.holds_of_cond 3 Tryd.f3 rfl rfl rfl rfl rfl rfl rfl ⟨rfl, rfl, rfl, rfl, rfl⟩ rfl rfl rfl rfl rfl (by kernel_rfl) Tryd.func3 (by kernel_rfl)
    (of_decide_eq_true (by kernel_rfl)) (by unfold Func.isWrapper; first | (rw [if_pos (by decide +kernel)]; kernel_rfl) | (rw [if_neg (by decide +kernel)]; exact ⟨rfl, rfl⟩))
    (fun os started H enc _ F => by rw [OpenClaim.pre_eq_preRow]; exact lifted os started H enc F)

theorem plain (f : FuncId) (fn : Func) (hf : Tryd.pinned.checked.prog.funcNamed "tammy/tammylaw07.ExprBack" = some f) (hfn : Tryd.pinned.checked.prog.funcs[f]? = some fn) :
    true = Tryd.pinned.checked.prog.looks [] ∧ ∀ (j : Nat) t, fn.params[j]? = some t → Tryd.pinned.checked.prog.wantsStandIn t = false := by
  obtain rfl : f = 3 := Option.some.inj ((show Tryd.prog.funcNamed "tammy/tammylaw07.ExprBack" = some 3 by kernel_rfl).symm.trans hf) |>.symm
  obtain rfl : fn = Tryd.f3 := (Option.some.inj (Tryd.func3.symm.trans hfn)).symm
  refine ⟨by kernel_rfl, fun j t ht => ?_⟩
  rw [Tryd.params3] at ht
  have hm := Array.mem_of_getElem? ht
  simp only [List.mem_toArray, List.mem_cons, List.not_mem_nil, or_false] at hm
  rcases hm with rfl
  · exact (show Tryd.prog.wantsStandIn 22 = false by kernel_rfl)

/-- THE STATEMENT: the tied card -/
theorem card : Rows.ExprBackCardSaid :=
  Claim7.holds_tied_plain_at .later [] _ _ _ _ said (fun _ h => by cases h) (by kernel_rfl) (fun _ h => by cases h) exprBack_row_tie rfl ⟨rfl, rfl⟩ (by kernel_rfl) rfl plain (by kernel_rfl)
end Go.Proofs.YtmbdbmjnibfmgaaDoor.exprBack
