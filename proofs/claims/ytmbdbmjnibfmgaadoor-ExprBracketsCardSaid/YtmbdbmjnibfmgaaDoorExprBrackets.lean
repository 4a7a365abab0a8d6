/-
  ExprBrackets holds: brackets around an expression count for nothing, as long as they may be open. No conditions.
-/
import Derived.Test.YtmbdbmjnibfmgaaDoorExprLaw
import Derived.Test.YtmbdbmjnibfmgaaDoorExprOpen
import Derived.Test.YtmbdbmjnibfmgaaDoorLaid
import Derived.OpenShut
import Derived.RegionTactic
import Derived.Deep.RegionHeld3
import Derived.Deep.DeepCutAuto
namespace Go.Proofs.YtmbdbmjnibfmgaaDoor.exprBrackets
open Go.ChangeShapes Go.WideShapes Go.ChangeAt Go.RowKit Kit Rw Ex
open Go.ChangeMaps (open_string shut_string)

theorem br_lx {a : List UInt8} {ts : List TT} (h : Lx1 a ts) : LxA (40 :: (a ++ [41])) (brT ts) := by
  have := (LxA.sign (c := 40) (by decide)).appA (Lx1.appA h (LxA.sign (c := 41) (by decide)) ⟨41, [], rfl, by decide⟩)
  exact this
/-- a text in some brackets, and its tokens -/
def brk : Nat → List UInt8 → List UInt8
  | 0, a => a
  | k + 1, a => ([40] ++ brk k a) ++ [41]
def brkT : Nat → List TT → List TT
  | 0, a => a
  | k + 1, a => brT (brkT k a)
theorem brk_len (k : Nat) (a : List UInt8) : (brk k a).length = a.length + 2 * k := by
  induction k with
  | zero => rfl
  | succ k ih => simp [brk, ih]; omega
theorem brk_lx (k : Nat) {a : List UInt8} {ts : List TT} (h : Lx1 a ts) : Lx1 (brk k a) (brkT k ts) := by
  induction k with
  | zero => exact h
  | succ k ih => exact (br_lx ih).one
theorem brk_runs (k : Nat) {x : Ex} (hw : x.wf) (hm : ∀ t ∈ x.nodes, mayN t = true) : RunsAs (brkT (k + 1) x.toks) x.nodes := by
  induction k with
  | zero => exact RunsAs.tree hw hm
  | succ k ih => exact ih.brack
theorem brk_whole (k : Nat) {x : Ex} (hw : x.wf) (hm : ∀ t ∈ x.nodes, mayN t = true) (hd : x.deep ≤ 40) {toks : List Tg} (ha : At toks 0 (brkT k x.toks)) (hl : toks.length = (brkT k x.toks).length) :
    (∃ p', RunP toks 0 [] ss0 7 p' []) ∨ RunP toks 0 [] ss0 0 toks.length x.nodes := by
  cases k with
  | zero => exact .inr ((read_whole hw hm ha hl).resolve_left (fun hh => by omega))
  | succ k => exact (brk_runs k hw hm).whole ha hl

set_option maxRecDepth 100000 in
set_option maxHeartbeats 4000000 in
theorem walk (A : Option Addr) (n c : Nat) (l : List Tg) (b : Int) (w : World) (hn : n = l.length) (hr : Rds w w.heap.size A (cellsG l)) (hl : l.length ≤ 140737488355328) (hz : ∀ t ∈ l, t.2.1.size ≤ 140737488355328) (hb : 0 ≤ b ∧ b ≤ 255) :
    Calls Tryd.prog 4 #[.slice A n c, .int .u8 b] w fun e w' => e = .returned (.bool true) ∧ Q w w' := by
  subst hn
  have HR := Lib.hid hr
  have CF := Lib.hid (fun (W : World) (q : Q w W) => few7_any A l.length c l W rfl (hr.q q) hl hz)
  clear hr hz
  by_cases hf : total7 l ≤ 600
  · rw [decide_eq_true hf] at CF
    have hl6 : l.length ≤ 600 := Nat.le_trans (total7_ge l) hf
    have CR := Lib.hid (fun (W : World) (q : Q w W) => right7_any A l.length c l W rfl (HR.out.q q) hf)
    cases hrt : rightB l
    · rw [hrt] at CR
      clear hrt hf
      go_enter Tryd.func4, Tryd.ntmps4
      go_wp2_with (first
        | (go_at_call 7; refine (shown_any _).mono ?_; rintro e w1 ⟨rfl, q1⟩; have HQ1 := Lib.hid q1; clear q1)
        | (go_at_call 8; refine (CF.out _ HQ1.out).mono ?_; rintro e w2 ⟨rfl, q2⟩; have HQ2 := Lib.hid (HQ1.out.trans q2); clear q2)
        | (go_at_call 9; refine (CR.out _ HQ2.out).mono ?_; rintro e w3 ⟨rfl, q3⟩; have HQ3 := Lib.hid (HQ2.out.trans q3); clear q3))
      go_ret
      exact ⟨rfl, HQ3.out⟩
    · rw [hrt] at CR
      obtain ⟨x, hx⟩ := right_x hrt
      obtain ⟨b, rfl⟩ : ∃ m : Nat, b = (m : Int) := ⟨b.toNat, by omega⟩
      have CT : Hid (∀ W : World, Q w W → Calls Tryd.prog 11 #[.slice A l.length c] W fun e w' => e = .returned (.string (bs x.text)) ∧ Q W w') := fun W q => hx.text hf A c W (HR.out.q q)
      have htl := hx.textLen hf
      have HTL := Lib.hid htl
      have CK : Hid (∀ (W : World) (k : Nat), k ≤ 4 → Calls Tryd.prog 10 #[.string (bs (brk k x.text))] W (ToksAt (brkT k x.toks) W)) := fun W k hk => toks_of (brk_lx k hx.lx) (by rw [brk_len]; omega) W
      have HTw := Lib.hid (fun (k : Nat) (toks : List Tg) (ha : At toks 0 (brkT k x.toks)) (hl : toks.length = (brkT k x.toks).length) => brk_whole k hx.wf hx.mayX hx.deep ha hl)
      have HLk : Hid (∀ k, k ≤ 4 → (brkT k x.toks).length ≤ 10000) := fun k hk => by
        have := toks_few (brk_lx k hx.lx)
        rw [brk_len] at this
        omega
      rw [hx.nodes] at HTw
      have HA : Hid (∀ k, k ≤ 4 → (∀ u : World, (Op.stringOp .add ⟨#[40]⟩ (bs (brk k x.text))).run Tryd.prog u = .ok (.string (bs ([40] ++ brk k x.text))) u) ∧ ∀ u : World, (Op.stringOp .add (bs ([40] ++ brk k x.text)) ⟨#[41]⟩).run Tryd.prog u = .ok (.string (bs (brk (k + 1) x.text))) u) :=
        fun k hk => ⟨fun u => add_bs [40] (brk k x.text) u (by simp [brk_len]; omega), fun u => add_bs ([40] ++ brk k x.text) [41] u (by simp [brk_len]; omega)⟩
      have CS := Lib.hid (fun (A' : Option Addr) (c' : Nat) (W : World) (q : Q w W) hr' => same_self A A' c c' l W (HR.out.q q) hr' (by omega))
      have hm5 : ((b : Int)).tmod 5 = ((b % 5 : Nat) : Int) := by rw [Int.tmod_eq_emod_of_nonneg (by omega)]; omega
      have hm4 : b % 5 ≤ 4 := by omega
      generalize hbm : b % 5 = m at *
      have HBM := Lib.hid hbm
      clear hrt hf hx hl6 htl hbm
      go_enter Tryd.func4, Tryd.ntmps4
      go_wp2_with (first
        | (go_at_call 7; refine (shown_any _).mono ?_; rintro e w1 ⟨rfl, q1⟩; have HQ1 := Lib.hid q1; clear q1)
        | (go_at_call 8; refine (CF.out _ HQ1.out).mono ?_; rintro e w2 ⟨rfl, q2⟩; have HQ2 := Lib.hid (HQ1.out.trans q2); clear q2)
        | (go_at_call 9; refine (CR.out _ HQ2.out).mono ?_; rintro e w3 ⟨rfl, q3⟩; have HQ3 := Lib.hid (HQ2.out.trans q3); clear q3)
        | (go_at_call 11; refine (CT.out _ HQ3.out).mono ?_; rintro e w4 ⟨rfl, q4⟩; have HQ4 := Lib.hid (HQ3.out.trans q4); clear q4))
      go_loopw [6, 7] (fun s i wr => ∃ k : Nat, k ≤ m ∧ i = .int .i64 k ∧ s = .string (bs (brk k x.text)) ∧ w4 = wr) (fun _ i _ => m - (intOf i).toNat)
      case atStart => exact ⟨0, Nat.zero_le _, rfl, rfl, rfl⟩
      case round =>
        obtain ⟨k, hk, rfl, rfl, rfl⟩ := hrel
        by_cases hlt : k < m
        · obtain ⟨a1, a2⟩ := HA.out k (by omega)
          generalize bs ([40] ++ brk k x.text) = s1 at *
          have HE : Hid (∃ s, s = bs (brk (k + 1) x.text)) := ⟨_, rfl⟩
          go_wp2_with fail
          go_roundw
          case rel => exact ⟨k + 1, by omega, by go_num, rfl, by trivial⟩
          case measure => simp [intOf]; omega
        · obtain rfl : k = m := by omega
          have HA2 := HA
          clear HA hm5
          have d0 : decide ((k : Int) < ((k : Nat) : Int)) = false := decide_eq_false (by omega)
          have CK2 := Lib.hid (CK.out w4 k hm4)
          have HTk := Lib.hid (HTw.out k)
          have HLk2 := Lib.hid (HLk.out k hm4)
          have HX5 : Hid ((((b : Int)).tmod 5) = ((k : Nat) : Int)) := by
            have := HBM.out
            unfold Hid
            rw [Int.tmod_eq_emod_of_nonneg (by omega)]
            omega
          have hm5 := HX5.out
          clear CK HTw HLk
          generalize bs (brk k x.text) = s1 at *
          generalize brkT k x.toks = tts at *
          go_wp2_with fail
          refine CK2.out.mono ?_
          rintro e w5 ⟨A5, c5, toks, rfl, hr5, ha5, hl5, q5⟩
          have HQ5 := Lib.hid (HQ4.out.trans q5)
          have HR5 := Lib.hid hr5
          have HL5 : Hid (toks.length ≤ 10000) := by rw [hl5]; exact HLk2
          rcases HTk.out toks ha5 hl5 with ⟨p', hrun⟩ | hrun
          · have CD := Lib.hid (read_any A5 toks.length c5 toks w5 7 p' [] rfl HR5.out HL5.out hrun)
            clear hrun q5 hr5 ha5 hl5
            go_wp2_with fail
            refine CD.out.mono ?_
            rintro e w6 ⟨A6, n6, c6, rfl, rfl, hr6, q6⟩
            have HQ6 := Lib.hid (HQ5.out.trans q6)
            clear q6 hr6
            go_wp2_with fail
            go_ret
            exact ⟨by first | rfl | simp, HQ6.out⟩
          · have CD := Lib.hid (read_any A5 toks.length c5 toks w5 0 toks.length l rfl HR5.out HL5.out hrun)
            clear hrun q5 hr5 ha5 hl5
            go_wp2_with fail
            refine CD.out.mono ?_
            rintro e w6 ⟨A6, n6, c6, rfl, rfl, hr6, q6⟩
            have HQ6 := Lib.hid (HQ5.out.trans q6)
            have HR6 := Lib.hid hr6
            clear q6 hr6
            go_wp2_with fail
            refine (CS.out A6 c6 _ HQ6.out HR6.out).mono ?_
            rintro e w7 ⟨rfl, q7⟩
            have HQ7 := Lib.hid (HQ6.out.trans q7)
            clear q7
            go_wp2_with fail
            go_ret
            exact ⟨by first | rfl | simp, HQ7.out⟩
  · rw [decide_eq_false hf] at CF
    clear hf
    go_enter Tryd.func4, Tryd.ntmps4
    go_wp2_with (first
        | (go_at_call 7; refine (shown_any _).mono ?_; rintro e w1 ⟨rfl, q1⟩; have HQ1 := Lib.hid q1; clear q1)
        | (go_at_call 8; refine (CF.out _ HQ1.out).mono ?_; rintro e w2 ⟨rfl, q2⟩; have HQ2 := Lib.hid (HQ1.out.trans q2); clear q2))
    go_ret
    exact ⟨rfl, HQ2.out⟩

theorem reads (os : Os) {H : Type} (enc : TypeId × Value → H) : ∃ places, DataW.whole enc Tryd.prog ((laidWorld os).forCall (fun _ _ => 0) ⟨#[], #[.slice none 0 0, .int .u8 0], []⟩).memory Tryd.f4.params.toList Rows.exprBracketsSpec.vars false (#[.slice none 0 0, .int .u8 0] : Array Value).toList 8 = some ([.nil, .lit (.int .u8 0)], [], places) :=
  ⟨[], by kernel_rfl⟩

set_option maxRecDepth 100000 in
theorem contract (H : Type) (enc : TypeId × Value → H) (W : World) (base : Nat) (args : Array Value) (ds gs : List (DataW H)) (before : List MemPlace)
    (hval : ∀ (j : Nat) t v, Tryd.f4.params[j]? = some t → args[j]? = some v → Value.okWide Tryd.prog W .any base t v)
    (hW : DataW.Whole enc Tryd.prog Tryd.f4.params.toList Rows.exprBracketsSpec.vars false W args.toList ds gs before)
    (hsz0 : (DataW.weightsEach Tryd.prog (Tryd.f4.params.toList ++ Rows.exprBracketsSpec.plain.varTypes Tryd.prog) (ds ++ gs)).all (· ≤ reachBytes) = true) :
    Calls Tryd.prog 4 args W fun e W' => ∃ v, e = .returned v ∧ Rows.exprBracketsSpec.post enc Tryd.prog Tryd.f4 false true false false W args v W' := by
  have hW' := hW
  obtain ⟨p, q, hA0, hV, rfl, hfz, hnd⟩ := hW
  have hA : DataW.TrodAll enc Tryd.prog W 0 (fun _ => true) true Tryd.f4.params.toList args.toList ds p := hA0
  rw [Tryd.params4] at hA hval
  obtain ⟨v0, vs0, d0, ds0, p0, q0, hargs, rfl, rfl, h0, r0⟩ := trodAll_cons hA
  obtain ⟨v1, vs1, d1, ds1, p1, q1, rfl, rfl, rfl, h1, r1⟩ := trodAll_cons r0
  obtain ⟨rfl, rfl, rfl⟩ := trodAll_nil r1
  obtain rfl : args = #[v0, v1] := by cases args; simp_all
  obtain ⟨rfl, rfl⟩ := trodVars_none hV
  have z0 : ∀ n ∈ d0.weights Tryd.prog 22, n ≤ reachBytes := fun n hn => by
    have := List.all_eq_true.1 hsz0 n (DataW.weights_mem_each (j := 0) (t := 22) (d := d0) (by rw [Tryd.params4]; rfl) rfl n hn)
    simpa using this
  have z1 : ∀ n ∈ d1.weights Tryd.prog 5, n ≤ reachBytes := fun n hn => by
    have := List.all_eq_true.1 hsz0 n (DataW.weights_mem_each (j := 1) (t := 5) (d := d1) (by rw [Tryd.params4]; rfl) rfl n hn)
    simpa using this
  clear hsz0
  obtain ⟨A0, n0, k0, l0, rfl, e0, hr0, x0, y0, u0⟩ := open_nodes (hval 0 22 v0 rfl rfl) h0 z0
  obtain ⟨b, rfl, rfl, rfl, hbw⟩ := open_int Tryd.underlying5 (hval 1 5 v1 rfl rfl) h1
  have hb : 0 ≤ b ∧ b ≤ 255 := by
    have h1 : IntKind.u8.min = 0 := rfl
    have h2 : IntKind.u8.max = 255 := rfl
    simp [Lit.wf] at hbw
    omega
  clear hA0
  refine (walk A0 n0 k0 l0 b W e0 hr0 x0 u0 hb).mono fun e W' ⟨he, hg⟩ => ?_
  subst he
  exact ⟨_, rfl, post_law laid (by rw [Tryd.params4]; decide +kernel) rfl rfl (by kernel_rfl) Tryd.underlying4 hW' hg⟩

set_option maxRecDepth 100000 in
theorem lifted (os : Os) (started : os.Started) (H : Type) (enc : TypeId × Value → H) (F : Stop.Interp) :
    ReturnsInHanded {} Tryd.checked os 4 .any ((OpenSpec.ofChange Rows.exprBracketsSpec).preRow enc Tryd.prog Tryd.f4 Rows.exprBracketsRow.domain false Rows.exprBracketsRow.laid) (((OpenSpec.ofChange Rows.exprBracketsSpec).at F).post enc Tryd.prog Tryd.f4 false true false false) := by
  obtain ⟨places, hx⟩ := reads os enc
  refine returnsInHanded_of_row (C := Tryd.checked) (s := OpenSpec.ofChange Rows.exprBracketsSpec) own started (by kernel_rfl) Tryd.func4
    (witness_row_at (enc := enc) (C := Tryd.checked) false (laidWorld os) #[.slice none 0 0, .int .u8 0] rfl (laid_vars os _) (by kernel_rfl) (by kernel_rfl)
      (OpenSpec.preRow_of_cond 8 hx (by kernel_rfl) (fun k hk => by cases hk) (by kernel_rfl) (laid_met os _))) ?_
  intro W base args ds gs before hval hW _ _ hsz _ _ _
  exact contract H enc W base args ds gs before hval hW hsz

theorem said : Rows.ExprBracketsSaid :=
  OpenClaim.holds_of_cond 4 Tryd.f4 rfl rfl rfl rfl rfl rfl rfl ⟨rfl, rfl, rfl, rfl, rfl⟩ rfl rfl rfl rfl rfl (by kernel_rfl) Tryd.func4 (by kernel_rfl)
    (of_decide_eq_true (by kernel_rfl)) (by unfold Func.isWrapper; first | (rw [if_pos (by decide +kernel)]; kernel_rfl) | (rw [if_neg (by decide +kernel)]; exact ⟨rfl, rfl⟩))
    (fun os started H enc _ F => by rw [OpenClaim.pre_eq_preRow]; exact lifted os started H enc F)

theorem plain (f : FuncId) (fn : Func) (hf : Tryd.pinned.checked.prog.funcNamed "tammy/tammylaw07.ExprBrackets" = some f) (hfn : Tryd.pinned.checked.prog.funcs[f]? = some fn) :
    true = Tryd.pinned.checked.prog.looks [] ∧ ∀ (j : Nat) t, fn.params[j]? = some t → Tryd.pinned.checked.prog.wantsStandIn t = false := by
  obtain rfl : f = 4 := Option.some.inj ((show Tryd.prog.funcNamed "tammy/tammylaw07.ExprBrackets" = some 4 by kernel_rfl).symm.trans hf) |>.symm
  obtain rfl : fn = Tryd.f4 := (Option.some.inj (Tryd.func4.symm.trans hfn)).symm
  refine ⟨by kernel_rfl, fun j t ht => ?_⟩
  rw [Tryd.params4] at ht
  have hm := Array.mem_of_getElem? ht
  simp only [List.mem_toArray, List.mem_cons, List.not_mem_nil, or_false] at hm
  rcases hm with rfl | rfl
  · exact (show Tryd.prog.wantsStandIn 22 = false by kernel_rfl)
  · exact (show Tryd.prog.wantsStandIn 5 = false by kernel_rfl)

/-- THE STATEMENT: the tied card -/
theorem card : Rows.ExprBracketsCardSaid :=
  Claim7.holds_tied_plain_at .later [] _ _ _ _ said (fun _ h => by cases h) (by kernel_rfl) (fun _ h => by cases h) exprBrackets_row_tie rfl ⟨rfl, rfl⟩ (by kernel_rfl) rfl plain (by kernel_rfl)
end Go.Proofs.YtmbdbmjnibfmgaaDoor.exprBrackets
