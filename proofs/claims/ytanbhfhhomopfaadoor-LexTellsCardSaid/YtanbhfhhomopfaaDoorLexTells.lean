/-
  LexTells holds: the text of any tokens, the number of a text, and which rows are the same, are as the document says. No conditions.
-/
import Derived.Test.YtanbhfhhomopfaaDoorLexOpen
import Derived.Test.YtanbhfhhomopfaaDoorLaid
import Derived.OpenShut
import Derived.Deep.DeepCutAuto
namespace Go.Proofs.YtanbhfhhomopfaaDoor.lexTells
open Go.ChangeShapes Go.WideShapes Go.ChangeAt Go.RowKit Kit Rw Lx
open Go.ChangeMaps (open_string shut_string)

set_option maxRecDepth 100000 in
set_option maxHeartbeats 4000000 in
theorem walk (A B : Option Addr) (n c n' c' : Nat) (l m : List Tg) (s : ByteArray) (w : World) (hn : n = l.length) (hn' : n' = m.length) (hr : Rds w w.heap.size A (cellsG l)) (hr' : Rds w w.heap.size B (cellsG m))
    (hl : l.length ≤ 140737488355328) (hm : m.length ≤ 140737488355328) (hz : ∀ t ∈ l, t.2.1.size ≤ 140737488355328) (hz' : ∀ t ∈ m, t.2.1.size ≤ 140737488355328) (hs : s.size ≤ 140737488355328) :
    Calls Tryd.prog 4 #[.slice A n c, .slice B n' c', .string s] w fun e w' => e = .returned (.bool true) ∧ Q w w' := by
  subst hn hn'
  have HR := Lib.hid hr
  have HR' := Lib.hid hr'
  have CF := Lib.hid (fun (W : World) (q : Q w W) => few_any A l.length c l W rfl (hr.q q) hl hz)
  have CF' := Lib.hid (fun (W : World) (q : Q w W) => few_any B m.length c' m W rfl (hr'.q q) hm hz')
  clear hr hr' hz hz'
  by_cases h1 : total l ≤ 2500
  · have hl1 : l.length ≤ 1000000 := Nat.le_trans (total_ge l) (by omega)
    have hj : (joinT l).length ≤ 1000000 := Nat.le_trans (joinT_le l) (by omega)
    rw [decide_eq_true h1] at CF
    by_cases h2 : total m ≤ 2500
    · rw [decide_eq_true h2] at CF'
      by_cases h3 : 100 < s.size
      · have d3 : decide (100 < (s.size : Int)) = true := decide_eq_true (by omega)
        clear h1 h2 hj
        go_enter Tryd.func4, Tryd.ntmps4
        go_wp2_with fail
        refine (shown_any _).mono ?_
        rintro e w1 ⟨rfl, q1⟩
        go_wp2_with fail
        refine (CF.out _ q1).mono ?_
        rintro e w2 ⟨rfl, q2⟩
        have p2 := q1.trans q2
        go_wp2_with fail
        refine (CF'.out _ p2).mono ?_
        rintro e w3 ⟨rfl, q3⟩
        go_wp2_with fail
        go_ret
        exact ⟨rfl, p2.trans q3⟩
      · have d3 : decide (100 < (s.size : Int)) = false := decide_eq_false (by omega)
        have CN := Lib.hid (fun (W : World) => number_any s W (by omega))
        have CN' := Lib.hid (fun (W : World) => refNumber_any s W (by omega))
        have CN : Hid (∀ W : World, Calls Tryd.prog 15 #[.string s] W fun e W' => e = .returned (.tuple #[.int .i64 (((numOf s.data.toList).getD 0 : Nat) : Int), .bool (numOf s.data.toList).isSome]) ∧ Q W W') := CN.out
        have CT := Lib.hid (fun (W : World) (q : Q w W) => text_any A l.length c l W rfl (HR.out.q q) hl1 hj)
        have CT' := Lib.hid (fun (W : World) (q : Q w W) => refText_any A l.length c l W rfl (HR.out.q q) (by omega))
        have CS := Lib.hid (fun (W : World) (q : Q w W) => same_any A B l.length c m.length c' l m W rfl rfl (HR.out.q q) (HR'.out.q q) hl1)
        have CS' := Lib.hid (fun (W : World) (q : Q w W) => refSame_any A B l.length c m.length c' l m W rfl rfl (HR.out.q q) (HR'.out.q q) hl1)
        generalize (numOf s.data.toList).getD 0 = k at *
        generalize (numOf s.data.toList).isSome = b at *
        generalize sameB l m = sm at *
        generalize joinT l = jt at *
        clear h1 h2 hj
        go_enter Tryd.func4, Tryd.ntmps4
        go_wp2_with fail
        refine (shown_any _).mono ?_
        rintro e w1 ⟨rfl, q1⟩
        go_wp2_with fail
        refine (CF.out _ q1).mono ?_
        rintro e w2 ⟨rfl, q2⟩
        have p2 := q1.trans q2
        go_wp2_with fail
        refine (CF'.out _ p2).mono ?_
        rintro e w3 ⟨rfl, q3⟩
        have p3 := p2.trans q3
        go_wp2_with fail
        refine (CN.out _).mono ?_
        rintro e w4 ⟨rfl, q4⟩
        have p4 := p3.trans q4
        go_wp2_with fail
        refine (CN'.out _).mono ?_
        rintro e w5 ⟨rfl, rfl⟩
        go_wp2_with fail
        refine (CT.out _ p4).mono ?_
        rintro e w6 ⟨rfl, q6⟩
        have p6 := p4.trans q6
        go_wp2_with fail
        refine (CT'.out _ p6).mono ?_
        rintro e w7 ⟨rfl, q7⟩
        have p7 := p6.trans q7
        go_wp2_with fail
        refine (CS.out _ p7).mono ?_
        rintro e w8 ⟨rfl, hd8⟩
        have p8 := p7.trans (q_drewN _ hd8)
        clear hd8
        go_wp2_with fail
        refine (CS'.out _ p8).mono ?_
        rintro e w9 ⟨rfl, hd9⟩
        have p9 := p8.trans (q_drewN _ hd9)
        clear hd9
        go_wp2_with fail
        go_ret
        exact ⟨by simp, p9⟩
    · rw [decide_eq_false h2] at CF'
      clear h1 h2 hj
      go_enter Tryd.func4, Tryd.ntmps4
      go_wp2_with fail
      refine (shown_any _).mono ?_
      rintro e w1 ⟨rfl, q1⟩
      go_wp2_with fail
      refine (CF.out _ q1).mono ?_
      rintro e w2 ⟨rfl, q2⟩
      have p2 := q1.trans q2
      go_wp2_with fail
      refine (CF'.out _ p2).mono ?_
      rintro e w3 ⟨rfl, q3⟩
      go_wp2_with fail
      go_ret
      exact ⟨rfl, p2.trans q3⟩
  · rw [decide_eq_false h1] at CF
    clear h1
    go_enter Tryd.func4, Tryd.ntmps4
    go_wp2_with fail
    refine (shown_any _).mono ?_
    rintro e w1 ⟨rfl, q1⟩
    go_wp2_with fail
    refine (CF.out _ q1).mono ?_
    rintro e w2 ⟨rfl, q2⟩
    go_wp2_with fail
    go_ret
    exact ⟨rfl, q1.trans q2⟩

theorem reads (os : Os) {H : Type} (enc : TypeId × Value → H) : ∃ places, DataW.whole enc Tryd.prog ((laidWorld os).forCall (fun _ _ => 0) ⟨#[], #[.slice none 0 0, .slice none 0 0, .string .empty], []⟩).memory Tryd.f4.params.toList Rows.lexTellsSpec.vars false (#[.slice none 0 0, .slice none 0 0, .string .empty] : Array Value).toList 8 = some ([.nil, .nil, .lit (.string [])], [], places) :=
  ⟨[], by kernel_rfl⟩

set_option maxRecDepth 100000 in
theorem contract (H : Type) (enc : TypeId × Value → H) (W : World) (base : Nat) (args : Array Value) (ds gs : List (DataW H)) (before : List MemPlace)
    (hval : ∀ (j : Nat) t v, Tryd.f4.params[j]? = some t → args[j]? = some v → Value.okWide Tryd.prog W .any base t v)
    (hW : DataW.Whole enc Tryd.prog Tryd.f4.params.toList Rows.lexTellsSpec.vars false W args.toList ds gs before)
    (hsz0 : (DataW.weightsEach Tryd.prog (Tryd.f4.params.toList ++ Rows.lexTellsSpec.plain.varTypes Tryd.prog) (ds ++ gs)).all (· ≤ reachBytes) = true) :
    Calls Tryd.prog 4 args W fun e W' => ∃ v, e = .returned v ∧ Rows.lexTellsSpec.post enc Tryd.prog Tryd.f4 false true false false W args v W' := by
  have hW' := hW
  obtain ⟨p, q, hA0, hV, rfl, hfz, hnd⟩ := hW
  have hA : DataW.TrodAll enc Tryd.prog W 0 (fun _ => true) true Tryd.f4.params.toList args.toList ds p := hA0
  rw [Tryd.params4] at hA hval
  obtain ⟨v0, vs0, d0, ds0, p0, q0, hargs, rfl, rfl, h0, r0⟩ := trodAll_cons hA
  obtain ⟨v1, vs1, d1, ds1, p1, q1, rfl, rfl, rfl, h1, r1⟩ := trodAll_cons r0
  obtain ⟨v2, vs2, d2, ds2, p2, q2, rfl, rfl, rfl, h2, r2⟩ := trodAll_cons r1
  obtain ⟨rfl, rfl, rfl⟩ := trodAll_nil r2
  obtain rfl : args = #[v0, v1, v2] := by cases args; simp_all
  obtain ⟨rfl, rfl⟩ := trodVars_none hV
  have z0 : ∀ n ∈ d0.weights Tryd.prog 23, n ≤ reachBytes := fun n hn => by
    have := List.all_eq_true.1 hsz0 n (DataW.weights_mem_each (j := 0) (t := 23) (d := d0) (by rw [Tryd.params4]; rfl) rfl n hn)
    simpa using this
  have z1 : ∀ n ∈ d1.weights Tryd.prog 23, n ≤ reachBytes := fun n hn => by
    have := List.all_eq_true.1 hsz0 n (DataW.weights_mem_each (j := 1) (t := 23) (d := d1) (by rw [Tryd.params4]; rfl) rfl n hn)
    simpa using this
  have z2 : ∀ n ∈ d2.weights Tryd.prog 9, n ≤ reachBytes := fun n hn => by
    have := List.all_eq_true.1 hsz0 n (DataW.weights_mem_each (j := 2) (t := 9) (d := d2) (by rw [Tryd.params4]; rfl) rfl n hn)
    simpa using this
  clear hsz0
  obtain ⟨A, n1, k1, l, rfl, e1, hr1, x1, _, y1⟩ := open_toks (hval 0 23 v0 rfl rfl) h0 z0
  obtain ⟨B, n2, k2, m, rfl, e2, hr2, x2, _, y2⟩ := open_toks (hval 1 23 v1 rfl rfl) h1 z1
  obtain ⟨s, rfl, rfl, rfl, hmax⟩ := open_string Tryd.underlying9 (hval 2 9 v2 rfl rfl) h2
  have hs : s.size ≤ 140737488355328 := by
    have := z2 s.data.toList.length (by simp [DataW.weights])
    have e : s.data.toList.length = s.size := by simp
    rw [e] at this
    unfold reachBytes at this
    omega
  clear hA0
  refine (walk A B n1 k1 n2 k2 l m s W e1 e2 hr1 hr2 x1 x2 y1 y2 hs).mono fun e W' ⟨he, hg⟩ => ?_
  subst he
  exact ⟨_, rfl, post_law laid (by rw [Tryd.params4]; decide +kernel) rfl rfl (by kernel_rfl) Tryd.underlying4 hW' hg⟩

set_option maxRecDepth 100000 in
theorem lifted (os : Os) (started : os.Started) (H : Type) (enc : TypeId × Value → H) (F : Stop.Interp) :
    ReturnsInHanded {} Tryd.checked os 4 .any ((OpenSpec.ofChange Rows.lexTellsSpec).preRow enc Tryd.prog Tryd.f4 Rows.lexTellsRow.domain false Rows.lexTellsRow.laid) (((OpenSpec.ofChange Rows.lexTellsSpec).at F).post enc Tryd.prog Tryd.f4 false true false false) := by
  obtain ⟨places, hx⟩ := reads os enc
  refine returnsInHanded_of_row (C := Tryd.checked) (s := OpenSpec.ofChange Rows.lexTellsSpec) own started (by kernel_rfl) Tryd.func4
    (witness_row_at (enc := enc) (C := Tryd.checked) false (laidWorld os) #[.slice none 0 0, .slice none 0 0, .string .empty] rfl (laid_vars os _) (by kernel_rfl) (by kernel_rfl)
      (OpenSpec.preRow_of_cond 8 hx (by kernel_rfl) (fun k hk => by cases hk) (by kernel_rfl) (laid_met os _))) ?_
  intro W base args ds gs before hval hW _ _ hsz _ _ _
  exact contract H enc W base args ds gs before hval hW hsz

theorem said : Rows.LexTellsSaid :=
  OpenClaim.holds_of_cond 4 Tryd.f4 rfl rfl rfl rfl rfl rfl rfl ⟨rfl, rfl, rfl, rfl, rfl⟩ rfl rfl rfl rfl rfl (by kernel_rfl) Tryd.func4 (by kernel_rfl)
    (of_decide_eq_true (by kernel_rfl)) (by unfold Func.isWrapper; first | (rw [if_pos (by decide +kernel)]; kernel_rfl) | (rw [if_neg (by decide +kernel)]; exact ⟨rfl, rfl⟩))
    (fun os started H enc _ F => by rw [OpenClaim.pre_eq_preRow]; exact lifted os started H enc F)

theorem plain (f : FuncId) (fn : Func) (hf : Tryd.pinned.checked.prog.funcNamed "tammy/tammylaw06.LexTells" = some f) (hfn : Tryd.pinned.checked.prog.funcs[f]? = some fn) :
    true = Tryd.pinned.checked.prog.looks [] ∧ ∀ (j : Nat) t, fn.params[j]? = some t → Tryd.pinned.checked.prog.wantsStandIn t = false := by
  obtain rfl : f = 4 := Option.some.inj ((show Tryd.prog.funcNamed "tammy/tammylaw06.LexTells" = some 4 by kernel_rfl).symm.trans hf) |>.symm
  obtain rfl : fn = Tryd.f4 := (Option.some.inj (Tryd.func4.symm.trans hfn)).symm
  refine ⟨by kernel_rfl, fun j t ht => ?_⟩
  rw [Tryd.params4] at ht
  have hm := Array.mem_of_getElem? ht
  simp only [List.mem_toArray, List.mem_cons, List.not_mem_nil, or_false] at hm
  rcases hm with rfl | rfl | rfl
  · exact (show Tryd.prog.wantsStandIn 23 = false by kernel_rfl)
  · exact (show Tryd.prog.wantsStandIn 23 = false by kernel_rfl)
  · exact (show Tryd.prog.wantsStandIn 9 = false by kernel_rfl)

/-- THE STATEMENT: the tied card -/
theorem card : Rows.LexTellsCardSaid :=
  Claim7.holds_tied_plain_at .later [] _ _ _ _ said (fun _ h => by cases h) (by kernel_rfl) (fun _ h => by cases h) lexTells_row_tie rfl ⟨rfl, rfl⟩ (by kernel_rfl) rfl plain (by kernel_rfl)
end Go.Proofs.YtanbhfhhomopfaaDoor.lexTells
