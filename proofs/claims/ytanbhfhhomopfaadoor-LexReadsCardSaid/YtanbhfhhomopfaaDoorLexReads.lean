/-
  LexReads holds: the tokens of any text of 3000 bytes at most, or where it is none, are as the document says. No conditions.
-/
import Derived.Test.YtanbhfhhomopfaaDoorLexN
import Derived.Test.YtanbhfhhomopfaaDoorLaid
import Derived.OpenShut
import Derived.Deep.DeepCutAuto
namespace Go.Proofs.YtanbhfhhomopfaaDoor.lexReads
open Go.ChangeShapes Go.WideShapes Go.ChangeAt Go.RowKit Kit Rw Lx
open Go.ChangeMaps (open_string shut_string)

set_option maxRecDepth 100000 in
set_option maxHeartbeats 4000000 in
theorem walk (s : ByteArray) (w : World) : Calls Tryd.prog 3 #[.string s] w fun e w' => e = .returned (.bool true) ∧ Q w w' := by
  by_cases h3 : 3000 < s.size
  · have d3 : decide (3000 < (s.size : Int)) = true := decide_eq_true (by omega)
    go_enter Tryd.func3, Tryd.ntmps3
    go_wp2_with fail
    refine (shown_any _).mono ?_
    rintro e w1 ⟨rfl, q1⟩
    go_wp2_with fail
    go_ret
    exact ⟨rfl, q1⟩
  · have d3 : decide (3000 < (s.size : Int)) = false := decide_eq_false (by omega)
    by_cases h2 : 2000 < s.size
    · go_enter Tryd.func3, Tryd.ntmps3
      go_wp2_with fail
      refine (shown_any _).mono ?_
      rintro e w1 ⟨rfl, q1⟩
      go_wp2_with fail
      refine (toks_full s _ h2).mono ?_
      rintro e w2 ⟨rfl, q2⟩
      go_wp2_with fail
      refine (refToks_full s _ h2).mono ?_
      rintro e w3 ⟨rfl, q3⟩
      go_wp2_with fail
      refine (refSame_any none none 0 0 0 0 [] [] w3 rfl rfl (Rds.nil _ _ _) (Rds.nil _ _ _) (by simp)).mono ?_
      rintro e w4 ⟨rfl, hd⟩
      have q4 := q_drewN _ hd
      have hsm : sameB [] [] = true := rfl
      rw [hsm]
      go_wp2_with fail
      go_ret
      exact ⟨rfl, ((q1.trans q2).trans q3).trans q4⟩
    · obtain ⟨l, o, hlx⟩ : ∃ l o, lx s.data.toList 0 = (l, o) := ⟨_, _, rfl⟩
      have CT := Lib.hid (fun W : World => toks_any s l o W (by omega) hlx)
      have CR := Lib.hid (fun W : World => refToks_any s l o W (by omega) hlx)
      have HLEN : Hid (l.length ≤ 1000000) := by
        have h9 := lx_few s.data.toList.length s.data.toList 0 (Nat.le_refl _)
        rw [hlx] at h9
        have h9 : l.length ≤ s.data.toList.length := h9
        have e : s.data.toList.length = s.size := by simp
        unfold Hid; omega
      clear hlx h3 h2
      cases o with
      | none =>
        have CT : Hid (∀ W : World, Calls Tryd.prog 11 #[.string s] W fun e W' => ∃ A c, e = .returned (.tuple #[.slice A l.length c, .int .i64 0, .int .i64 0]) ∧ l.length ≤ c ∧ Rds W' W'.heap.size A (cellsT l) ∧ Q W W') := CT.out
        have CR : Hid (∀ W : World, Calls Tryd.prog 12 #[.string s] W fun e W' => ∃ A c, e = .returned (.tuple #[.slice A l.length c, .int .i64 0, .int .i64 0]) ∧ l.length ≤ c ∧ Rds W' W'.heap.size A (cellsT l) ∧ Q W W') := CR.out
        go_enter Tryd.func3, Tryd.ntmps3
        go_wp2_with fail
        refine (shown_any _).mono ?_
        rintro e w1 ⟨rfl, q1⟩
        go_wp2_with fail
        refine (CT.out _).mono ?_
        rintro e w2 ⟨A, c, rfl, _, hR, q2⟩
        have HR := Lib.hid hR
        clear hR
        go_wp2_with fail
        refine (CR.out _).mono ?_
        rintro e w3 ⟨A', c', rfl, _, hR', q3⟩
        have CS := Lib.hid (refSame_any A A' l.length c l.length c' (l.map tg) (l.map tg) w3 (by simp) (by simp) (HR.out.q q3) hR' (by rw [List.length_map]; exact HLEN.out))
        have hsm : sameB (l.map tg) (l.map tg) = true := (sameB_iff _ _).2 rfl
        rw [hsm] at CS
        clear hR' hsm
        go_wp2_with fail
        refine CS.out.mono ?_
        rintro e w4 ⟨rfl, hd⟩
        have q4 := q_drewN _ hd
        go_wp2_with fail
        go_ret
        exact ⟨rfl, ((q1.trans q2).trans q3).trans q4⟩
      | some q =>
        have CT : Hid (∀ W : World, Calls Tryd.prog 11 #[.string s] W fun e W' => e = .returned (.tuple #[.slice none 0 0, .int .i64 (q : Int), .int .i64 2]) ∧ Q W W') := CT.out
        have CR : Hid (∀ W : World, Calls Tryd.prog 12 #[.string s] W fun e W' => e = .returned (.tuple #[.slice none 0 0, .int .i64 (q : Int), .int .i64 2]) ∧ Q W W') := CR.out
        go_enter Tryd.func3, Tryd.ntmps3
        go_wp2_with fail
        refine (shown_any _).mono ?_
        rintro e w1 ⟨rfl, q1⟩
        go_wp2_with fail
        refine (CT.out _).mono ?_
        rintro e w2 ⟨rfl, q2⟩
        go_wp2_with fail
        refine (CR.out _).mono ?_
        rintro e w3 ⟨rfl, q3⟩
        go_wp2_with fail
        refine (refSame_any none none 0 0 0 0 [] [] w3 rfl rfl (Rds.nil _ _ _) (Rds.nil _ _ _) (by simp)).mono ?_
        rintro e w4 ⟨rfl, hd⟩
        have q4 := q_drewN _ hd
        have hsm : sameB [] [] = true := rfl
        rw [hsm]
        go_wp2_with fail
        go_ret
        exact ⟨rfl, ((q1.trans q2).trans q3).trans q4⟩

theorem reads (os : Os) {H : Type} (enc : TypeId × Value → H) : ∃ places, DataW.whole enc Tryd.prog ((laidWorld os).forCall (fun _ _ => 0) ⟨#[], #[.string .empty], []⟩).memory Tryd.f3.params.toList Rows.lexReadsSpec.vars false (#[.string .empty] : Array Value).toList 8 = some ([.lit (.string [])], [], places) :=
  ⟨[], by kernel_rfl⟩

set_option maxRecDepth 100000 in
theorem contract (H : Type) (enc : TypeId × Value → H) (W : World) (base : Nat) (args : Array Value) (ds gs : List (DataW H)) (before : List MemPlace)
    (hval : ∀ (j : Nat) t v, Tryd.f3.params[j]? = some t → args[j]? = some v → Value.okWide Tryd.prog W .any base t v)
    (hW : DataW.Whole enc Tryd.prog Tryd.f3.params.toList Rows.lexReadsSpec.vars false W args.toList ds gs before)
    (hsz0 : (DataW.weightsEach Tryd.prog (Tryd.f3.params.toList ++ Rows.lexReadsSpec.plain.varTypes Tryd.prog) (ds ++ gs)).all (· ≤ reachBytes) = true) :
    Calls Tryd.prog 3 args W fun e W' => ∃ v, e = .returned v ∧ Rows.lexReadsSpec.post enc Tryd.prog Tryd.f3 false true false false W args v W' := by
  have hW' := hW
  obtain ⟨p, q, hA0, hV, rfl, hfz, hnd⟩ := hW
  have hA : DataW.TrodAll enc Tryd.prog W 0 (fun _ => true) true Tryd.f3.params.toList args.toList ds p := hA0
  rw [Tryd.params3] at hA hval
  obtain ⟨v0, vs0, d0, ds0, p0, q0, hargs, rfl, rfl, h0, r0⟩ := trodAll_cons hA
  obtain ⟨rfl, rfl, rfl⟩ := trodAll_nil r0
  obtain rfl : args = #[v0] := by cases args; simp_all
  obtain ⟨rfl, rfl⟩ := trodVars_none hV
  clear hsz0
  obtain ⟨s, rfl, rfl, rfl, hmax⟩ := open_string Tryd.underlying9 (hval 0 9 v0 rfl rfl) h0
  clear hA0
  refine (walk s W).mono fun e W' ⟨he, hg⟩ => ?_
  subst he
  exact ⟨_, rfl, post_law laid (by rw [Tryd.params3]; decide +kernel) rfl rfl (by kernel_rfl) Tryd.underlying4 hW' hg⟩

set_option maxRecDepth 100000 in
theorem lifted (os : Os) (started : os.Started) (H : Type) (enc : TypeId × Value → H) (F : Stop.Interp) :
    ReturnsInHanded {} Tryd.checked os 3 .any ((OpenSpec.ofChange Rows.lexReadsSpec).preRow enc Tryd.prog Tryd.f3 Rows.lexReadsRow.domain false Rows.lexReadsRow.laid) (((OpenSpec.ofChange Rows.lexReadsSpec).at F).post enc Tryd.prog Tryd.f3 false true false false) := by
  obtain ⟨places, hx⟩ := reads os enc
  refine returnsInHanded_of_row (C := Tryd.checked) (s := OpenSpec.ofChange Rows.lexReadsSpec) own started (by kernel_rfl) Tryd.func3
    (witness_row_at (enc := enc) (C := Tryd.checked) false (laidWorld os) #[.string .empty] rfl (laid_vars os _) (by kernel_rfl) (by kernel_rfl)
      (OpenSpec.preRow_of_cond 8 hx (by kernel_rfl) (fun k hk => by cases hk) (by kernel_rfl) (laid_met os _))) ?_
  intro W base args ds gs before hval hW _ _ hsz _ _ _
  exact contract H enc W base args ds gs before hval hW hsz

theorem said : Rows.LexReadsSaid :=
  OpenClaim.holds_of_cond 3 Tryd.f3 rfl rfl rfl rfl rfl rfl rfl ⟨rfl, rfl, rfl, rfl, rfl⟩ rfl rfl rfl rfl rfl (by kernel_rfl) Tryd.func3 (by kernel_rfl)
    (of_decide_eq_true (by kernel_rfl)) (by unfold Func.isWrapper; first | (rw [if_pos (by decide +kernel)]; kernel_rfl) | (rw [if_neg (by decide +kernel)]; exact ⟨rfl, rfl⟩))
    (fun os started H enc _ F => by rw [OpenClaim.pre_eq_preRow]; exact lifted os started H enc F)

theorem plain (f : FuncId) (fn : Func) (hf : Tryd.pinned.checked.prog.funcNamed "tammy/tammylaw06.LexReads" = some f) (hfn : Tryd.pinned.checked.prog.funcs[f]? = some fn) :
    true = Tryd.pinned.checked.prog.looks [] ∧ ∀ (j : Nat) t, fn.params[j]? = some t → Tryd.pinned.checked.prog.wantsStandIn t = false := by
  obtain rfl : f = 3 := Option.some.inj ((show Tryd.prog.funcNamed "tammy/tammylaw06.LexReads" = some 3 by kernel_rfl).symm.trans hf) |>.symm
  obtain rfl : fn = Tryd.f3 := (Option.some.inj (Tryd.func3.symm.trans hfn)).symm
  refine ⟨by kernel_rfl, fun j t ht => ?_⟩
  rw [Tryd.params3] at ht
  have hm := Array.mem_of_getElem? ht
  simp only [List.mem_toArray, List.mem_cons, List.not_mem_nil, or_false] at hm
  rcases hm with rfl
  · exact (show Tryd.prog.wantsStandIn 9 = false by kernel_rfl)

/-- THE STATEMENT: the tied card -/
theorem card : Rows.LexReadsCardSaid :=
  Claim7.holds_tied_plain_at .later [] _ _ _ _ said (fun _ h => by cases h) (by kernel_rfl) (fun _ h => by cases h) lexReads_row_tie rfl ⟨rfl, rfl⟩ (by kernel_rfl) rfl plain (by kernel_rfl)
end Go.Proofs.YtanbhfhhomopfaaDoor.lexReads
