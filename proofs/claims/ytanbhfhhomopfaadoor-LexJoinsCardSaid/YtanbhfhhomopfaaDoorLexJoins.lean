/-
  LexJoins holds: two texts with a blank between have the tokens of the first, and then those of the second; where a text is none it is none with more behind. No conditions.
-/
import Derived.Test.YtanbhfhhomopfaaDoorLexQ
import Derived.Test.YtanbhfhhomopfaaDoorLexR
import Derived.Test.YtanbhfhhomopfaaDoorLaid
import Derived.OpenShut
import Derived.Deep.DeepCutAuto
namespace Go.Proofs.YtanbhfhhomopfaaDoor.lexJoins
open Go.ChangeShapes Go.WideShapes Go.ChangeAt Go.RowKit Kit Rw Lx
open Go.ChangeMaps (open_string shut_string)

theorem len_of {s : ByteArray} {l : List Tk} {o : Option Nat} (h : lx s.data.toList 0 = (l, o)) : l.length ≤ s.size := by
  have h9 := lx_few s.data.toList.length s.data.toList 0 (Nat.le_refl _)
  rw [h] at h9
  have h9 : l.length ≤ s.data.toList.length := h9
  have e : s.data.toList.length = s.size := by simp
  omega
theorem err_post (s : ByteArray) (l : List Tk) (q : Nat) (h : lx s.data.toList 0 = (l, some q)) (hs : s.size ≤ 2000) (W : World) :
    Calls Tryd.prog 11 #[.string s] W fun e W' => e = .returned (.tuple #[.slice none 0 0, .int .i64 (q : Int), .int .i64 2]) ∧ Q W W' := toks_any s l (some q) W hs h
theorem ok_post (s : ByteArray) (l : List Tk) (h : lx s.data.toList 0 = (l, none)) (hs : s.size ≤ 2000) (W : World) :
    Calls Tryd.prog 11 #[.string s] W fun e W' => ∃ A c, e = .returned (.tuple #[.slice A l.length c, .int .i64 0, .int .i64 0]) ∧ l.length ≤ c ∧ Rds W' W'.heap.size A (cellsT l) ∧ Q W W' := toks_any s l none W hs h
/-- Toks of any text: some error's place, or a row -/
theorem some_post (s : ByteArray) (l : List Tk) (o : Option Nat) (h : lx s.data.toList 0 = (l, o)) (hs : s.size ≤ 2000) (W : World) :
    Calls Tryd.prog 11 #[.string s] W fun e W' => ∃ A n c x y, e = .returned (.tuple #[.slice A n c, .int .i64 x, .int .i64 y]) ∧ Q W W' := by
  cases o with
  | none => exact (ok_post s l h hs W).mono fun e W' ⟨A, c, h1, _, _, h4⟩ => ⟨_, _, _, _, _, h1, h4⟩
  | some q => exact (err_post s l q h hs W).mono fun e W' ⟨h1, h4⟩ => ⟨_, _, _, _, _, h1, h4⟩

set_option maxRecDepth 100000 in
set_option maxHeartbeats 8000000 in
theorem walk (a b : ByteArray) (w : World) (ha : a.size ≤ 140737488355328) (hb : b.size ≤ 140737488355328) : Calls Tryd.prog 6 #[.string a, .string b] w fun e w' => e = .returned (.bool true) ∧ Q w w' := by
  by_cases h5 : 1000 < a.size + b.size
  · have d5 : decide (1000 < (a.size : Int) + (b.size : Int)) = true := decide_eq_true (by omega)
    go_enter Tryd.func6, Tryd.ntmps6
    go_wp2_with fail
    refine (shown_any _).mono ?_
    rintro e w1 ⟨rfl, q1⟩
    go_wp2_with fail
    go_ret
    exact ⟨rfl, q1⟩
  · have d5 : decide (1000 < (a.size : Int) + (b.size : Int)) = false := decide_eq_false (by omega)
    have hta := lx_two a.data.toList b.data.toList
    have hla : a.data.toList.length = a.size := by simp
    have hlb : b.data.toList.length = b.size := by simp
    rw [hla] at hta
    have a1 : ∀ u : World, (Op.stringOp .add a (⟨#[32]⟩ : ByteArray)).run Tryd.prog u = .ok (.string (bs (a.data.toList ++ [32]))) u := fun u => by
      have e : a ++ (⟨#[32]⟩ : ByteArray) = bs (a.data.toList ++ [32]) := by
        have := bs_app a.data.toList (⟨#[32]⟩ : ByteArray)
        rw [bs_back] at this
        exact this
      rw [← e]
      exact run_string_add_sum (P := Tryd.prog) u _ _ (by show a.size + 1 ≤ _; omega)
    have a2 : ∀ u : World, (Op.stringOp .add (bs (a.data.toList ++ [32])) b).run Tryd.prog u = .ok (.string (bs (a.data.toList ++ [32] ++ b.data.toList))) u := fun u => by
      rw [← bs_app]
      exact run_string_add_sum (P := Tryd.prog) u _ _ (by rw [bs_size]; simp; omega)
    have hsm : (bs (a.data.toList ++ [32] ++ b.data.toList)).size ≤ 2000 := by rw [bs_size]; simp; omega
    have hbl := bs_list (a.data.toList ++ [32] ++ b.data.toList)
    obtain ⟨l, o, hl⟩ : ∃ l o, lx a.data.toList 0 = (l, o) := ⟨_, _, rfl⟩
    obtain ⟨m, o2, hm⟩ : ∃ m o, lx b.data.toList 0 = (m, o) := ⟨_, _, rfl⟩
    rw [hl, hm] at hta
    rw [← hbl] at hta
    generalize bs (a.data.toList ++ [32] ++ b.data.toList) = M at *
    generalize bs (a.data.toList ++ [32]) = M1 at *
    cases o with
    | some p =>
      have CA := Lib.hid (err_post a l p hl (by omega))
      have CB := Lib.hid (some_post b m o2 hm (by omega))
      have CM := Lib.hid (err_post M l p hta hsm)
      clear hta hbl hl hm hla hlb hsm h5
      go_enter Tryd.func6, Tryd.ntmps6
      go_wp2_with fail
      refine (shown_any _).mono ?_
      rintro e w1 ⟨rfl, q1⟩
      go_wp2_with fail
      refine (CA.out _).mono ?_
      rintro e w2 ⟨rfl, q2⟩
      go_wp2_with fail
      refine (CB.out _).mono ?_
      rintro e w3 ⟨A3, n3, c3, x3, y3, rfl, q3⟩
      go_wp2_with fail
      refine (CM.out _).mono ?_
      rintro e w4 ⟨rfl, q4⟩
      go_wp2_with fail
      go_ret
      exact ⟨by simp, ((q1.trans q2).trans q3).trans q4⟩
    | none =>
      have CA := Lib.hid (ok_post a l hl (by omega))
      cases o2 with
      | some p =>
        have CB := Lib.hid (err_post b m p hm (by omega))
        have CM := Lib.hid (err_post M _ (p + (a.size + 1)) hta hsm)
        clear hta hbl hl hm hla hlb hsm h5
        go_enter Tryd.func6, Tryd.ntmps6
        go_wp2_with fail
        refine (shown_any _).mono ?_
        rintro e w1 ⟨rfl, q1⟩
        go_wp2_with fail
        refine (CA.out _).mono ?_
        rintro e w2 ⟨A2, c2, rfl, _, _, q2⟩
        go_wp2_with fail
        refine (CB.out _).mono ?_
        rintro e w3 ⟨rfl, q3⟩
        go_wp2_with fail
        refine (CM.out _).mono ?_
        rintro e w4 ⟨rfl, q4⟩
        go_wp2_with fail
        go_ret
        exact ⟨by simp, ((q1.trans q2).trans q3).trans q4⟩
      | none =>
        have CB := Lib.hid (ok_post b m hm (by omega))
        have CM := Lib.hid (ok_post M _ hta hsm)
        have CM : Hid (∀ W : World, Calls Tryd.prog 11 #[.string M] W fun e W' => ∃ A c, e = .returned (.tuple #[.slice A (l.length + m.length) c, .int .i64 0, .int .i64 0]) ∧ l.length + m.length ≤ c ∧ Rds W' W'.heap.size A (cellsT (l ++ m.map (Tk.shift (a.size + 1)))) ∧ Q W W') := fun W => by
          refine (CM.out W).mono fun e W' h => ?_
          obtain ⟨A, c, h1, h2, h3, h4⟩ := h
          rw [List.length_append, List.length_map] at h1 h2
          exact ⟨A, c, h1, h2, h3, h4⟩
        have hla2 := len_of hl
        have hlb2 := len_of hm
        have HB := Lib.hid hm
        clear hta hbl hl hm hla hlb hsm
        go_enter Tryd.func6, Tryd.ntmps6
        go_wp2_with fail
        refine (shown_any _).mono ?_
        rintro e w1 ⟨rfl, q1⟩
        go_wp2_with fail
        refine (CA.out _).mono ?_
        rintro e w2 ⟨A2, c2, rfl, _, hR2, q2⟩
        have HR2 := Lib.hid hR2
        clear hR2
        go_wp2_with fail
        refine (CB.out _).mono ?_
        rintro e w3 ⟨A3, c3, rfl, _, hR3, q3⟩
        have HR3 := Lib.hid hR3
        clear hR3
        go_wp2_with fail
        refine (CM.out _).mono ?_
        rintro e w4 ⟨A4, c4, rfl, _, hR4, q4⟩
        have HS4 := Lib.hid hR4
        have p4 := Lib.hid (((q1.trans q2).trans q3).trans q4)
        have HS2 := Lib.hid (HR2.out.q (q3.trans q4))
        have HS3 := Lib.hid (HR3.out.q q4)
        clear q1 q2 q3 q4 HR2 HR3 hR4
        have hne : ((l.length : Int) + (m.length : Int) != (l.length : Int) + (m.length : Int)) = false := by simp
        go_wp2_with fail
        go_loopw [15] (fun i wr => ∃ k : Nat, k ≤ l.length + m.length ∧ i = .int .i64 k ∧ Hid (Q w4 wr)) (fun i _ => l.length + m.length - (intOf i).toNat)
        case atStart => exact ⟨0, Nat.zero_le _, rfl, Lib.hid (Q.refl _)⟩
        case round =>
          clear hne
          obtain ⟨k, hk, rfl, HQ⟩ := hrel
          by_cases hlt : k < l.length + m.length
          · have dlt : decide ((k : Int) < (l.length : Int) + (m.length : Int)) = true := decide_eq_true (by omega)
            by_cases h1 : k < l.length
            · obtain ⟨ad, rfl, hb, c0, c1, c2⟩ := tok_at (HS2.out.q HQ.out) (show k < (l.map tg).length by rw [List.length_map]; exact h1)
              obtain ⟨bd, rfl, hb', y0, y1, y2⟩ := tok_at (HS4.out.q HQ.out) (show k < ((l ++ m.map (Tk.shift (a.size + 1))).map tg).length by simp; omega)
              rw [List.getElem_map] at c0 c1 c2
              rw [List.getElem_map, List.getElem_append_left h1] at y0 y1 y2
              have hq := fun u : World => run_neq_tok u (tg l[k]) (tg l[k])
              rw [(tgEq_iff _ _).2 rfl] at hq
              have hq2 := tok_guard
              generalize tg l[k] = t at *
              have d1 : decide ((k : Int) < (l.length : Int)) = true := decide_eq_true (by omega)
              have d2 : decide ((l.length : Int) ≤ (k : Int)) = false := decide_eq_false (by omega)
              have hin1 : (k : Int) < (l.length : Int) + (m.length : Int) := by omega
              have hin2 : (k : Int) < (l.length : Int) := by omega
              have hn1 : ¬ l.length ≤ k := by omega
              have hn2 : ¬ (l.length : Int) ≤ (k : Int) := by omega
              have d3 : decide (l.length ≤ k) = false := decide_eq_false hn1
              go_wp2_with fail
              go_quiet (fail)
              go_wp2_with fail
              go_roundw
              case rel => exact ⟨k + 1, by omega, by go_num, Lib.hid (HQ.out.drewN _)⟩
              case measure => simp [intOf]; omega
            · obtain ⟨j, rfl⟩ : ∃ j, k = l.length + j := ⟨k - l.length, by omega⟩
              have hj : j < m.length := by omega
              obtain ⟨ad, rfl, hb, c0, c1, c2⟩ := tok_at (HS3.out.q HQ.out) (show j < (m.map tg).length by rw [List.length_map]; exact hj)
              obtain ⟨bd, rfl, hb', y0, y1, y2⟩ := tok_at (HS4.out.q HQ.out) (show l.length + j < ((l ++ m.map (Tk.shift (a.size + 1))).map tg).length by simp; omega)
              rw [List.getElem_map] at c0 c1 c2
              rw [List.getElem_map, List.getElem_append_right (by omega)] at y0 y1 y2
              simp only [Nat.add_sub_cancel_left, List.getElem_map] at y0 y1 y2
              obtain ⟨C, o, H⟩ := one_tok b m none HB.out m[j] (List.getElem_mem hj)
              have g3 := H.fits
              clear H
              replace c1 : wr.cell? ⟨(ad.add (j * 3)).block, (ad.add (j * 3)).off + 1, none⟩ = some (.string (bs m[j].text)) := c1
              replace c2 : wr.cell? ⟨(ad.add (j * 3)).block, (ad.add (j * 3)).off + 2, none⟩ = some (.int .i64 (m[j].pos : Int)) := c2
              replace y1 : wr.cell? ⟨(bd.add ((l.length + j) * 3)).block, (bd.add ((l.length + j) * 3)).off + 1, none⟩ = some (.string (bs m[j].text)) := y1
              replace y2 : wr.cell? ⟨(bd.add ((l.length + j) * 3)).block, (bd.add ((l.length + j) * 3)).off + 2, none⟩ = some (.int .i64 ((m[j].pos : Int) + (a.size : Int) + 1)) := by
                have e : ((m[j].pos : Int) + (a.size : Int) + 1) = ((m[j].pos + (a.size + 1) : Nat) : Int) := by omega
                rw [e]; exact y2
              clear c0 y0
              generalize bs m[j].text = T at *
              generalize m[j].pos = P at *
              have d1 : decide (((l.length : Int) + (j : Int)) < (l.length : Int)) = false := decide_eq_false (by omega)
              have d2 : decide ((l.length : Int) ≤ (l.length : Int) + (j : Int)) = true := decide_eq_true (by omega)
              have e0 : (l.length : Int) + (j : Int) - (l.length : Int) = (j : Int) := by omega
              have hw0 : IntKind.i64.wrap ((l.length : Int) + (j : Int) - (l.length : Int)) = (j : Int) := by rw [e0]; exact IntWalk.i64_in _ (by omega)
              have hw1 : IntKind.i64.wrap ((P : Int) + (a.size : Int)) = (P : Int) + (a.size : Int) := IntWalk.i64_in _ (by omega)
              have hw2 : IntKind.i64.wrap ((P : Int) + (a.size : Int) + 1) = (P : Int) + (a.size : Int) + 1 := IntWalk.i64_in _ (by omega)
              go_wp2_with fail
              go_quiet (fail)
              go_wp2_with fail
              go_roundw
              case rel => exact ⟨l.length + j + 1, by omega, by go_num, Lib.hid (HQ.out.drewN _)⟩
              case measure => simp [intOf]; omega
          · have dlt : decide ((k : Int) < (l.length : Int) + (m.length : Int)) = false := decide_eq_false (by omega)
            go_wp2_with fail
            go_ret
            exact ⟨rfl, p4.out.trans HQ.out⟩

theorem reads (os : Os) {H : Type} (enc : TypeId × Value → H) : ∃ places, DataW.whole enc Tryd.prog ((laidWorld os).forCall (fun _ _ => 0) ⟨#[], #[.string .empty, .string .empty], []⟩).memory Tryd.f6.params.toList Rows.lexJoinsSpec.vars false (#[.string .empty, .string .empty] : Array Value).toList 8 = some ([.lit (.string []), .lit (.string [])], [], places) :=
  ⟨[], by kernel_rfl⟩

set_option maxRecDepth 100000 in
theorem contract (H : Type) (enc : TypeId × Value → H) (W : World) (base : Nat) (args : Array Value) (ds gs : List (DataW H)) (before : List MemPlace)
    (hval : ∀ (j : Nat) t v, Tryd.f6.params[j]? = some t → args[j]? = some v → Value.okWide Tryd.prog W .any base t v)
    (hW : DataW.Whole enc Tryd.prog Tryd.f6.params.toList Rows.lexJoinsSpec.vars false W args.toList ds gs before)
    (hsz0 : (DataW.weightsEach Tryd.prog (Tryd.f6.params.toList ++ Rows.lexJoinsSpec.plain.varTypes Tryd.prog) (ds ++ gs)).all (· ≤ reachBytes) = true) :
    Calls Tryd.prog 6 args W fun e W' => ∃ v, e = .returned v ∧ Rows.lexJoinsSpec.post enc Tryd.prog Tryd.f6 false true false false W args v W' := by
  have hW' := hW
  obtain ⟨p, q, hA0, hV, rfl, hfz, hnd⟩ := hW
  have hA : DataW.TrodAll enc Tryd.prog W 0 (fun _ => true) true Tryd.f6.params.toList args.toList ds p := hA0
  rw [Tryd.params6] at hA hval
  obtain ⟨v0, vs0, d0, ds0, p0, q0, hargs, rfl, rfl, h0, r0⟩ := trodAll_cons hA
  obtain ⟨v1, vs1, d1, ds1, p1, q1, rfl, rfl, rfl, h1, r1⟩ := trodAll_cons r0
  obtain ⟨rfl, rfl, rfl⟩ := trodAll_nil r1
  obtain rfl : args = #[v0, v1] := by cases args; simp_all
  obtain ⟨rfl, rfl⟩ := trodVars_none hV
  have z0 : ∀ n ∈ d0.weights Tryd.prog 9, n ≤ reachBytes := fun n hn => by
    have := List.all_eq_true.1 hsz0 n (DataW.weights_mem_each (j := 0) (t := 9) (d := d0) (by rw [Tryd.params6]; rfl) rfl n hn)
    simpa using this
  have z1 : ∀ n ∈ d1.weights Tryd.prog 9, n ≤ reachBytes := fun n hn => by
    have := List.all_eq_true.1 hsz0 n (DataW.weights_mem_each (j := 1) (t := 9) (d := d1) (by rw [Tryd.params6]; rfl) rfl n hn)
    simpa using this
  clear hsz0
  obtain ⟨a, rfl, rfl, rfl, hmax⟩ := open_string Tryd.underlying9 (hval 0 9 v0 rfl rfl) h0
  obtain ⟨b, rfl, rfl, rfl, hmax1⟩ := open_string Tryd.underlying9 (hval 1 9 v1 rfl rfl) h1
  have hs0 : a.size ≤ 140737488355328 := by
    have := z0 a.data.toList.length (by simp [DataW.weights])
    have e : a.data.toList.length = a.size := by simp
    rw [e] at this
    unfold reachBytes at this
    omega
  have hs1 : b.size ≤ 140737488355328 := by
    have := z1 b.data.toList.length (by simp [DataW.weights])
    have e : b.data.toList.length = b.size := by simp
    rw [e] at this
    unfold reachBytes at this
    omega
  clear hA0
  refine (walk a b W hs0 hs1).mono fun e W' ⟨he, hg⟩ => ?_
  subst he
  exact ⟨_, rfl, post_law laid (by rw [Tryd.params6]; decide +kernel) rfl rfl (by kernel_rfl) Tryd.underlying4 hW' hg⟩

set_option maxRecDepth 100000 in
theorem lifted (os : Os) (started : os.Started) (H : Type) (enc : TypeId × Value → H) (F : Stop.Interp) :
    ReturnsInHanded {} Tryd.checked os 6 .any ((OpenSpec.ofChange Rows.lexJoinsSpec).preRow enc Tryd.prog Tryd.f6 Rows.lexJoinsRow.domain false Rows.lexJoinsRow.laid) (((OpenSpec.ofChange Rows.lexJoinsSpec).at F).post enc Tryd.prog Tryd.f6 false true false false) := by
  obtain ⟨places, hx⟩ := reads os enc
  refine returnsInHanded_of_row (C := Tryd.checked) (s := OpenSpec.ofChange Rows.lexJoinsSpec) own started (by kernel_rfl) Tryd.func6
    (witness_row_at (enc := enc) (C := Tryd.checked) false (laidWorld os) #[.string .empty, .string .empty] rfl (laid_vars os _) (by kernel_rfl) (by kernel_rfl)
      (OpenSpec.preRow_of_cond 8 hx (by kernel_rfl) (fun k hk => by cases hk) (by kernel_rfl) (laid_met os _))) ?_
  intro W base args ds gs before hval hW _ _ hsz _ _ _
  exact contract H enc W base args ds gs before hval hW hsz

theorem said : Rows.LexJoinsSaid :=
  OpenClaim.holds_of_cond 6 Tryd.f6 rfl rfl rfl rfl rfl rfl rfl ⟨rfl, rfl, rfl, rfl, rfl⟩ rfl rfl rfl rfl rfl (by kernel_rfl) Tryd.func6 (by kernel_rfl)
    (of_decide_eq_true (by kernel_rfl)) (by unfold Func.isWrapper; first | (rw [if_pos (by decide +kernel)]; kernel_rfl) | (rw [if_neg (by decide +kernel)]; exact ⟨rfl, rfl⟩))
    (fun os started H enc _ F => by rw [OpenClaim.pre_eq_preRow]; exact lifted os started H enc F)

theorem plain (f : FuncId) (fn : Func) (hf : Tryd.pinned.checked.prog.funcNamed "tammy/tammylaw06.LexJoins" = some f) (hfn : Tryd.pinned.checked.prog.funcs[f]? = some fn) :
    true = Tryd.pinned.checked.prog.looks [] ∧ ∀ (j : Nat) t, fn.params[j]? = some t → Tryd.pinned.checked.prog.wantsStandIn t = false := by
  obtain rfl : f = 6 := Option.some.inj ((show Tryd.prog.funcNamed "tammy/tammylaw06.LexJoins" = some 6 by kernel_rfl).symm.trans hf) |>.symm
  obtain rfl : fn = Tryd.f6 := (Option.some.inj (Tryd.func6.symm.trans hfn)).symm
  refine ⟨by kernel_rfl, fun j t ht => ?_⟩
  rw [Tryd.params6] at ht
  have hm := Array.mem_of_getElem? ht
  simp only [List.mem_toArray, List.mem_cons, List.not_mem_nil, or_false] at hm
  rcases hm with rfl | rfl
  · exact (show Tryd.prog.wantsStandIn 9 = false by kernel_rfl)
  · exact (show Tryd.prog.wantsStandIn 9 = false by kernel_rfl)

/-- THE STATEMENT: the tied card -/
theorem card : Rows.LexJoinsCardSaid :=
  Claim7.holds_tied_plain_at .later [] _ _ _ _ said (fun _ h => by cases h) (by kernel_rfl) (fun _ h => by cases h) lexJoins_row_tie rfl ⟨rfl, rfl⟩ (by kernel_rfl) rfl plain (by kernel_rfl)
end Go.Proofs.YtanbhfhhomopfaaDoor.lexJoins
