/-
  LexNumbers holds: a number's figures are it; no number has more than nine, nor a nought ahead. No conditions.
-/
import Derived.Test.YtanbhfhhomopfaaDoorLexP
import Derived.Test.YtanbhfhhomopfaaDoorLaid
import Derived.OpenShut
import Derived.Deep.DeepCutAuto
namespace Go.Proofs.YtanbhfhhomopfaaDoor.lexNumbers
open Go.ChangeShapes Go.WideShapes Go.ChangeAt Go.RowKit Kit Rw Lx
open Go.ChangeMaps (open_string shut_string)

theorem conv (u : World) (m : Nat) : (convert 40 9 (.slice (some ⟨u.heap.size, 0, none⟩) 1 1)).run Tryd.prog (u.alloc (.cells #[.int .u8 (48 + (m : Int) % 10)] 5)) = .ok (.string ⟨#[dig m]⟩) (u.alloc (.cells #[.int .u8 (48 + (m : Int) % 10)] 5)) :=
  run_convert_bytes_back (P := Tryd.prog) _ 40 9 5 ⟨u.heap.size, 0, none⟩ 1 [dig m] Tryd.underlying40 Tryd.underlying5 Tryd.underlying9 (by
    intro j hj
    simp at hj
    subst hj
    rw [add_zero_head, cell_of_row _ _ _ _ _ _ (heap_alloc_new u _)]
    have e : ((dig m).toNat : Int) = 48 + (m : Int) % 10 := by rw [dig_nat]; omega
    rw [← e]
    rfl)
theorem num_some (l : List UInt8) (k : Nat) (h : numOf l = some k) (hl : l.length ≤ 1000) (W : World) : Calls Tryd.prog 15 #[.string (bs l)] W fun e W' => e = .returned (.tuple #[.int .i64 (k : Int), .bool true]) ∧ Q W W' := by
  have := number_any (bs l) W (by rw [bs_size]; omega)
  rw [bs_list, NumPost_some h] at this
  exact this
theorem num_none (l : List UInt8) (h : numOf l = none) (hl : l.length ≤ 1000) (W : World) : Calls Tryd.prog 15 #[.string (bs l)] W fun e W' => e = .returned (.tuple #[.int .i64 0, .bool false]) ∧ Q W W' := by
  have := number_any (bs l) W (by rw [bs_size]; omega)
  rw [bs_list, NumPost_none h] at this
  exact this
theorem num_any (s : ByteArray) (hs : s.size ≤ 50) : ∃ (n : Nat) (b : Bool), (b = false → n = 0) ∧ (b = true → 0 < s.size ∧ s.size ≤ 9) ∧ ∀ W : World, Calls Tryd.prog 15 #[.string s] W fun e W' => e = .returned (.tuple #[.int .i64 (n : Int), .bool b]) ∧ Q W W' := by
  have hl : s.data.toList.length = s.size := by simp
  refine ⟨(numOf s.data.toList).getD 0, (numOf s.data.toList).isSome, fun h => ?_, fun h => ?_, fun W => number_any s W (by omega)⟩
  · cases hv : numOf s.data.toList with
    | none => rfl
    | some v => rw [hv] at h; cases h
  · obtain ⟨v, hv⟩ := Option.isSome_iff_exists.1 h
    obtain ⟨x1, x2, _, _⟩ := numOf_some hv
    refine ⟨?_, by omega⟩
    rcases Nat.eq_zero_or_pos s.size with h | h
    · exact absurd (List.eq_nil_of_length_eq_zero (by omega)) x1
    · exact h

/-- behind the loop -/
theorem rest (T : List UInt8) (k : Nat) (s : ByteArray) (hs : s.size ≤ 50) (hT : T = numText k) (hk : k < 1000000000) :
    ∃ (n : Nat) (b : Bool), (b = false → n = 0) ∧ (b = true → 0 < s.size ∧ s.size ≤ 9) ∧
      (∀ W : World, Calls Tryd.prog 15 #[.string (bs T)] W fun e W' => e = .returned (.tuple #[.int .i64 (k : Int), .bool true]) ∧ Q W W') ∧
      (∀ W : World, Calls Tryd.prog 15 #[.string (bs (48 :: T))] W fun e W' => e = .returned (.tuple #[.int .i64 0, .bool false]) ∧ Q W W') ∧
      (∀ W : World, Calls Tryd.prog 15 #[.string (bs (T ++ [48, 48, 48, 48, 48, 48, 48, 48, 48, 48]))] W fun e W' => e = .returned (.tuple #[.int .i64 0, .bool false]) ∧ Q W W') ∧
      (∀ W : World, Calls Tryd.prog 15 #[.string s] W fun e W' => e = .returned (.tuple #[.int .i64 (n : Int), .bool b]) ∧ Q W W') := by
  subst hT
  have hl := text_len k hk
  obtain ⟨n, b, h1, h2, h3⟩ := num_any s hs
  exact ⟨n, b, h1, h2, num_some _ _ (text_num k hk) (by omega), num_none _ (text_zero k) (by simp; omega), num_none _ (text_long k _ (by simp)) (by simp; omega), h3⟩

set_option maxRecDepth 100000 in
set_option maxHeartbeats 4000000 in
theorem walk (a : Nat) (s : ByteArray) (w : World) : Calls Tryd.prog 7 #[.int .u32 (a : Int), .string s] w fun e w' => e = .returned (.bool true) ∧ Q w w' := by
  by_cases h5 : 50 < s.size
  · have d5 : decide (50 < (s.size : Int)) = true := decide_eq_true (by omega)
    go_enter Tryd.func7, Tryd.ntmps7
    go_wp2_with fail
    refine (shown_any _).mono ?_
    rintro e w1 ⟨rfl, q1⟩
    go_wp2_with fail
    go_ret
    exact ⟨rfl, q1⟩
  · have d5 : decide (50 < (s.size : Int)) = false := decide_eq_false (by omega)
    go_enter Tryd.func7, Tryd.ntmps7
    go_wp2_with fail
    refine (shown_any _).mono ?_
    rintro e w1 ⟨rfl, q1⟩
    go_wp2_with fail
    go_loopw [7, 8] (fun t i wr => ∃ (m : Nat) (l : List UInt8), i = .int .i64 m ∧ t = .string (bs l) ∧ m < 1000000000 ∧ Hid (decL m l = decL (a % 1000000000) []) ∧ Hid (Q w wr)) (fun _ i _ => (intOf i).toNat)
    case atStart => exact ⟨a % 1000000000, [], congrArg (Value.int .i64) (by omega), rfl, by omega, Lib.hid rfl, Lib.hid q1⟩
    case round =>
      obtain ⟨m, l, rfl, rfl, hm, HD, HQ⟩ := hrel
      have HL : Hid (l.length ≤ 9) := by
        have h1 := HD.out
        have h2 := (decL_pos m l).1
        have h3 := decL_len 9 (a % 1000000000) [] (by simp; omega)
        rw [h1] at h2
        simp at h3
        unfold Hid; omega
      by_cases h0 : 0 < m
      · have d0 : decide (0 < (m : Int)) = true := decide_eq_true (by omega)
        have hcv := conv wr m
        have hadd : ∀ u : World, (Op.stringOp .add (⟨#[dig m]⟩ : ByteArray) (bs l)).run Tryd.prog u = .ok (.string (bs (dig m :: l))) u := fun u => by
          have e : (⟨#[dig m]⟩ : ByteArray) ++ bs l = bs (dig m :: l) := by apply ByteArray.ext; simp [bs]
          rw [← e]
          exact run_string_add_sum (P := Tryd.prog) u _ _ (by rw [bs_size]; have := HL.out; show 1 + l.length ≤ _; omega)
        have HD' : Hid (decL (m / 10) (dig m :: l) = decL (a % 1000000000) []) := by
          unfold Hid; rw [← HD.out]; exact (decL_step (by omega) l).symm
        go_wp2_with fail
        go_roundw
        case rel => exact ⟨m / 10, dig m :: l, congrArg (Value.int .i64) (by omega), rfl, by omega, HD', Lib.hid (HQ.out.alloc _)⟩
        case measure => simp [intOf]; omega
      · have d0 : decide (0 < (m : Int)) = false := decide_eq_false (by omega)
        have hT : l = decL (a % 1000000000) [] := by
          have h1 := HD.out
          rw [show m = 0 by omega, decL_zero] at h1
          exact h1
        clear HD
        by_cases hk : a % 1000000000 = 0
        · have dk : ((a : Int) % 1000000000 == 0) = true := beq_iff_eq.2 (by omega)
          obtain ⟨n, b, B1, B2, C1, C2, C3, C4⟩ := rest [48] (a % 1000000000) s (by omega) (by unfold numText; rw [if_pos hk]) (by omega)
          have ek : ((a % 1000000000 : Nat) : Int) = (a : Int) % 1000000000 := by omega
          rw [ek] at C1
          have C1 := Lib.hid C1
          have C2 := Lib.hid C2
          have C3 := Lib.hid C3
          have C4 := Lib.hid C4
          clear hT hk ek
          cases b
          · obtain rfl : n = 0 := B1 rfl
            clear B1 B2
            go_wp2_with fail
            refine (C1.out _).mono ?_
            rintro e w2 ⟨rfl, q2⟩
            go_wp2_with fail
            refine (C2.out _).mono ?_
            rintro e w3 ⟨rfl, q3⟩
            go_wp2_with fail
            refine (C3.out _).mono ?_
            rintro e w4 ⟨rfl, q4⟩
            go_wp2_with fail
            refine (C4.out _).mono ?_
            rintro e w5 ⟨rfl, q5⟩
            go_wp2_with fail
            go_ret
            exact ⟨by first | (simp; done) | (simp; omega), (((HQ.out.trans q2).trans q3).trans q4).trans q5⟩
          · have b2 := (B2 rfl).2
            have b1 := (B2 rfl).1
            have e9 : decide ((s.size : Int) ≤ 9) = true := decide_eq_true (by omega)
            have e0 : decide (0 < (s.size : Int)) = true := decide_eq_true (by omega)
            clear B1 B2 b2
            go_wp2_with fail
            refine (C1.out _).mono ?_
            rintro e w2 ⟨rfl, q2⟩
            go_wp2_with fail
            refine (C2.out _).mono ?_
            rintro e w3 ⟨rfl, q3⟩
            go_wp2_with fail
            refine (C3.out _).mono ?_
            rintro e w4 ⟨rfl, q4⟩
            go_wp2_with fail
            refine (C4.out _).mono ?_
            rintro e w5 ⟨rfl, q5⟩
            go_wp2_with fail
            go_ret
            exact ⟨by first | (simp; done) | (simp; omega), (((HQ.out.trans q2).trans q3).trans q4).trans q5⟩
        · have dk : ((a : Int) % 1000000000 == 0) = false := beq_eq_false_iff_ne.2 (by omega)
          obtain ⟨n, b, B1, B2, C1, C2, C3, C4⟩ := rest l (a % 1000000000) s (by omega) (by unfold numText; rw [if_neg hk]; exact hT) (by omega)
          have ek : ((a % 1000000000 : Nat) : Int) = (a : Int) % 1000000000 := by omega
          rw [ek] at C1
          have C1 := Lib.hid C1
          have C2 := Lib.hid C2
          have C3 := Lib.hid C3
          have C4 := Lib.hid C4
          have a1 : ∀ u : World, (Op.stringOp .add (⟨#[48]⟩ : ByteArray) (bs l)).run Tryd.prog u = .ok (.string (bs (48 :: l))) u := fun u => by
            have e : (⟨#[48]⟩ : ByteArray) ++ bs l = bs (48 :: l) := by apply ByteArray.ext; simp [bs]
            rw [← e]
            exact run_string_add_sum (P := Tryd.prog) u _ _ (by rw [bs_size]; have := HL.out; show 1 + l.length ≤ _; omega)
          have a2 : ∀ u : World, (Op.stringOp .add (bs l) (⟨#[48, 48, 48, 48, 48, 48, 48, 48, 48, 48]⟩ : ByteArray)).run Tryd.prog u = .ok (.string (bs (l ++ [48, 48, 48, 48, 48, 48, 48, 48, 48, 48]))) u := fun u => by
            have e : bs l ++ (⟨#[48, 48, 48, 48, 48, 48, 48, 48, 48, 48]⟩ : ByteArray) = bs (l ++ [48, 48, 48, 48, 48, 48, 48, 48, 48, 48]) := bs_app _ _
            rw [← e]
            exact run_string_add_sum (P := Tryd.prog) u _ _ (by rw [bs_size]; have := HL.out; show l.length + 10 ≤ _; omega)
          clear hT hk ek
          cases b
          · obtain rfl : n = 0 := B1 rfl
            clear B1 B2
            go_wp2_with fail
            refine (C1.out _).mono ?_
            rintro e w2 ⟨rfl, q2⟩
            go_wp2_with fail
            refine (C2.out _).mono ?_
            rintro e w3 ⟨rfl, q3⟩
            go_wp2_with fail
            refine (C3.out _).mono ?_
            rintro e w4 ⟨rfl, q4⟩
            go_wp2_with fail
            refine (C4.out _).mono ?_
            rintro e w5 ⟨rfl, q5⟩
            go_wp2_with fail
            go_ret
            exact ⟨by first | (simp; done) | (simp; omega), (((HQ.out.trans q2).trans q3).trans q4).trans q5⟩
          · have b2 := (B2 rfl).2
            have b1 := (B2 rfl).1
            have e9 : decide ((s.size : Int) ≤ 9) = true := decide_eq_true (by omega)
            have e0 : decide (0 < (s.size : Int)) = true := decide_eq_true (by omega)
            clear B1 B2 b2
            go_wp2_with fail
            refine (C1.out _).mono ?_
            rintro e w2 ⟨rfl, q2⟩
            go_wp2_with fail
            refine (C2.out _).mono ?_
            rintro e w3 ⟨rfl, q3⟩
            go_wp2_with fail
            refine (C3.out _).mono ?_
            rintro e w4 ⟨rfl, q4⟩
            go_wp2_with fail
            refine (C4.out _).mono ?_
            rintro e w5 ⟨rfl, q5⟩
            go_wp2_with fail
            go_ret
            exact ⟨by first | (simp; done) | (simp; omega), (((HQ.out.trans q2).trans q3).trans q4).trans q5⟩

theorem reads (os : Os) {H : Type} (enc : TypeId × Value → H) : ∃ places, DataW.whole enc Tryd.prog ((laidWorld os).forCall (fun _ _ => 0) ⟨#[], #[.int .u32 0, .string .empty], []⟩).memory Tryd.f7.params.toList Rows.lexNumbersSpec.vars false (#[.int .u32 0, .string .empty] : Array Value).toList 8 = some ([.lit (.int .u32 0), .lit (.string [])], [], places) :=
  ⟨[], by kernel_rfl⟩

set_option maxRecDepth 100000 in
theorem contract (H : Type) (enc : TypeId × Value → H) (W : World) (base : Nat) (args : Array Value) (ds gs : List (DataW H)) (before : List MemPlace)
    (hval : ∀ (j : Nat) t v, Tryd.f7.params[j]? = some t → args[j]? = some v → Value.okWide Tryd.prog W .any base t v)
    (hW : DataW.Whole enc Tryd.prog Tryd.f7.params.toList Rows.lexNumbersSpec.vars false W args.toList ds gs before)
    (hsz0 : (DataW.weightsEach Tryd.prog (Tryd.f7.params.toList ++ Rows.lexNumbersSpec.plain.varTypes Tryd.prog) (ds ++ gs)).all (· ≤ reachBytes) = true) :
    Calls Tryd.prog 7 args W fun e W' => ∃ v, e = .returned v ∧ Rows.lexNumbersSpec.post enc Tryd.prog Tryd.f7 false true false false W args v W' := by
  have hW' := hW
  obtain ⟨p, q, hA0, hV, rfl, hfz, hnd⟩ := hW
  have hA : DataW.TrodAll enc Tryd.prog W 0 (fun _ => true) true Tryd.f7.params.toList args.toList ds p := hA0
  rw [Tryd.params7] at hA hval
  obtain ⟨v0, vs0, d0, ds0, p0, q0, hargs, rfl, rfl, h0, r0⟩ := trodAll_cons hA
  obtain ⟨v1, vs1, d1, ds1, p1, q1, rfl, rfl, rfl, h1, r1⟩ := trodAll_cons r0
  obtain ⟨rfl, rfl, rfl⟩ := trodAll_nil r1
  obtain rfl : args = #[v0, v1] := by cases args; simp_all
  obtain ⟨rfl, rfl⟩ := trodVars_none hV
  clear hsz0
  obtain ⟨a1, rfl, rfl, rfl, w1⟩ := open_int Tryd.underlying39 (hval 0 39 v0 rfl rfl) h0
  obtain ⟨s, rfl, rfl, rfl, hmax⟩ := open_string Tryd.underlying9 (hval 1 9 v1 rfl rfl) h1
  have hx : 0 ≤ a1 ∧ a1 ≤ 4294967295 := by simpa [Lit.wf, IntKind.min, IntKind.max, IntKind.signed, IntKind.bits] using w1
  obtain ⟨a, rfl⟩ : ∃ a : Nat, a1 = (a : Int) := ⟨a1.toNat, by omega⟩
  clear hA0
  refine (walk a s W).mono fun e W' ⟨he, hg⟩ => ?_
  subst he
  exact ⟨_, rfl, post_law laid (by rw [Tryd.params7]; decide +kernel) rfl rfl (by kernel_rfl) Tryd.underlying4 hW' hg⟩

set_option maxRecDepth 100000 in
theorem lifted (os : Os) (started : os.Started) (H : Type) (enc : TypeId × Value → H) (F : Stop.Interp) :
    ReturnsInHanded {} Tryd.checked os 7 .any ((OpenSpec.ofChange Rows.lexNumbersSpec).preRow enc Tryd.prog Tryd.f7 Rows.lexNumbersRow.domain false Rows.lexNumbersRow.laid) (((OpenSpec.ofChange Rows.lexNumbersSpec).at F).post enc Tryd.prog Tryd.f7 false true false false) := by
  obtain ⟨places, hx⟩ := reads os enc
  refine returnsInHanded_of_row (C := Tryd.checked) (s := OpenSpec.ofChange Rows.lexNumbersSpec) own started (by kernel_rfl) Tryd.func7
    (witness_row_at (enc := enc) (C := Tryd.checked) false (laidWorld os) #[.int .u32 0, .string .empty] rfl (laid_vars os _) (by kernel_rfl) (by kernel_rfl)
      (OpenSpec.preRow_of_cond 8 hx (by kernel_rfl) (fun k hk => by cases hk) (by kernel_rfl) (laid_met os _))) ?_
  intro W base args ds gs before hval hW _ _ hsz _ _ _
  exact contract H enc W base args ds gs before hval hW hsz

theorem said : Rows.LexNumbersSaid :=
  OpenClaim.holds_of_cond 7 Tryd.f7 rfl rfl rfl rfl rfl rfl rfl ⟨rfl, rfl, rfl, rfl, rfl⟩ rfl rfl rfl rfl rfl (by kernel_rfl) Tryd.func7 (by kernel_rfl)
    (of_decide_eq_true (by kernel_rfl)) (by unfold Func.isWrapper; first | (rw [if_pos (by decide +kernel)]; kernel_rfl) | (rw [if_neg (by decide +kernel)]; exact ⟨rfl, rfl⟩))
    (fun os started H enc _ F => by rw [OpenClaim.pre_eq_preRow]; exact lifted os started H enc F)

theorem plain (f : FuncId) (fn : Func) (hf : Tryd.pinned.checked.prog.funcNamed "tammy/tammylaw06.LexNumbers" = some f) (hfn : Tryd.pinned.checked.prog.funcs[f]? = some fn) :
    true = Tryd.pinned.checked.prog.looks [] ∧ ∀ (j : Nat) t, fn.params[j]? = some t → Tryd.pinned.checked.prog.wantsStandIn t = false := by
  obtain rfl : f = 7 := Option.some.inj ((show Tryd.prog.funcNamed "tammy/tammylaw06.LexNumbers" = some 7 by kernel_rfl).symm.trans hf) |>.symm
  obtain rfl : fn = Tryd.f7 := (Option.some.inj (Tryd.func7.symm.trans hfn)).symm
  refine ⟨by kernel_rfl, fun j t ht => ?_⟩
  rw [Tryd.params7] at ht
  have hm := Array.mem_of_getElem? ht
  simp only [List.mem_toArray, List.mem_cons, List.not_mem_nil, or_false] at hm
  rcases hm with rfl | rfl
  · exact (show Tryd.prog.wantsStandIn 39 = false by kernel_rfl)
  · exact (show Tryd.prog.wantsStandIn 9 = false by kernel_rfl)

/-- THE STATEMENT: the tied card -/
theorem card : Rows.LexNumbersCardSaid :=
  Claim7.holds_tied_plain_at .later [] _ _ _ _ said (fun _ h => by cases h) (by kernel_rfl) (fun _ h => by cases h) lexNumbers_row_tie rfl ⟨rfl, rfl⟩ (by kernel_rfl) rfl plain (by kernel_rfl)
end Go.Proofs.YtanbhfhhomopfaaDoor.lexNumbers
