/-
  LexBack holds: tokens stand in their text where they say, one behind the other; the text of them has them again, but for where they begin. No conditions.
-/
import Derived.Test.YtanbhfhhomopfaaDoorLexS
import Derived.Test.YtanbhfhhomopfaaDoorLaid
import Derived.OpenShut
import Derived.Deep.DeepCutAuto
namespace Go.Proofs.YtanbhfhhomopfaaDoor.lexBack
open Go.ChangeShapes Go.WideShapes Go.ChangeAt Go.RowKit Kit Rw Lx
open Go.ChangeMaps (open_string shut_string)

theorem len_of {s : ByteArray} {l : List Tk} {o : Option Nat} (h : lx s.data.toList 0 = (l, o)) : l.length ≤ s.size := by
  have h9 := lx_few s.data.toList.length s.data.toList 0 (Nat.le_refl _)
  rw [h] at h9
  have h9 : l.length ≤ s.data.toList.length := h9
  have e : s.data.toList.length = s.size := by simp
  omega
theorem ok_post (s : ByteArray) (l : List Tk) (h : lx s.data.toList 0 = (l, none)) (hs : s.size ≤ 2000) (W : World) :
    Calls Tryd.prog 11 #[.string s] W fun e W' => ∃ A c, e = .returned (.tuple #[.slice A l.length c, .int .i64 0, .int .i64 0]) ∧ l.length ≤ c ∧ Rds W' W'.heap.size A (cellsT l) ∧ Q W W' := toks_any s l none W hs h

set_option maxRecDepth 100000 in
set_option maxHeartbeats 8000000 in
theorem walk (s : ByteArray) (w : World) : Calls Tryd.prog 5 #[.string s] w fun e w' => e = .returned (.bool true) ∧ Q w w' := by
  by_cases h5 : 1000 < s.size
  · have d5 : decide (1000 < (s.size : Int)) = true := decide_eq_true (by omega)
    go_enter Tryd.func5, Tryd.ntmps5
    go_wp2_with fail
    refine (shown_any _).mono ?_
    rintro e w1 ⟨rfl, q1⟩
    go_wp2_with fail
    go_ret
    exact ⟨rfl, q1⟩
  · have d5 : decide (1000 < (s.size : Int)) = false := decide_eq_false (by omega)
    obtain ⟨l, o, hl⟩ : ∃ l o, lx s.data.toList 0 = (l, o) := ⟨_, _, rfl⟩
    cases o with
    | some q =>
      have CT : Hid (∀ W : World, Calls Tryd.prog 11 #[.string s] W fun e W' => e = .returned (.tuple #[.slice none 0 0, .int .i64 (q : Int), .int .i64 2]) ∧ Q W W') := fun W => toks_any s l (some q) W (by omega) hl
      have hq : q < s.size := by
        have := lx_err s.data.toList.length s.data.toList 0 q (Nat.le_refl _) (by rw [hl])
        have e : s.data.toList.length = s.size := by simp
        omega
      have d1 : decide (0 ≤ (q : Int)) = true := decide_eq_true (by omega)
      have d2 : decide ((q : Int) < (s.size : Int)) = true := decide_eq_true (by omega)
      clear hl h5
      go_enter Tryd.func5, Tryd.ntmps5
      go_wp2_with fail
      refine (shown_any _).mono ?_
      rintro e w1 ⟨rfl, q1⟩
      go_wp2_with fail
      refine (CT.out _).mono ?_
      rintro e w2 ⟨rfl, q2⟩
      go_wp2_with fail
      go_ret
      exact ⟨by simp; try omega, q1.trans q2⟩
    | none =>
      have CT := Lib.hid (ok_post s l hl (by omega))
      have HX : Hid (lx (from_ s 0) 0 = (l.drop 0, none)) := hl
      have hlen := len_of hl
      have htot := text_short s l none hl
      obtain ⟨l', hl1, hl2⟩ := lx_texts l 0 (fun t ht => lx_sole s.data.toList 0 t (by rw [hl]; exact ht))
      have hll : l'.length = l.length := by have := congrArg List.length hl2; simpa using this
      have HK : Hid (∀ k (h : k < l.length) (h' : k < l'.length), l'[k].kind = l[k].kind ∧ l'[k].text = l[k].text) := fun k h h' => by
        have e : (l'.map kt)[k]? = (l.map kt)[k]? := by rw [hl2]
        rw [List.getElem?_map, List.getElem?_map, List.getElem?_eq_getElem h, List.getElem?_eq_getElem h'] at e
        simp only [Option.map_some, Option.some.injEq, kt, Prod.mk.injEq] at e
        exact e
      have hjl : (joinT (l.map tg)).length ≤ 2000 := Nat.le_trans (joinT_le _) (by omega)
      have CM : Hid (∀ W : World, Calls Tryd.prog 11 #[.string (bs (joinT (l.map tg)))] W fun e W' => ∃ A c, e = .returned (.tuple #[.slice A l.length c, .int .i64 0, .int .i64 0]) ∧ l.length ≤ c ∧ Rds W' W'.heap.size A (cellsT l') ∧ Q W W') := fun W => by
        have := ok_post (bs (joinT (l.map tg))) l' (by rw [bs_list, joinT_texts]; exact hl1) (by rw [bs_size]; exact hjl) W
        rw [hll] at this
        exact this
      have CX : Hid (∀ (A : Option Addr) (c : Nat) (W : World), Rds W W.heap.size A (cellsT l) → Calls Tryd.prog 17 #[.slice A l.length c] W fun e w' => e = .returned (.string (bs (joinT (l.map tg)))) ∧ Q W w') := fun A c W h =>
        text_any A l.length c (l.map tg) W (by simp) h (by rw [List.length_map]; omega) (by omega)
      generalize bs (joinT (l.map tg)) = J at *
      clear hl htot hl1 hl2 hjl
      have HLL := Lib.hid hll
      clear hll
      go_enter Tryd.func5, Tryd.ntmps5
      go_wp2_with fail
      refine (shown_any _).mono ?_
      rintro e w1 ⟨rfl, q1⟩
      go_wp2_with fail
      refine (CT.out _).mono ?_
      rintro e w2 ⟨A, c, rfl, _, hR, q2⟩
      have HR := Lib.hid hR
      have p2 := Lib.hid (q1.trans q2)
      clear hR q1 q2
      go_wp2_with fail
      go_loopw [7, 8] (fun en i wr => ∃ k E : Nat, k ≤ l.length ∧ i = .int .i64 k ∧ en = .int .i64 E ∧ E ≤ s.size ∧ Hid (lx (from_ s E) E = (l.drop k, none)) ∧ Hid (Q w2 wr)) (fun _ i _ => l.length - (intOf i).toNat)
      case atStart => exact ⟨0, 0, Nat.zero_le _, rfl, rfl, by omega, HX, Lib.hid (Q.refl _)⟩
      case round =>
        clear HX
        obtain ⟨k, E, hk, rfl, rfl, hE, HL, HQ⟩ := hrel
        by_cases hlt : k < l.length
        · obtain ⟨ad, rfl, hb, c0, c1, c2⟩ := tok_at (HR.out.q HQ.out) (show k < (l.map tg).length by rw [List.length_map]; exact hlt)
          rw [List.getElem_map] at c0 c1 c2
          have hB : Behind s E l[k] (l.drop (k + 1)) := behind_of (by rw [HL.out, List.drop_eq_getElem_cons hlt])
          have g1 := hB.at_
          have g2 := hB.size
          have g3 := hB.fits
          have HT := Lib.hid hB.text
          have HG := Lib.hid hB.gap
          have HN := Lib.hid hB.more
          have he : ¬ (bs l[k].text).toList = [] := fun e => by
            rw [ByteArray.toList_eq] at e
            have : (bs l[k].text).data.toList.length = (bs l[k].text).size := by simp
            rw [e] at this
            simp at this
            omega
          have he2 : (bs l[k].text).toList.isEmpty = false := by
            cases h : (bs l[k].text).toList with
            | nil => exact absurd h he
            | cons a b => rfl
          replace c0 : wr.cell? (ad.add (k * 3)) = some (.int .i64 (l[k].kind : Int)) := c0
          replace c1 : wr.cell? ⟨(ad.add (k * 3)).block, (ad.add (k * 3)).off + 1, none⟩ = some (.string (bs l[k].text)) := c1
          replace c2 : wr.cell? ⟨(ad.add (k * 3)).block, (ad.add (k * 3)).off + 2, none⟩ = some (.int .i64 (l[k].pos : Int)) := c2
          clear hB
          generalize bs l[k].text = T at *
          generalize l[k].kind = K at *
          generalize l[k].pos = P at *
          have hcut : ∀ u : World, (Instr.slice 9 (.string s) (some (.int .i64 (P : Int))) (some (.int .i64 ((P : Int) + (T.size : Int)))) none).run Tryd.prog u = .ok (.string T) u := fun u => by
            rw [cut_any s P T.size g3 u, HT.out]
          have dE : decide ((P : Int) < (E : Int)) = false := decide_eq_false (by omega)
          have dS : decide ((s.size : Int) < (P : Int) + (T.size : Int)) = false := decide_eq_false (by omega)
          have hw : IntKind.i64.wrap ((P : Int) + (T.size : Int)) = (P : Int) + (T.size : Int) := IntWalk.i64_in _ (by omega)
          have hn1 : ¬ P < E := by omega
          have hn2 : ¬ (P : Int) < (E : Int) := by omega
          have hn3 : ¬ (s.size : Int) < (P : Int) + (T.size : Int) := by omega
          go_wp2_with fail
          go_quiet (fail)
          go_wp2_with fail
          have b1 : ((wr.alloc (Obj.cells #[.int .i64 (K : Int), .string T, .int .i64 (P : Int)] 37)).drewN nq).cell? ⟨wr.heap.size, 1, none⟩ = some (.string T) := by
            show (wr.alloc _).cell? _ = _
            rw [cell_of_row _ _ _ _ _ _ (heap_alloc_new wr _)]; rfl
          have b2 : ((wr.alloc (Obj.cells #[.int .i64 (K : Int), .string T, .int .i64 (P : Int)] 37)).drewN nq).cell? ⟨wr.heap.size, 2, none⟩ = some (.int .i64 (P : Int)) := by
            show (wr.alloc _).cell? _ = _
            rw [cell_of_row _ _ _ _ _ _ (heap_alloc_new wr _)]; rfl
          have HQ3 : Hid (Q w2 ((wr.alloc (Obj.cells #[.int .i64 (K : Int), .string T, .int .i64 (P : Int)] 37)).drewN nq)) := (HQ.out.alloc _).drewN _
          clear HQ c0 c1 c2 hb hcut HT dE hn1 hn2
          generalize (wr.alloc (Obj.cells #[.int .i64 (K : Int), .string T, .int .i64 (P : Int)] 37)).drewN nq = W3 at *
          generalize wr.heap.size = B at *
          clear wr
          go_loopw [10] (fun i wr => ∃ j : Nat, E ≤ j ∧ j ≤ P ∧ i = .int .i64 j ∧ wr = W3) (fun i _ => P - (intOf i).toNat)
          case atStart => exact ⟨E, Nat.le_refl _, g1, rfl, rfl⟩
          case round =>
            obtain ⟨j, hEj, hjP, rfl, rfl⟩ := hrel
            by_cases hjl : j < P
            · have hjs : j < s.size := by omega
              have dj : decide ((j : Int) < (P : Int)) = true := decide_eq_true (by omega)
              have hbl := (blank_ways s[j]).1 (HG.out j hjs hEj hjl)
              by_cases x1 : (s[j].toNat : Int) = 32
              · have e1 : ((s[j].toNat : Int) != 32) = false := by simp [x1]
                clear x1 hbl
                go_wp2_with fail
                go_roundw
                case rel => exact ⟨j + 1, by omega, by omega, by go_num, by trivial⟩
                case measure => simp [intOf]; omega
              · have e1 : ((s[j].toNat : Int) != 32) = true := by simpa using x1
                by_cases x2 : (s[j].toNat : Int) = 9
                · have e2 : ((s[j].toNat : Int) != 9) = false := by simp [x2]
                  clear x1 x2 hbl
                  go_wp2_with fail
                  go_roundw
                  case rel => exact ⟨j + 1, by omega, by omega, by go_num, by trivial⟩
                  case measure => simp [intOf]; omega
                · have e2 : ((s[j].toNat : Int) != 9) = true := by simpa using x2
                  have e3 : ((s[j].toNat : Int) != 10) = false := by
                    have : (s[j].toNat : Int) = 10 := by omega
                    simp [this]
                  clear x1 x2 hbl
                  go_wp2_with fail
                  go_roundw
                  case rel => exact ⟨j + 1, by omega, by omega, by go_num, by trivial⟩
                  case measure => simp [intOf]; omega
            · have dj : decide ((j : Int) < (P : Int)) = false := decide_eq_false (by omega)
              go_wp2_with fail
              go_roundw
              case rel => exact ⟨k + 1, P + T.size, by omega, by go_num, by go_num, by omega, HN, HQ3⟩
              case measure => simp [intOf]; omega
        · have dk : decide ((k : Int) < (l.length : Int)) = false := decide_eq_false (by omega)
          have CX' := Lib.hid (CX.out A c wr (HR.out.q HQ.out))
          clear HL
          go_wp2_with fail
          refine CX'.out.mono ?_
          rintro e w3 ⟨rfl, q3⟩
          go_wp2_with fail
          refine (CM.out _).mono ?_
          rintro e w4 ⟨A4, c4, rfl, _, hR4, q4⟩
          have HS4 := Lib.hid hR4
          have HS2 := Lib.hid (HR.out.q (HQ.out.trans (q3.trans q4)))
          have p4 := Lib.hid (p2.out.trans (HQ.out.trans (q3.trans q4)))
          clear q3 q4 hR4 HQ CX' dk hlt hk
          have hne : ((l.length : Int) != (l.length : Int)) = false := by simp
          go_wp2_with fail
          go_loopw [14] (fun i wr => ∃ k : Nat, k ≤ l.length ∧ i = .int .i64 k ∧ Hid (Q w4 wr)) (fun i _ => l.length - (intOf i).toNat)
          case atStart => exact ⟨0, Nat.zero_le _, rfl, Lib.hid (Q.refl _)⟩
          case round =>
            clear hne
            obtain ⟨k, hk, rfl, HQ⟩ := hrel
            by_cases hlt : k < l.length
            · have hlt' : k < l'.length := by have := HLL.out; omega
              obtain ⟨ad, rfl, hb, c0, c1, c2⟩ := tok_at (HS2.out.q HQ.out) (show k < (l.map tg).length by rw [List.length_map]; exact hlt)
              obtain ⟨bd, rfl, hb', y0, y1, y2⟩ := tok_at (HS4.out.q HQ.out) (show k < (l'.map tg).length by rw [List.length_map]; exact hlt')
              rw [List.getElem_map] at c0 c1 c2
              rw [List.getElem_map] at y0 y1 y2
              obtain ⟨e1, e2⟩ := HK.out k hlt hlt'
              replace c0 : wr.cell? (ad.add (k * 3)) = some (.int .i64 (l[k].kind : Int)) := c0
              replace c1 : wr.cell? ⟨(ad.add (k * 3)).block, (ad.add (k * 3)).off + 1, none⟩ = some (.string (bs l[k].text)) := c1
              replace y0 : wr.cell? (bd.add (k * 3)) = some (.int .i64 (l'[k].kind : Int)) := y0
              replace y1 : wr.cell? ⟨(bd.add (k * 3)).block, (bd.add (k * 3)).off + 1, none⟩ = some (.string (bs l'[k].text)) := y1
              rw [e1] at y0
              rw [e2] at y1
              clear c2 y2 e1 e2
              generalize bs l[k].text = T at *
              generalize l[k].kind = K at *
              go_wp2_with fail
              go_quiet (fail)
              go_wp2_with fail
              go_roundw
              case rel => exact ⟨k + 1, by omega, by go_num, Lib.hid (HQ.out.drewN _)⟩
              case measure => simp [intOf]; omega
            · go_wp2_with fail
              go_ret
              exact ⟨rfl, p4.out.trans HQ.out⟩

theorem reads (os : Os) {H : Type} (enc : TypeId × Value → H) : ∃ places, DataW.whole enc Tryd.prog ((laidWorld os).forCall (fun _ _ => 0) ⟨#[], #[.string .empty], []⟩).memory Tryd.f5.params.toList Rows.lexBackSpec.vars false (#[.string .empty] : Array Value).toList 8 = some ([.lit (.string [])], [], places) :=
  ⟨[], by kernel_rfl⟩

set_option maxRecDepth 100000 in
theorem contract (H : Type) (enc : TypeId × Value → H) (W : World) (base : Nat) (args : Array Value) (ds gs : List (DataW H)) (before : List MemPlace)
    (hval : ∀ (j : Nat) t v, Tryd.f5.params[j]? = some t → args[j]? = some v → Value.okWide Tryd.prog W .any base t v)
    (hW : DataW.Whole enc Tryd.prog Tryd.f5.params.toList Rows.lexBackSpec.vars false W args.toList ds gs before)
    (hsz0 : (DataW.weightsEach Tryd.prog (Tryd.f5.params.toList ++ Rows.lexBackSpec.plain.varTypes Tryd.prog) (ds ++ gs)).all (· ≤ reachBytes) = true) :
    Calls Tryd.prog 5 args W fun e W' => ∃ v, e = .returned v ∧ Rows.lexBackSpec.post enc Tryd.prog Tryd.f5 false true false false W args v W' := by
  have hW' := hW
  obtain ⟨p, q, hA0, hV, rfl, hfz, hnd⟩ := hW
  have hA : DataW.TrodAll enc Tryd.prog W 0 (fun _ => true) true Tryd.f5.params.toList args.toList ds p := hA0
  rw [Tryd.params5] at hA hval
  obtain ⟨v0, vs0, d0, ds0, p0, q0, hargs, rfl, rfl, h0, r0⟩ := trodAll_cons hA
  obtain ⟨rfl, rfl, rfl⟩ := trodAll_nil r0
  obtain rfl : args = #[v0] := by cases args; simp_all
  obtain ⟨rfl, rfl⟩ := trodVars_none hV
  clear hsz0
  obtain ⟨s, rfl, rfl, rfl, hmax⟩ := open_string Tryd.underlying9 (hval 0 9 v0 rfl rfl) h0
  clear hA0
  refine (walk s W).mono fun e W' ⟨he, hg⟩ => ?_
  subst he
  exact ⟨_, rfl, post_law laid (by rw [Tryd.params5]; decide +kernel) rfl rfl (by kernel_rfl) Tryd.underlying4 hW' hg⟩

set_option maxRecDepth 100000 in
theorem lifted (os : Os) (started : os.Started) (H : Type) (enc : TypeId × Value → H) (F : Stop.Interp) :
    ReturnsInHanded {} Tryd.checked os 5 .any ((OpenSpec.ofChange Rows.lexBackSpec).preRow enc Tryd.prog Tryd.f5 Rows.lexBackRow.domain false Rows.lexBackRow.laid) (((OpenSpec.ofChange Rows.lexBackSpec).at F).post enc Tryd.prog Tryd.f5 false true false false) := by
  obtain ⟨places, hx⟩ := reads os enc
  refine returnsInHanded_of_row (C := Tryd.checked) (s := OpenSpec.ofChange Rows.lexBackSpec) own started (by kernel_rfl) Tryd.func5
    (witness_row_at (enc := enc) (C := Tryd.checked) false (laidWorld os) #[.string .empty] rfl (laid_vars os _) (by kernel_rfl) (by kernel_rfl)
      (OpenSpec.preRow_of_cond 8 hx (by kernel_rfl) (fun k hk => by cases hk) (by kernel_rfl) (laid_met os _))) ?_
  intro W base args ds gs before hval hW _ _ hsz _ _ _
  exact contract H enc W base args ds gs before hval hW hsz

theorem said : Rows.LexBackSaid :=
  OpenClaim.holds_of_cond 5 Tryd.f5 rfl rfl rfl rfl rfl rfl rfl ⟨rfl, rfl, rfl, rfl, rfl⟩ rfl rfl rfl rfl rfl (by kernel_rfl) Tryd.func5 (by kernel_rfl)
    (of_decide_eq_true (by kernel_rfl)) (by unfold Func.isWrapper; first | (rw [if_pos (by decide +kernel)]; kernel_rfl) | (rw [if_neg (by decide +kernel)]; exact ⟨rfl, rfl⟩))
    (fun os started H enc _ F => by rw [OpenClaim.pre_eq_preRow]; exact lifted os started H enc F)

theorem plain (f : FuncId) (fn : Func) (hf : Tryd.pinned.checked.prog.funcNamed "tammy/tammylaw06.LexBack" = some f) (hfn : Tryd.pinned.checked.prog.funcs[f]? = some fn) :
    true = Tryd.pinned.checked.prog.looks [] ∧ ∀ (j : Nat) t, fn.params[j]? = some t → Tryd.pinned.checked.prog.wantsStandIn t = false := by
  obtain rfl : f = 5 := Option.some.inj ((show Tryd.prog.funcNamed "tammy/tammylaw06.LexBack" = some 5 by kernel_rfl).symm.trans hf) |>.symm
  obtain rfl : fn = Tryd.f5 := (Option.some.inj (Tryd.func5.symm.trans hfn)).symm
  refine ⟨by kernel_rfl, fun j t ht => ?_⟩
  rw [Tryd.params5] at ht
  have hm := Array.mem_of_getElem? ht
  simp only [List.mem_toArray, List.mem_cons, List.not_mem_nil, or_false] at hm
  rcases hm with rfl
  · exact (show Tryd.prog.wantsStandIn 9 = false by kernel_rfl)

/-- THE STATEMENT: the tied card -/
theorem card : Rows.LexBackCardSaid :=
  Claim7.holds_tied_plain_at .later [] _ _ _ _ said (fun _ h => by cases h) (by kernel_rfl) (fun _ h => by cases h) lexBack_row_tie rfl ⟨rfl, rfl⟩ (by kernel_rfl) rfl plain (by kernel_rfl)
end Go.Proofs.YtanbhfhhomopfaaDoor.lexBack
