/-
  LoadStays holds: what was there stays at its place; names, too. No conditions.
-/
import Derived.Test.YtdmdcggmgipdbaaGreatDoorPx
import Derived.Test.YtdmdcggmgipdbaaGreatDoorPy
import Derived.Test.YtdmdcggmgipdbaaGreatDoorRows
import Derived.OpenShut
import Derived.RegionTactic
namespace Go.Proofs.YtdmdcggmgipdbaaGreatDoor.loadStays
open Go.ChangeShapes Go.WideShapes Go.ChangeAt Go.RowKit Kit Rw Ld
open Go.Proofs.YtdmdcggmgipdbaaGreatDoor.Sg (Sig Row Sized)
open Go.Proofs.YtdmdcggmgipdbaaGreatDoor.Hs (Keys Ints BoxT layI)
open Go.Proofs.YtdmdcggmgipdbaaGreatDoor.Ex (cellsS total7 rightB mayN runS right_tree)
theorem load_pre {L : List Sig} {ks : List (List Int)} {names : List ByteArray} {limit : Int} {l : List Tg} {x : Ex.Ex} {b : Nat} (h : StoOk L ks names b) (hm : ∀ t ∈ l, mayN t = true) (hs : runS [] l = some [x]) :
    Pre ks (loadK L limit ks names l) ∧ Pre names (loadN L limit ks names l) ∧ (loadK L limit ks names l).length ≤ ks.length + l.length := by
  by_cases h0 : loadE L limit ks names l = 0
  · have := (loaded h.store h.dst h.nms hm hs h0).ok
    exact ⟨this.pk, this.po, this.len⟩
  · obtain ⟨e1, e2, _⟩ := load_bad h0
    rw [e1, e2]
    exact ⟨Pre.refl _, Pre.refl _, by omega⟩
theorem pre_get {α : Type} {a b : List α} (h : Pre a b) {k : Nat} (hk : k < a.length) : ∃ hk' : k < b.length, b[k] = a[k] := by
  have := h k _ (List.getElem?_eq_getElem hk)
  obtain ⟨h1, h2⟩ := List.getElem?_eq_some_iff.1 this
  exact ⟨h1, h2⟩
set_option maxRecDepth 100000 in
set_option maxHeartbeats 8000000 in
theorem walk (R A S B : Option Addr) (nl cl n c m d nb cb : Nat) (L : List Sig) (ks : List (List Int)) (sl : List Int) (names : List ByteArray) (T : Option Addr) (ne ce : Nat) (l : List Tg) (w : World) (hnl : nl = L.length) (hr : Row w w.heap.size R L) (hll : L.length ≤ maxLen) (hsz : Sized L) (hn : n = ks.length) (hm : m = sl.length) (hk : Keys w w.heap.size A ks) (hS : Ints w w.heap.size S sl)
    (hl : ks.length ≤ 1152921504606846976) (hs : ∀ k ∈ ks, k.length ≤ 1152921504606846976) (hsl : sl.length ≤ 1152921504606846976) (hnb : nb = names.length) (hN : Rds w w.heap.size B (cellsS names)) (hne : ne = l.length) (hE : Rds w w.heap.size T (cellsG l)) (hll2 : l.length ≤ 140737488355328) (hnc : ne ≤ ce) (hz : ∀ t ∈ l, t.2.1.size ≤ 140737488355328) :
    Calls Tryz.prog 5 #[.agg #[.slice R nl cl, .slice A n c, .slice S m d, .slice B nb cb, .slice T ne ce]] w fun e w' => e = .returned (.bool true) ∧ Q w w' := by
  subst hnl hn hm hnb hne
  have q0 := ((Q.refl w).alloc (Obj.cells #[.slice R L.length cl, .slice A ks.length c, .slice S sl.length d, .slice B names.length cb, .slice T l.length ce] 52)).alloc (Obj.cells #[.slice A ks.length c, .slice S sl.length d] 26)
  have hT := BoxT.new (w.alloc (Obj.cells #[.slice R L.length cl, .slice A ks.length c, .slice S sl.length d, .slice B names.length cb, .slice T l.length ce] 52)) (Value.slice A ks.length c) (Value.slice S sl.length d) 26
  rw [show (w.alloc (Obj.cells #[.slice R L.length cl, .slice A ks.length c, .slice S sl.length d, .slice B names.length cb, .slice T l.length ce] 52)).heap.size = w.heap.size + 1 by simp] at hT
  have HT := Lib.hid hT
  have HR := Lib.hid ((hr.q (Nat.le_refl _) q0).more q0.size)
  have HK := Lib.hid ((hk.q (Nat.le_refl _) q0).more q0.size)
  have HS := Lib.hid ((hS.q (Nat.le_refl _) q0).more q0.size)
  have HN := Lib.hid (hN.q q0)
  have HL := Lib.hid (hE.q q0)
  have HQ0 := Lib.hid q0
  have HSz := Lib.hid hsz
  have HX := Lib.hid hs
  have HZ := Lib.hid hz
  clear hr hk hS hN q0 hT hsz hs hE hz
  go_enter Tryz.func5, Tryz.ntmps5
  go_wp2_with fail
  generalize (w.alloc (Obj.cells #[.slice R L.length cl, .slice A ks.length c, .slice S sl.length d, .slice B names.length cb, .slice T l.length ce] 52)).alloc (Obj.cells #[.slice A ks.length c, .slice S sl.length d] 26) = W0 at *
  refine (shown9_any _).mono ?_
  rintro e w1 ⟨rfl, q1⟩
  have Q1 := Lib.hid q1
  clear q1
  have CO := Lib.hid (of9_any R A S B L.length cl ks.length c sl.length d names.length cb L ks sl names w1 rfl ((HR.out.q (Nat.le_refl _) Q1.out).more Q1.out.size) rfl rfl ((HK.out.q (Nat.le_refl _) Q1.out).more Q1.out.size) ((HS.out.q (Nat.le_refl _) Q1.out).more Q1.out.size) rfl (HN.out.q Q1.out) hll HSz.out hl HX.out hsl)
  have b0 := (HT.out.q Q1.out).c0
  have b1 := (HT.out.q Q1.out).c1
  go_wp2_with fail
  refine CO.out.mono ?_
  rintro e w2 ⟨rfl, q2⟩
  have Q2 := Lib.hid (Q1.out.trans q2)
  clear q2 CO b0 b1 Q1
  cases hof : of9B L ks sl names
  · clear hof
    go_wp2_with fail
    go_ret
    exact ⟨rfl, HQ0.out.trans Q2.out⟩
  · obtain ⟨hok, rfl⟩ := of9_sto hof
    have hst : Sto W0 R A S B L ks names := ⟨HR.out, HK.out, HS.out, HN.out⟩
    have HOK := Lib.hid hok
    have HST := Lib.hid hst
    have CF := Lib.hid (Ex.few7_any T l.length ce l w2 rfl (HL.out.q Q2.out) hll2 HZ.out)
    clear hof hok hst HR HK HS HN hll hl hsl HSz HX
    go_wp2_with fail
    refine CF.out.mono ?_
    rintro e w3 ⟨rfl, q3⟩
    have Q3 := Lib.hid (Q2.out.trans q3)
    clear q3 Q2 CF
    by_cases hf : total7 l ≤ 600
    · have d6 : decide (total7 l ≤ 600) = true := decide_eq_true hf
      rw [d6]
      have CR := Lib.hid (Ex.right7_any T l.length ce l w3 rfl (HL.out.q Q3.out) hf)
      go_wp2_with fail
      refine CR.out.mono ?_
      rintro e w4 ⟨rfl, q4⟩
      have Q4 := Lib.hid (Q3.out.trans q4)
      clear q4 Q3 CR
      cases hrb : rightB l
      · clear hrb
        go_wp2_with fail
        go_ret
        exact ⟨rfl, HQ0.out.trans Q4.out⟩
      · obtain ⟨hmay, x, hrun, hwf, hnd, hdp, htx, hpos⟩ := right_tree hrb
        have h600 : l.length ≤ 600 := Nat.le_trans (Ex.total7_ge l) hf
        have HM := Lib.hid hmay
        have HRun := Lib.hid hrun
        have HWf := Lib.hid hwf
        have HND := Lib.hid hnd
        have HRB := Lib.hid hrb
        have HTX := Lib.hid htx
        have HG := Lib.hid (Ex.good_of hf hpos hmay hrun)
        clear hmay hrun hwf hnd hrb hll2 HZ hdp htx
        have CL := Lib.hid (load_any R A S B T L.length cl ks.length c (layI ks).length d names.length cb l.length ce L ks names l x 5000 0 w4 rfl rfl rfl rfl rfl (HST.out.q Q4.out) HOK.out (by omega) (HL.out.q Q4.out) HM.out HRun.out h600)
        obtain ⟨hp1, hp2, hp3⟩ := load_pre (limit := 5000) HOK.out HM.out HRun.out
        have hkx : ∀ k ∈ ks, k.length ≤ Go.maxLen := fun k hk => by have := HOK.out.kx (by omega) k hk; unfold Go.maxLen; omega
        have hn1 := hp2.len
        have hk1 := hp1.len
        have b0 := (HT.out.q Q4.out).c0
        have b1 := (HT.out.q Q4.out).c1
        generalize loadK L 5000 ks names l = K at *
        generalize loadN L 5000 ks names l = N at *
        generalize loadI L 5000 ks names l = I at *
        generalize loadE L 5000 ks names l = E at *
        have HP1 := Lib.hid hp1
        have HP2 := Lib.hid hp2
        have HKX := Lib.hid hkx
        have hks : ks.length ≤ 2000 := by have := HOK.out.klen; omega
        have hns : names.length ≤ 100 := by have := HOK.out.nlen; omega
        clear hp1 hp2 hkx hf hpos
        go_wp2_with fail
        refine CL.out.mono ?_
        rintro e w5 ⟨A5, c5, S5, d5, B5, e5, rfl, hk5, hs5, hn5, q5⟩
        have q6 := q5.alloc (Obj.cells #[.slice A5 K.length c5, .slice S5 (layI K).length d5] 26)
        have q56 := (Q.refl w5).alloc (Obj.cells #[.slice A5 K.length c5, .slice S5 (layI K).length d5] 26)
        have HT2 := Lib.hid (BoxT.new w5 (.slice A5 K.length c5) (.slice S5 (layI K).length d5) 26)
        have HK2 := Lib.hid ((hk5.q (Nat.le_refl _) q56).more q56.size)
        have HN2 := Lib.hid (hn5.q q56)
        have HST6 := Lib.hid (HST.out.q (Q4.out.trans q6))
        have HT6 := Lib.hid (HT.out.q (Q4.out.trans q6))
        have Q6 := Lib.hid (Q4.out.trans q6)
        clear hk5 hs5 hn5 q5 q6 q56 b0 b1 CL HT HST Q4
        have d1 : decide ((K.length : Int) < (ks.length : Int)) = false := decide_eq_false (by omega)
        have d2 : decide ((N.length : Int) < (names.length : Int)) = false := decide_eq_false (by omega)
        have d1' : decide (K.length < ks.length) = false := decide_eq_false (by omega)
        have d2' : decide (N.length < names.length) = false := decide_eq_false (by omega)
        have b0 := HT6.out.c0
        have b1 := HT2.out.c0
        go_wp2_with fail
        generalize w5.alloc (Obj.cells #[.slice A5 K.length c5, .slice S5 (layI K).length d5] 26) = w6 at *
        clear b0 b1
        go_loopw [12] (fun iv wr => ∃ k : Nat, k ≤ ks.length ∧ iv = .int .i64 k ∧ Hid (∃ d, wr = w6.drewN d)) (fun iv _ => ks.length - (intOf iv).toNat)
        case atStart => exact ⟨0, Nat.zero_le _, rfl, Lib.hid ⟨0, rfl⟩⟩
        case round =>
          obtain ⟨k, hk, rfl, HD⟩ := hrel
          have qd : Q w6 wr := q_drewN w6 HD.out
          have b0 := (HT6.out.q qd).c0
          have b1 := (HT2.out.q qd).c0
          have j0 : (0 : Int) ≤ (k : Int) := Int.natCast_nonneg _
          by_cases hlt : k < ks.length
          · obtain ⟨hkK, heq⟩ := pre_get HP1.out hlt
            obtain ⟨ad, rfl, hadb, a, c1, hc1, hcell, hi⟩ := (HST6.out.q qd).keys.at_ hlt
            obtain ⟨ad', rfl, hadb', a', c1', hc1', hcell', hi'⟩ := ((HK2.out.q (Nat.le_refl _) qd).more qd.size).at_ hkK
            rw [heq] at hcell' hi' hc1'
            have C : Hid (∀ n, Calls Tryz.prog 25 #[.slice a ks[k].length c1, .slice a' ks[k].length c1'] (wr.drewN n) fun e w' => e = .returned (.bool (Hs.eqL ks[k] ks[k])) ∧ ∃ m', w' = (wr.drewN n).drewN m') := fun n =>
              Hs.refInts_any a a' _ c1 _ c1' ks[k] ks[k] (wr.drewN n) rfl rfl hi hi' (HKX.out _ (List.getElem_mem hlt))
            rw [(Hs.eqL_iff ks[k] ks[k]).2 rfl] at C
            have j1 : (k : Int) < (ks.length : Int) := by omega
            have j2 : (k : Int) < (K.length : Int) := by omega
            generalize ks[k] = row at *
            clear hi hi' heq hc1 hc1' qd
            go_wp2_with fail
            go_quiet (first | (go_at_call 25; exact Calls.quiet_of (C.out _)))
            go_wp2_with fail
            go_roundw
            case rel => exact ⟨k + 1, by omega, by go_num, Lib.hid (by obtain ⟨d, rfl⟩ := HD.out; exact ⟨_, Hs.drewN_add' _ _ _⟩)⟩
            case measure => simp [intOf]; omega
          · go_wp2_with fail
            clear b0 b1
            go_loopw [13] (fun iv wx => ∃ k : Nat, k ≤ names.length ∧ iv = .int .i64 k ∧ Hid (∃ d, wx = w6.drewN d)) (fun iv _ => names.length - (intOf iv).toNat)
            case atStart => exact ⟨0, Nat.zero_le _, rfl, HD⟩
            case round =>
              obtain ⟨k, hk, rfl, HD⟩ := hrel
              have qd : Q w6 wr := q_drewN w6 HD.out
              have b0 := (HT6.out.q qd).c0
              have b1 := (HT2.out.q qd).c0
              have j0 : (0 : Int) ≤ (k : Int) := Int.natCast_nonneg _
              by_cases hlt2 : k < names.length
              · obtain ⟨hkN, heq⟩ := pre_get HP2.out hlt2
                obtain ⟨ad, rfl, had, hx0⟩ := Ex.str_at (HST6.out.q qd).nms hlt2
                obtain ⟨ad', rfl, had', hy0⟩ := Ex.str_at (HN2.out.q qd) hkN
                rw [heq] at hy0
                have j1 : (k : Int) < (names.length : Int) := by omega
                have j2 : (k : Int) < (N.length : Int) := by omega
                generalize names[k] = s at *
                clear heq qd
                go_wp2_with fail
                go_quiet (fail)
                go_wp2_with fail
                go_roundw
                case rel => exact ⟨k + 1, by omega, by go_num, Lib.hid (by obtain ⟨d, rfl⟩ := HD.out; exact ⟨_, Hs.drewN_add' _ _ _⟩)⟩
                case measure => simp [intOf]; omega
              · have d3 : decide ((K.length : Int) ≤ (ks.length : Int) + (l.length : Int)) = true := decide_eq_true (by omega)
                go_wp2_with fail
                go_ret
                exact ⟨by first | rfl | simp, HQ0.out.trans (Q6.out.trans qd)⟩
    · have d6 : decide (total7 l ≤ 600) = false := decide_eq_false hf
      rw [d6]
      clear hf
      go_wp2_with fail
      go_ret
      exact ⟨rfl, HQ0.out.trans Q3.out⟩
theorem reads (os : Os) {H : Type} (enc : TypeId × Value → H) : ∃ places, DataW.whole enc Tryz.prog ((laidWorld os).forCall (fun _ _ => 0) ⟨#[], #[.agg #[.slice none 0 0, .slice none 0 0, .slice none 0 0, .slice none 0 0, .slice none 0 0]], []⟩).memory Tryz.f5.params.toList Rows.loadStaysSpec.vars false (#[.agg #[.slice none 0 0, .slice none 0 0, .slice none 0 0, .slice none 0 0, .slice none 0 0]] : Array Value).toList 8 = some ([.agg [.nil, .agg [.nil, .nil], .nil, .nil]], [], places) :=
  ⟨[], by kernel_rfl⟩

set_option maxRecDepth 100000 in
theorem contract (H : Type) (enc : TypeId × Value → H) (W : World) (base : Nat) (args : Array Value) (ds gs : List (DataW H)) (before : List MemPlace)
    (hval : ∀ (j : Nat) t v, Tryz.f5.params[j]? = some t → args[j]? = some v → Value.okWide Tryz.prog W .any base t v)
    (hW : DataW.Whole enc Tryz.prog Tryz.f5.params.toList Rows.loadStaysSpec.vars false W args.toList ds gs before)
    (hsz0 : (DataW.weightsEach Tryz.prog (Tryz.f5.params.toList ++ Rows.loadStaysSpec.plain.varTypes Tryz.prog) (ds ++ gs)).all (· ≤ reachBytes) = true) :
    Calls Tryz.prog 5 args W fun e W' => ∃ v, e = .returned v ∧ Rows.loadStaysSpec.post enc Tryz.prog Tryz.f5 false true false false W args v W' := by
  have hW' := hW
  obtain ⟨p, q, hA0, hV, rfl, hfz, hnd⟩ := hW
  have hA : DataW.TrodAll enc Tryz.prog W 0 (fun _ => true) true Tryz.f5.params.toList args.toList ds p := hA0
  rw [Tryz.params5] at hA hval
  obtain ⟨v0, vs0, d0, ds0, p0, q0, hargs, rfl, rfl, h0, r0⟩ := trodAll_cons hA
  obtain ⟨rfl, rfl, rfl⟩ := trodAll_nil r0
  obtain rfl : args = #[v0] := by cases args; simp_all
  obtain ⟨rfl, rfl⟩ := trodVars_none hV
  have z0 : ∀ n ∈ d0.weights Tryz.prog 52, n ≤ reachBytes := fun n hn => by
    have := List.all_eq_true.1 hsz0 n (DataW.weights_mem_each (j := 0) (t := 52) (d := d0) (by rw [Tryz.params5]; rfl) rfl n hn)
    simpa using this
  clear hsz0
  obtain ⟨R, nl, cl, L, A, n, c, S, m, d, ks, sl, B, nb, cb, names, E, ne, ce, l, rfl, a1, a2, a3, a4, b1, b2, b3, b4, b5, b6, b7, e1, e2, f1, f2, f3, f4, f5⟩ := Ex.open_LoadStaysIn (hval 0 52 v0 rfl rfl) h0 z0
  clear hA0
  refine (walk R A S B nl cl n c m d nb cb L ks sl names E ne ce l W a1 a2 a3 a4 b1 b2 b3 b4 b5 b6 b7 e1 e2 f1 f2 f3 f4 f5).mono fun e W' ⟨he, hg⟩ => ?_
  subst he
  exact ⟨_, rfl, post_law laid (by rw [Tryz.params5]; decide +kernel) rfl rfl (by kernel_rfl) Tryz.underlying4 hW' hg⟩

set_option maxRecDepth 100000 in
theorem lifted (os : Os) (started : os.Started) (H : Type) (enc : TypeId × Value → H) (F : Stop.Interp) :
    ReturnsInHanded {} Tryz.checked os 5 .any ((OpenSpec.ofChange Rows.loadStaysSpec).preRow enc Tryz.prog Tryz.f5 Rows.loadStaysRow.domain false Rows.loadStaysRow.laid) (((OpenSpec.ofChange Rows.loadStaysSpec).at F).post enc Tryz.prog Tryz.f5 false true false false) := by
  obtain ⟨places, hx⟩ := reads os enc
  refine returnsInHanded_of_row (C := Tryz.checked) (s := OpenSpec.ofChange Rows.loadStaysSpec) own started (by kernel_rfl) Tryz.func5
    (witness_row_at (enc := enc) (C := Tryz.checked) false (laidWorld os) #[.agg #[.slice none 0 0, .slice none 0 0, .slice none 0 0, .slice none 0 0, .slice none 0 0]] rfl (laid_vars os _) (by kernel_rfl) (by kernel_rfl)
      (OpenSpec.preRow_of_cond 8 hx (by kernel_rfl) (fun k hk => by cases hk) (by kernel_rfl) (laid_met os _))) ?_
  intro W base args ds gs before hval hW _ _ hsz _ _ _
  exact contract H enc W base args ds gs before hval hW hsz

theorem said : Rows.LoadStaysSaid :=
  OpenClaim.holds_of_cond 5 Tryz.f5 rfl rfl rfl rfl rfl rfl rfl ⟨rfl, rfl, rfl, rfl, rfl⟩ rfl rfl rfl rfl rfl (by kernel_rfl) Tryz.func5 (by kernel_rfl)
    (of_decide_eq_true (by kernel_rfl)) (by unfold Func.isWrapper; first | (rw [if_pos (by decide +kernel)]; kernel_rfl) | (rw [if_neg (by decide +kernel)]; exact ⟨rfl, rfl⟩))
    (fun os started H enc _ F => by rw [OpenClaim.pre_eq_preRow]; exact lifted os started H enc F)

theorem plain (f : FuncId) (fn : Func) (hf : Tryz.pinned.checked.prog.funcNamed "tammy/tammylaw09.LoadStays" = some f) (hfn : Tryz.pinned.checked.prog.funcs[f]? = some fn) :
    false = Tryz.pinned.checked.prog.looks [] ∧ ∀ (j : Nat) t, fn.params[j]? = some t → Tryz.pinned.checked.prog.wantsStandIn t = false := by
  obtain rfl : f = 5 := Option.some.inj ((show Tryz.prog.funcNamed "tammy/tammylaw09.LoadStays" = some 5 by kernel_rfl).symm.trans hf) |>.symm
  obtain rfl : fn = Tryz.f5 := (Option.some.inj (Tryz.func5.symm.trans hfn)).symm
  refine ⟨by kernel_rfl, fun j t ht => ?_⟩
  rw [Tryz.params5] at ht
  have hm := Array.mem_of_getElem? ht
  simp only [List.mem_toArray, List.mem_cons, List.not_mem_nil, or_false] at hm
  rcases hm with rfl
  · exact (show Tryz.prog.wantsStandIn 52 = false by kernel_rfl)

/-- THE STATEMENT: the tied card -/
theorem card : Rows.LoadStaysCardSaid :=
  Claim7.holds_tied_plain_at .later [] _ _ _ _ said (fun _ h => by cases h) (by kernel_rfl) (fun _ h => by cases h) loadStays_row_tie rfl ⟨rfl, rfl⟩ (by kernel_rfl) rfl plain (by kernel_rfl)
end Go.Proofs.YtdmdcggmgipdbaaGreatDoor.loadStays
