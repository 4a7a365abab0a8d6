/-
  StepAll holds: All's two lists are those of the document; nothing said beyond 100 keys.
-/
import Derived.Test.YtjehccemilefgaaPp
import Derived.Test.YtjehccemilefgaaRows
import Derived.OpenShut
import Derived.RegionTactic
import Derived.Deep.CutBlock
namespace Go.Proofs.Ytjehccemilefgaa.stepAll
open Go.ChangeShapes Go.WideShapes Go.ChangeAt Go.RowKit Kit Rw Ex St
open Go.Proofs.Ytjehccemilefgaa.Sg (Sig Row Sized)
open Go.Proofs.Ytjehccemilefgaa.Hs (Ints Keys BoxT)
open Go.Proofs.Ytjehccemilefgaa.Tm (Tm Store termAt isPl isPl_iff Wf of10B)
open Go.Proofs.Ytjehccemilefgaa.Ld (tmP)
theorem kind_few {L : List Sig} {ks : List (List Int)} (h : ks.length ≤ 100) (kd : Int) (p : PI) : (kindC L ks kd p).length ≤ 1000000 :=
  Nat.le_trans (kindC_len kd p) (Nat.le_trans (Nat.mul_le_mul h h) (by decide))
set_option maxRecDepth 100000 in
set_option maxHeartbeats 16000000 in
theorem walk (R A S : Option Addr) (nl cl n c m d : Nat) (L : List Sig) (ks : List (List Int)) (sl : List Int) (x y : Int) (w : World) (hnl : nl = L.length) (hr : Row w w.heap.size R L) (hll : L.length ≤ maxLen) (hsz : Sized L) (hn : n = ks.length) (hm : m = sl.length) (hk : Keys w w.heap.size A ks) (hSi : Ints w w.heap.size S sl) (hl : ks.length ≤ 1152921504606846976) (hs : ∀ k ∈ ks, k.length ≤ 1152921504606846976) (hsl : sl.length ≤ 1152921504606846976) (hcap : n ≤ c) (hx : (Lit.int .i64 x).wf = true) (hy : (Lit.int .i64 y).wf = true) :
    Calls Try.prog 4 #[.agg #[.slice R nl cl, .slice A n c, .slice S m d, .int .i64 x, .int .i64 y]] w fun e w' => e = .returned (.bool true) ∧ Q w w' := by
  subst hnl hn hm
  have HQ0 := Lib.hid (((Q.refl w).alloc (Obj.cells #[.slice R L.length cl, .slice A ks.length c, .slice S sl.length d, .int .i64 x, .int .i64 y] 39)).alloc (Obj.cells #[Value.slice A ks.length c, Value.slice S sl.length d] 26))
  have HX := Lib.hid (own_new8 w [.slice R L.length cl, .slice A ks.length c, .slice S sl.length d, .int .i64 x, .int .i64 y] 39)
  have HT := Lib.hid (BoxT.new (w.alloc (Obj.cells #[.slice R L.length cl, .slice A ks.length c, .slice S sl.length d, .int .i64 x, .int .i64 y] 39)) (Value.slice A ks.length c) (Value.slice S sl.length d) 26)
  have HRow := Lib.hid hr
  have HKy := Lib.hid hk
  have CF := Lib.hid (fun (U : World) (p : Q w U) => Tm.of10_any R A S L.length cl ks.length c sl.length d L ks sl U rfl ((hr.q (Nat.le_refl _) p).more p.size) rfl rfl ((hk.q (Nat.le_refl _) p).more p.size) ((hSi.q (Nat.le_refl _) p).more p.size) hll hsz hl hs hsl)
  clear hr hll hsz hk hSi hl hs hsl
  cases hof : of10B L ks sl
  · rw [hof] at CF
    clear hof hx hy
    go_enter Try.func4, Try.ntmps4
    go_upto_region 1 with fail
    generalize hW : w.alloc (Obj.cells #[.slice R L.length cl, .slice A ks.length c, .slice S sl.length d, .int .i64 x, .int .i64 y] 39) = W at *
    clear hW
    have x0 := (HX.out.2 0 _ rfl).1
    have x1 := (HX.out.2 1 _ rfl).1
    have x2 := (HX.out.2 2 _ rfl).1
    have HX2 := Lib.hid (HX.out.q ((Q.refl W).alloc (Obj.cells #[Value.slice A ks.length c, Value.slice S sl.length d] 26)))
    go_upto_region 3 with fail
    generalize hV : W.alloc (Obj.cells #[Value.slice A ks.length c, Value.slice S sl.length d] 26) = V at *
    clear hV x0 x1 x2
    have x3 := (HX2.out.2 3 _ rfl).1
    have x4 := (HX2.out.2 4 _ rfl).1
    go_upto_region 5 with fail
    clear x3 x4
    go_wp2_with fail
    refine (shown10_any _).mono ?_
    rintro e w1 ⟨rfl, q1⟩
    have p1 := Lib.hid (HQ0.out.trans q1)
    have b0 := (HT.out.q q1).c0
    have b1 := (HT.out.q q1).c1
    have HT1 := Lib.hid (HT.out.q q1)
    clear q1
    go_wp2_with fail
    refine (CF.out _ p1.out).mono ?_
    rintro e w2 ⟨rfl, q2⟩
    have p2 := Lib.hid (p1.out.trans q2)
    have HT2 := Lib.hid (HT1.out.q q2)
    clear q2 b0 b1
    have b0 := HT2.out.c0
    have b1 := HT2.out.c1
    go_wp2_with fail
    go_ret
    exact ⟨rfl, p2.out⟩
  · rw [hof] at CF
    obtain ⟨hS, hl8, hs5, h2k⟩ := of10_ok hof
    clear hof
    by_cases hbig : 100 < ks.length
    · have dI : decide (100 < ks.length) = true := decide_eq_true hbig
      have dI' : decide ((100 : Int) < (ks.length : Int)) = true := decide_eq_true (by omega)
      clear hS hl8 hs5 h2k hx hy hbig
      go_enter Try.func4, Try.ntmps4
      go_upto_region 1 with fail
      generalize hW : w.alloc (Obj.cells #[.slice R L.length cl, .slice A ks.length c, .slice S sl.length d, .int .i64 x, .int .i64 y] 39) = W at *
      clear hW
      have x0 := (HX.out.2 0 _ rfl).1
      have x1 := (HX.out.2 1 _ rfl).1
      have x2 := (HX.out.2 2 _ rfl).1
      have HX2 := Lib.hid (HX.out.q ((Q.refl W).alloc (Obj.cells #[Value.slice A ks.length c, Value.slice S sl.length d] 26)))
      go_upto_region 3 with fail
      generalize hV : W.alloc (Obj.cells #[Value.slice A ks.length c, Value.slice S sl.length d] 26) = V at *
      clear hV x0 x1 x2
      have x3 := (HX2.out.2 3 _ rfl).1
      have x4 := (HX2.out.2 4 _ rfl).1
      go_upto_region 5 with fail
      clear x3 x4
      go_wp2_with fail
      refine (shown10_any _).mono ?_
      rintro e w1 ⟨rfl, q1⟩
      have p1 := Lib.hid (HQ0.out.trans q1)
      have b0 := (HT.out.q q1).c0
      have b1 := (HT.out.q q1).c1
      have HT1 := Lib.hid (HT.out.q q1)
      clear q1
      go_wp2_with fail
      refine (CF.out _ p1.out).mono ?_
      rintro e w2 ⟨rfl, q2⟩
      have p2 := Lib.hid (p1.out.trans q2)
      have HT2 := Lib.hid (HT1.out.q q2)
      clear q2 b0 b1
      have b0 := HT2.out.c0
      have b1 := HT2.out.c1
      go_wp2_with fail
      go_ret
      exact ⟨rfl, p2.out⟩
    · have dI : decide (100 < ks.length) = false := decide_eq_false hbig
      have dI' : decide ((100 : Int) < (ks.length : Int)) = false := decide_eq_false (by omega)
      have hks : ks.length ≤ 100 := by omega
      have CA := Lib.hid (fun (U : World) (p : Q w U) => all10_any R A S L.length cl ks.length c sl.length d L ks x y U rfl ((HRow.out.q (Nat.le_refl _) p).more p.size) rfl ((HKy.out.q (Nat.le_refl _) p).more p.size) hS hl8 hs5 hcap hks ⟨wf_of hx, wf_of hy⟩)
      have CB := Lib.hid (fun (U : World) (p : Q w U) => refAll10_any R A S L.length cl ks.length c sl.length d L ks x y U rfl ((HRow.out.q (Nat.le_refl _) p).more p.size) rfl ((HKy.out.q (Nat.le_refl _) p).more p.size) hS hl8 hks)
      have HL2 : Hid ((kindC L ks 2 (x, y)).length ≤ 1000000) := kind_few hks _ _
      have HL3 : Hid ((kindC L ks 3 (x, y)).length ≤ 1000000) := kind_few hks _ _
      clear hS hl8 hs5 h2k hx hy hbig hks
      go_enter Try.func4, Try.ntmps4
      go_upto_region 1 with fail
      generalize hW : w.alloc (Obj.cells #[.slice R L.length cl, .slice A ks.length c, .slice S sl.length d, .int .i64 x, .int .i64 y] 39) = W at *
      clear hW
      have x0 := (HX.out.2 0 _ rfl).1
      have x1 := (HX.out.2 1 _ rfl).1
      have x2 := (HX.out.2 2 _ rfl).1
      have HX2 := Lib.hid (HX.out.q ((Q.refl W).alloc (Obj.cells #[Value.slice A ks.length c, Value.slice S sl.length d] 26)))
      go_upto_region 3 with fail
      generalize hV : W.alloc (Obj.cells #[Value.slice A ks.length c, Value.slice S sl.length d] 26) = V at *
      clear hV x0 x1 x2
      have x3 := (HX2.out.2 3 _ rfl).1
      have x4 := (HX2.out.2 4 _ rfl).1
      go_upto_region 5 with fail
      clear x3 x4
      go_wp2_with fail
      refine (shown10_any _).mono ?_
      rintro e w1 ⟨rfl, q1⟩
      have p1 := Lib.hid (HQ0.out.trans q1)
      have b0 := (HT.out.q q1).c0
      have b1 := (HT.out.q q1).c1
      have HT1 := Lib.hid (HT.out.q q1)
      clear q1
      go_wp2_with fail
      refine (CF.out _ p1.out).mono ?_
      rintro e w2 ⟨rfl, q2⟩
      have p2 := Lib.hid (p1.out.trans q2)
      have HT2 := Lib.hid (HT1.out.q q2)
      clear q2 b0 b1
      have b0 := HT2.out.c0
      have b1 := HT2.out.c1
      go_wp2_with fail
      refine (CA.out _ p2.out).mono ?_
      rintro e w3 ⟨A3, c3, B3, d3, rfl, r3, s3, q3⟩
      have HA3 := Lib.hid r3
      have HB3 := Lib.hid s3
      have p3 := Lib.hid (p2.out.trans q3)
      have HT3 := Lib.hid (HT2.out.q q3)
      clear b0 b1 q3 r3 s3
      have b0 := HT3.out.c0
      have b1 := HT3.out.c1
      go_wp2_with fail
      refine (CB.out _ p3.out).mono ?_
      rintro e w4 ⟨A4, c4, B4, d4, rfl, r4, s4, q4⟩
      have HA4 := Lib.hid r4
      have HB4 := Lib.hid s4
      have p4 := Lib.hid (p3.out.trans q4)
      have HA3' := Lib.hid (HA3.out.q q4)
      have HB3' := Lib.hid (HB3.out.q q4)
      clear b0 b1 q4 r4 s4
      go_wp2_with fail
      refine (refPairsEq_any _ _ _ _ _ _ _ _ _ rfl rfl HA3'.out HA4.out HL2.out).mono ?_
      rintro e w5 ⟨rfl, q5⟩
      rw [show sameQ (kindC L ks 2 (x, y)) (kindC L ks 2 (x, y)) = true from (sameQ_iff _ _).2 rfl]
      have p5 := Lib.hid (p4.out.trans q5)
      have HB3'' := Lib.hid (HB3'.out.q q5)
      have HB4' := Lib.hid (HB4.out.q q5)
      clear q5
      go_wp2_with fail
      refine (refPairsEq_any _ _ _ _ _ _ _ _ _ rfl rfl HB3''.out HB4'.out HL3.out).mono ?_
      rintro e w6 ⟨rfl, q6⟩
      rw [show sameQ (kindC L ks 3 (x, y)) (kindC L ks 3 (x, y)) = true from (sameQ_iff _ _).2 rfl]
      have p6 := Lib.hid (p5.out.trans q6)
      clear q6
      go_wp2_with fail
      go_ret
      exact ⟨rfl, p6.out⟩

set_option maxRecDepth 100000 in
theorem lifted (os : Os) (started : os.Started) (H : Type) (enc : TypeId × Value → H) :
    ReturnsInHanded {} Try.checked os 4 .any (Rows.stepAllSpec.pre6 enc Try.prog Try.f4 Rows.stepAllRow.domain false) (Rows.stepAllSpec.post enc Try.prog Try.f4 false true false false) := by
  refine returnsInHanded_of_change_sized (C := Try.checked) own started (by kernel_rfl) Try.func4
    (ChangeSpec.witness6 (enc := enc) (C := Try.checked) false ⟨#[], #[.agg #[.slice none 0 0, .slice none 0 0, .slice none 0 0, .int .i64 0, .int .i64 0]], []⟩ 8 (by kernel_rfl) (by kernel_rfl) (by kernel_rfl) (by kernel_rfl)) ?_
  intro W base args ds gs before hval0 hW hcnd hsz0 _
  have hval : ∀ (j : Nat) t v, Try.f4.params[j]? = some t → args[j]? = some v → Value.okWide Try.prog W .any base t v := hval0
  have hW' := hW
  obtain ⟨p, q, hA0, hV, rfl, hfz, hnd⟩ := hW
  have hA : DataW.TrodAll enc Try.prog W 0 (fun _ => true) true Try.f4.params.toList args.toList ds p := hA0
  rw [Try.params4] at hA hval
  obtain ⟨v0, vs0, d0, ds0, p0, q0, hargs, rfl, rfl, h0, r0⟩ := trodAll_cons hA
  obtain ⟨rfl, rfl, rfl⟩ := trodAll_nil r0
  obtain rfl : args = #[v0] := by cases args; simp_all
  obtain ⟨rfl, rfl⟩ := trodVars_none hV
  have z0 : ∀ n ∈ d0.weights Try.prog 39, n ≤ reachBytes := fun n hn => by
    have := List.all_eq_true.1 hsz0 n (DataW.weights_mem_each (j := 0) (t := 39) (d := d0) (by rw [Try.params4]; rfl) rfl n hn)
    simpa using this
  obtain ⟨R, nl, cl, L, A, n, c, S, m, d, ks, sl, x, y, rfl, a1, a2, a3, a4, hn, hm, hk, hS, hl, hs, hsl, hcap, hx, hy⟩ := open_StepAllIn (hval 0 39 v0 rfl rfl) h0 z0
  clear hA0 hval0
  refine (walk R A S nl cl n c m d L ks sl x y _ a1 a2 a3 a4 hn hm hk hS hl hs hsl hcap hx hy).mono fun e W' ⟨he, hg⟩ => ?_
  subst he
  exact ⟨_, rfl, post_law laid (by rw [Try.params4]; decide +kernel) rfl rfl (by kernel_rfl) Try.underlying4 hW' hg⟩

/-- THE STATEMENT -/
theorem proved : Rows.StepAllSaid :=
  OpenClaim.holds_of_wide 4 Try.f4 rfl rfl rfl rfl rfl rfl rfl ⟨rfl, rfl, rfl, rfl, rfl⟩ rfl rfl rfl rfl rfl (by kernel_rfl) Try.func4 (by kernel_rfl)
    (of_decide_eq_true (by kernel_rfl)) (by unfold Func.isWrapper; first | (rw [if_pos (by decide +kernel)]; kernel_rfl) | (rw [if_neg (by decide +kernel)]; exact ⟨rfl, rfl⟩))
    (fun os started H enc _ => lifted os started H enc)
end Go.Proofs.Ytjehccemilefgaa.stepAll
