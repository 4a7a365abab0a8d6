/-
  StepSided holds.
-/
import Derived.Test.YtjehccemilefgaaPp
import Derived.Test.YtjehccemilefgaaRows
import Derived.OpenShut
import Derived.RegionTactic
import Derived.Deep.CutBlock
namespace Go.Proofs.Ytjehccemilefgaa.stepSided
open Go.ChangeShapes Go.WideShapes Go.ChangeAt Go.RowKit Kit Rw Ex St
open Go.Proofs.Ytjehccemilefgaa.Sg (Sig Row Sized)
open Go.Proofs.Ytjehccemilefgaa.Hs (Ints Keys BoxT)
open Go.Proofs.Ytjehccemilefgaa.Tm (Tm Store termAt isPl isPl_iff Wf of10B)
open Go.Proofs.Ytjehccemilefgaa.Ld (tmP)
theorem key_at {w : World} {B : Nat} {A : Option Addr} {L : List Sig} {ks : List (List Int)} (hk : Keys w B A ks) (hS : Store L ks) {i : Nat} (hi : i < ks.length) :
    ∃ ad ae kl c, A = some ad ∧ ad.block < B ∧ w.cell? (ad.add i) = some (.slice (some ae) kl c) ∧ 3 ≤ kl ∧ ae.block < B ∧ w.cell? ae = some (.int .i64 (tmP ks i).k) ∧ w.cell? (ae.add 1) = some (.int .i64 (tmP ks i).s) := by
  obtain ⟨h3, _, _⟩ := Ld.parts_ahead hS (List.getElem?_eq_getElem hi)
  obtain ⟨ad, e, hb, a, c, _, hc, hI⟩ := hk.at_ hi
  obtain ⟨ae, e2, hb2, h0⟩ := hI.at_ (k := 0) (by omega)
  rw [show ae.add 0 = ae by simp [Addr.add]] at h0
  obtain ⟨ae2, e3, _, h1⟩ := hI.at_ (k := 1) (by omega)
  have : ae2 = ae := by rw [e2] at e3; injection e3 with e3; exact e3.symm
  subst this e2
  have t0 : (tmP ks i).k = ks[i][0]'(by omega) := by rw [tmP_is hi]; show ks[i][0]?.getD 0 = _; rw [List.getElem?_eq_getElem (by omega)]; rfl
  have t1 : (tmP ks i).s = ks[i][1]'(by omega) := by rw [tmP_is hi]; show ks[i][1]?.getD 0 = _; rw [List.getElem?_eq_getElem (by omega)]; rfl
  exact ⟨ad, ae2, _, c, e, hb, hc, h3, hb2, by rw [t0]; exact h0, by rw [t1]; exact h1⟩
set_option maxRecDepth 100000 in
set_option maxHeartbeats 16000000 in
theorem walk (R A S : Option Addr) (nl cl n c m d : Nat) (L : List Sig) (ks : List (List Int)) (sl : List Int) (id : Int) (w : World) (hnl : nl = L.length) (hr : Row w w.heap.size R L) (hll : L.length ≤ maxLen) (hsz : Sized L) (hn : n = ks.length) (hm : m = sl.length) (hk : Keys w w.heap.size A ks) (hSi : Ints w w.heap.size S sl) (hl : ks.length ≤ 1152921504606846976) (hs : ∀ k ∈ ks, k.length ≤ 1152921504606846976) (hsl : sl.length ≤ 1152921504606846976) (hcap : n ≤ c) :
    Calls Try.prog 8 #[.slice R nl cl, .agg #[.slice A n c, .slice S m d], .int .i64 id] w fun e w' => e = .returned (.bool true) ∧ Q w w' := by
  subst hnl hn hm
  have HQ0 := Lib.hid ((Q.refl w).alloc (Obj.cells #[Value.slice A ks.length c, Value.slice S sl.length d] 26))
  have HT := Lib.hid (BoxT.new w (Value.slice A ks.length c) (Value.slice S sl.length d) 26)
  have HRow := Lib.hid hr
  have HKy := Lib.hid hk
  have CF := Lib.hid (fun (U : World) (p : Q w U) => Tm.of10_any R A S L.length cl ks.length c sl.length d L ks sl U rfl ((hr.q (Nat.le_refl _) p).more p.size) rfl rfl ((hk.q (Nat.le_refl _) p).more p.size) ((hSi.q (Nat.le_refl _) p).more p.size) hll hsz hl hs hsl)
  clear hr hll hsz hk hSi hl hs hsl
  cases hof : of10B L ks sl
  · rw [hof] at CF
    clear hof
    go_enter Try.func8, Try.ntmps8
    go_upto_region 1 with fail
    generalize hV : w.alloc (Obj.cells #[Value.slice A ks.length c, Value.slice S sl.length d] 26) = V at *
    clear hV
    go_wp2_with fail
    refine (shown10_any _).mono ?_
    rintro e w1 ⟨rfl, q1⟩
    have p1 := Lib.hid (HQ0.out.trans q1)
    have b0 := (HT.out.q q1).c0
    have b1 := (HT.out.q q1).c1
    have HT1 := Lib.hid (HT.out.q q1)
    clear q1
    go_wp2_with fail
    refine (CF.out _ p1.out).mono ?_
    rintro e w2 ⟨rfl, q2⟩
    have p2 := Lib.hid (p1.out.trans q2)
    have HT2 := Lib.hid (HT1.out.q q2)
    clear q2 b0 b1
    have b0 := HT2.out.c0
    have b1 := HT2.out.c1
    go_wp2_with fail
    go_ret
    exact ⟨rfl, p2.out⟩
  · rw [hof] at CF
    obtain ⟨hS, hl8, hs5, h2k⟩ := of10_ok hof
    clear hof
    by_cases hp : isPl id ks.length = true
    · obtain ⟨p0, p1⟩ := (isPl_iff _ _).1 hp
      obtain ⟨n0, rfl⟩ := Int.eq_ofNat_of_zero_le p0
      have hn0 : n0 < ks.length := by omega
      have hn9 : n0 < 100000 := by omega
      have CS := Lib.hid (fun (s : UInt8) (U : World) (p : Q w U) => sided10_any R A S L.length cl ks.length c sl.length d L ks (n0 : Int) s U rfl ((HRow.out.q (Nat.le_refl _) p).more p.size) rfl ((HKy.out.q (Nat.le_refl _) p).more p.size) hS hl8 hs5 hcap (by omega))
      obtain ⟨⟨sp, sq, sb⟩, hP⟩ : ∃ P, sdP L ks n0 = P := ⟨_, rfl⟩
      have hF : ∀ s, sidedF L ks (n0 : Int) s = onF s (sdP L ks n0) := fun s => by unfold sidedF; rw [hp, Bool.true_and, Int.toNat_natCast]
      have C76 : Hid (∀ U, Q w U → Calls Try.prog 14 #[.slice R L.length cl, .agg #[.slice A ks.length c, .slice S sl.length d], .int .i64 (n0 : Int), .int .u8 76] U fun e w' => e = .returned (.bool sp) ∧ Q U w') := fun U p => by have := CS.out 76 U p; rw [hF, hP] at this; exact this
      have C82 : Hid (∀ U, Q w U → Calls Try.prog 14 #[.slice R L.length cl, .agg #[.slice A ks.length c, .slice S sl.length d], .int .i64 (n0 : Int), .int .u8 82] U fun e w' => e = .returned (.bool sq) ∧ Q U w') := fun U p => by have := CS.out 82 U p; rw [hF, hP] at this; exact this
      have C66 : Hid (∀ U, Q w U → Calls Try.prog 14 #[.slice R L.length cl, .agg #[.slice A ks.length c, .slice S sl.length d], .int .i64 (n0 : Int), .int .u8 66] U fun e w' => e = .returned (.bool sb) ∧ Q U w') := fun U p => by have := CS.out 66 U p; rw [hF, hP] at this; exact this
      have hE := both_each hS n0 hn0
      have hPl := plain_both hS n0 hn0
      have hU := union_sides hS hn0
      have hI := inter_sides hS hn0
      rw [hP] at hE hPl hU hI
      have HE : Hid (sb = true → sp = true ∧ sq = true) := hE
      have HPl : Hid ((∀ k, k ≤ n0 → (tmP ks k).k ≤ 3) → sb = true) := hPl
      have HU : Hid ((tmP ks n0).k = 4 → sq = false ∧ sb = false) := hU
      have HI : Hid ((tmP ks n0).k = 5 ∨ (tmP ks n0).k = 6 → sp = false ∧ sb = false) := hI
      have HS := Lib.hid hS
      have d0 : decide ((n0 : Int) < 0) = false := decide_eq_false (by omega)
      have d1 : decide ((ks.length : Int) ≤ (n0 : Int)) = false := decide_eq_false (by omega)
      clear hE hPl hU hI hP hF CS hS hl8 hs5 h2k hp p0 p1
      go_enter Try.func8, Try.ntmps8
      go_upto_region 1 with fail
      generalize hV : w.alloc (Obj.cells #[Value.slice A ks.length c, Value.slice S sl.length d] 26) = V at *
      clear hV
      go_wp2_with fail
      refine (shown10_any _).mono ?_
      rintro e w1 ⟨rfl, q1⟩
      have p1 := Lib.hid (HQ0.out.trans q1)
      have b0 := (HT.out.q q1).c0
      have b1 := (HT.out.q q1).c1
      have HT1 := Lib.hid (HT.out.q q1)
      clear q1
      go_wp2_with fail
      refine (CF.out _ p1.out).mono ?_
      rintro e w2 ⟨rfl, q2⟩
      have p2 := Lib.hid (p1.out.trans q2)
      have HT2 := Lib.hid (HT1.out.q q2)
      clear q2 b0 b1
      have b0 := HT2.out.c0
      have b1 := HT2.out.c1
      go_wp2_with fail
      refine (C76.out _ p2.out).mono ?_
      rintro e w3 ⟨rfl, q3⟩
      have p3 := Lib.hid (p2.out.trans q3)
      have HT3 := Lib.hid (HT2.out.q q3)
      clear b0 b1 q3
      have b0 := HT3.out.c0
      have b1 := HT3.out.c1
      go_wp2_with fail
      refine (C82.out _ p3.out).mono ?_
      rintro e w4 ⟨rfl, q4⟩
      have p4 := Lib.hid (p3.out.trans q4)
      have HT4 := Lib.hid (HT3.out.q q4)
      clear b0 b1 q4
      have b0 := HT4.out.c0
      have b1 := HT4.out.c1
      go_wp2_with fail
      refine (C66.out _ p4.out).mono ?_
      rintro e w5 ⟨rfl, q5⟩
      have p5 := Lib.hid (p4.out.trans q5)
      have HT5 := Lib.hid (HT4.out.q q5)
      clear b0 b1 q5
      have b0 := HT5.out.c0
      have b1 := HT5.out.c1
      go_wp2_with fail
      clear b0 b1 d0 d1
      go_loopw [11, 12] (fun pv iv wr => ∃ (k : Nat) (b : Bool), k ≤ n0 + 1 ∧ iv = .int .i64 k ∧ pv = .bool b ∧ Hid (b = true → ∀ j, j < k → (tmP ks j).k ≤ 3) ∧ Hid (Q w5 wr)) (fun _ iv _ => n0 + 1 - (intOf iv).toNat)
      case atStart => exact ⟨0, true, by omega, rfl, rfl, Lib.hid (fun _ j hj => by omega), Lib.hid (Q.refl w5)⟩
      case round =>
        obtain ⟨k, b, hk, rfl, rfl, HB, HQ⟩ := hrel
        have b0 := (HT5.out.q HQ.out).c0
        have b1 := (HT5.out.q HQ.out).c1
        have HKr := Lib.hid ((HKy.out.keep (p5.out.trans HQ.out)))
        by_cases hlt : k ≤ n0
        · have j1 : decide ((k : Int) ≤ (n0 : Int)) = true := decide_eq_true (by omega)
          have hkl : k < ks.length := by omega
          obtain ⟨ad, ae, kl, ce, rfl, had, x0, h3, hae, x1, _⟩ := key_at HKr.out HS.out hkl
          have j2 : (k : Int) < (ks.length : Int) := by omega
          have j3 : (0 : Int) ≤ (k : Int) := Int.natCast_nonneg _
          have j4 : (0 : Int) < (kl : Int) := by omega
          have j5 : 0 < kl := by omega
          cases b
          · go_wp2_with fail
            go_roundw
            case rel => exact ⟨k + 1, false, by omega, by go_num, rfl, Lib.hid (fun h => Bool.noConfusion h), HQ⟩
            case measure => simp [intOf]; omega
          · by_cases hk3 : (tmP ks k).k ≤ 3
            · have d3 : decide ((tmP ks k).k ≤ 3) = true := decide_eq_true hk3
              have HB2 : Hid (true = true → ∀ j, j < k + 1 → (tmP ks j).k ≤ 3) := fun _ j hj => by
                rcases Nat.lt_or_eq_of_le (Nat.le_of_lt_succ hj) with h | h
                · exact HB.out rfl j h
                · rw [h]; exact hk3
              clear hk3
              generalize (tmP ks k).k = kd at *
              go_wp2_with fail
              go_roundw
              case rel => exact ⟨k + 1, true, by omega, by go_num, rfl, HB2, HQ⟩
              case measure => simp [intOf]; omega
            · have d3 : decide ((tmP ks k).k ≤ 3) = false := decide_eq_false hk3
              clear hk3
              generalize (tmP ks k).k = kd at *
              go_wp2_with fail
              go_roundw
              case rel => exact ⟨k + 1, false, by omega, by go_num, rfl, Lib.hid (fun h => Bool.noConfusion h), HQ⟩
              case measure => simp [intOf]; omega
        · have j1 : decide ((k : Int) ≤ (n0 : Int)) = false := decide_eq_false (by omega)
          obtain ⟨ad, ae, kl, ce, rfl, had, x0, h3, hae, x1, _⟩ := key_at HKr.out HS.out hn0
          have j2 : (n0 : Int) < (ks.length : Int) := by omega
          have j3 : (0 : Int) ≤ (n0 : Int) := Int.natCast_nonneg _
          have j4 : (0 : Int) < (kl : Int) := by omega
          have j5 : 0 < kl := by omega
          have hE := HE.out
          have hPl : b = true → sb = true := fun h => HPl.out fun j hj => HB.out h j (by omega)
          have hU := HU.out
          have hI := HI.out
          have pz := Lib.hid (p5.out.trans HQ.out)
          have j1' : decide (k ≤ n0) = false := decide_eq_false hlt
          clear HE HPl HU HI HB
          generalize (tmP ks n0).k = kd at *
          have hkd : kd = 4 ∨ kd = 5 ∨ kd = 6 ∨ ((kd != 4) = true ∧ (kd != 5) = true ∧ (kd != 6) = true) := by
            simp only [bne_iff_ne]
            omega
          rcases hkd with rfl | rfl | rfl | ⟨d4, d5, d6⟩ <;> cases sb <;> cases sp <;> cases sq <;> cases b <;> first
            | exact absurd (hE rfl) (by decide)
            | exact absurd (hPl rfl) (by decide)
            | exact absurd (hU rfl) (by decide)
            | exact absurd (hI (.inl rfl)) (by decide)
            | exact absurd (hI (.inr rfl)) (by decide)
            | (clear hE hPl hU hI
               go_wp2_with fail
               go_ret
               exact ⟨rfl, pz.out⟩)
    · by_cases hn : id < 0
      · have dI : decide (id < 0) = true := decide_eq_true hn
        clear hS hl8 hs5 h2k hp
        go_enter Try.func8, Try.ntmps8
        go_upto_region 1 with fail
        generalize hV : w.alloc (Obj.cells #[Value.slice A ks.length c, Value.slice S sl.length d] 26) = V at *
        clear hV
        go_wp2_with fail
        refine (shown10_any _).mono ?_
        rintro e w1 ⟨rfl, q1⟩
        have p1 := Lib.hid (HQ0.out.trans q1)
        have b0 := (HT.out.q q1).c0
        have b1 := (HT.out.q q1).c1
        have HT1 := Lib.hid (HT.out.q q1)
        clear q1
        go_wp2_with fail
        refine (CF.out _ p1.out).mono ?_
        rintro e w2 ⟨rfl, q2⟩
        have p2 := Lib.hid (p1.out.trans q2)
        have HT2 := Lib.hid (HT1.out.q q2)
        clear q2 b0 b1
        have b0 := HT2.out.c0
        have b1 := HT2.out.c1
        go_wp2_with fail
        go_ret
        exact ⟨rfl, p2.out⟩
      · have dI : decide (id < 0) = false := decide_eq_false hn
        have dJ : decide ((ks.length : Int) ≤ id) = true := decide_eq_true (by have := mt (isPl_iff _ _).2 hp; omega)
        clear hS hl8 hs5 h2k hp
        go_enter Try.func8, Try.ntmps8
        go_upto_region 1 with fail
        generalize hV : w.alloc (Obj.cells #[Value.slice A ks.length c, Value.slice S sl.length d] 26) = V at *
        clear hV
        go_wp2_with fail
        refine (shown10_any _).mono ?_
        rintro e w1 ⟨rfl, q1⟩
        have p1 := Lib.hid (HQ0.out.trans q1)
        have b0 := (HT.out.q q1).c0
        have b1 := (HT.out.q q1).c1
        have HT1 := Lib.hid (HT.out.q q1)
        clear q1
        go_wp2_with fail
        refine (CF.out _ p1.out).mono ?_
        rintro e w2 ⟨rfl, q2⟩
        have p2 := Lib.hid (p1.out.trans q2)
        have HT2 := Lib.hid (HT1.out.q q2)
        clear q2 b0 b1
        have b0 := HT2.out.c0
        have b1 := HT2.out.c1
        go_wp2_with fail
        go_ret
        exact ⟨rfl, p2.out⟩

set_option maxRecDepth 100000 in
theorem lifted (os : Os) (started : os.Started) (H : Type) (enc : TypeId × Value → H) :
    ReturnsInHanded {} Try.checked os 8 .any (Rows.stepSidedSpec.pre6 enc Try.prog Try.f8 Rows.stepSidedRow.domain false) (Rows.stepSidedSpec.post enc Try.prog Try.f8 false true false false) := by
  refine returnsInHanded_of_change_sized (C := Try.checked) own started (by kernel_rfl) Try.func8
    (ChangeSpec.witness6 (enc := enc) (C := Try.checked) false ⟨#[], #[.slice none 0 0, .agg #[.slice none 0 0, .slice none 0 0], .int .i64 0], []⟩ 8 (by kernel_rfl) (by kernel_rfl) (by kernel_rfl) (by kernel_rfl)) ?_
  intro W base args ds gs before hval0 hW hcnd hsz0 _
  have hval : ∀ (j : Nat) t v, Try.f8.params[j]? = some t → args[j]? = some v → Value.okWide Try.prog W .any base t v := hval0
  have hW' := hW
  obtain ⟨p, q, hA0, hV, rfl, hfz, hnd⟩ := hW
  have hA : DataW.TrodAll enc Try.prog W 0 (fun _ => true) true Try.f8.params.toList args.toList ds p := hA0
  rw [Try.params8] at hA hval
  obtain ⟨v0, vs0, d0, ds0, p0, q0, hargs, rfl, rfl, h0, r0⟩ := trodAll_cons hA
  obtain ⟨v1, vs1, d1, ds1, p1, q1, rfl, rfl, rfl, h1, r1⟩ := trodAll_cons r0
  obtain ⟨v2, vs2, d2, ds2, p2, q2, rfl, rfl, rfl, h2, r2⟩ := trodAll_cons r1
  obtain ⟨rfl, rfl, rfl⟩ := trodAll_nil r2
  obtain rfl : args = #[v0, v1, v2] := by cases args; simp_all
  obtain ⟨rfl, rfl⟩ := trodVars_none hV
  have z0 : ∀ n ∈ d0.weights Try.prog 22, n ≤ reachBytes := fun n hn => by
    have := List.all_eq_true.1 hsz0 n (DataW.weights_mem_each (j := 0) (t := 22) (d := d0) (by rw [Try.params8]; rfl) rfl n hn)
    simpa using this
  have z1 : ∀ n ∈ d1.weights Try.prog 26, n ≤ reachBytes := fun n hn => by
    have := List.all_eq_true.1 hsz0 n (DataW.weights_mem_each (j := 1) (t := 26) (d := d1) (by rw [Try.params8]; rfl) rfl n hn)
    simpa using this
  have z2 : ∀ n ∈ d2.weights Try.prog 3, n ≤ reachBytes := fun n hn => by
    have := List.all_eq_true.1 hsz0 n (DataW.weights_mem_each (j := 2) (t := 3) (d := d2) (by rw [Try.params8]; rfl) rfl n hn)
    simpa using this
  obtain ⟨R, nl, cl, L, rfl, a1, a2, a3, a4, _⟩ := Sg.open_sigs (hval 0 22 v0 rfl rfl) h0
  obtain ⟨A, n, c, S, m, d, ks, sl, rfl, hn, hm, hk, hS, hl, hs, hsl, hcap⟩ := open_table10 (hval 1 26 v1 rfl rfl) h1 z1
  obtain ⟨id, rfl, rfl, rfl, hiw⟩ := open_int Try.underlying3 (hval 2 3 v2 rfl rfl) h2
  clear hA0 hval0
  refine (walk R A S nl cl n c m d L ks sl id _ a1 a2 a3 a4 hn hm hk hS hl hs hsl hcap).mono fun e W' ⟨he, hg⟩ => ?_
  subst he
  exact ⟨_, rfl, post_law laid (by rw [Try.params8]; decide +kernel) rfl rfl (by kernel_rfl) Try.underlying4 hW' hg⟩

/-- THE STATEMENT -/
theorem proved : Rows.StepSidedSaid :=
  OpenClaim.holds_of_wide 8 Try.f8 rfl rfl rfl rfl rfl rfl rfl ⟨rfl, rfl, rfl, rfl, rfl⟩ rfl rfl rfl rfl rfl (by kernel_rfl) Try.func8 (by kernel_rfl)
    (of_decide_eq_true (by kernel_rfl)) (by unfold Func.isWrapper; first | (rw [if_pos (by decide +kernel)]; kernel_rfl) | (rw [if_neg (by decide +kernel)]; exact ⟨rfl, rfl⟩))
    (fun os started H enc _ => lifted os started H enc)
end Go.Proofs.Ytjehccemilefgaa.stepSided
