/-
  StepSides holds.
-/
import Derived.Test.YtjehccemilefgaaPp
import Derived.Test.YtjehccemilefgaaRows
import Derived.OpenShut
import Derived.RegionTactic
import Derived.Deep.CutBlock
namespace Go.Proofs.Ytjehccemilefgaa.stepSides
open Go.ChangeShapes Go.WideShapes Go.ChangeAt Go.RowKit Kit Rw Ex St
open Go.Proofs.Ytjehccemilefgaa.Sg (Sig Row Sized)
open Go.Proofs.Ytjehccemilefgaa.Hs (Ints Keys BoxT)
open Go.Proofs.Ytjehccemilefgaa.Tm (Tm Store termAt isPl isPl_iff Wf of10B)
open Go.Proofs.Ytjehccemilefgaa.Ld (tmP)
set_option maxRecDepth 100000 in
set_option maxHeartbeats 16000000 in
theorem walk (R A S : Option Addr) (nl cl n c m d : Nat) (L : List Sig) (ks : List (List Int)) (sl : List Int) (x y : Int) (w : World) (hnl : nl = L.length) (hr : Row w w.heap.size R L) (hll : L.length ≤ maxLen) (hsz : Sized L) (hn : n = ks.length) (hm : m = sl.length) (hk : Keys w w.heap.size A ks) (hSi : Ints w w.heap.size S sl) (hl : ks.length ≤ 1152921504606846976) (hs : ∀ k ∈ ks, k.length ≤ 1152921504606846976) (hsl : sl.length ≤ 1152921504606846976) (hcap : n ≤ c) (_hx : (Lit.int .i64 x).wf = true) (_hy : (Lit.int .i64 y).wf = true) :
    Calls Try.prog 5 #[.agg #[.slice R nl cl, .slice A n c, .slice S m d, .int .i64 x, .int .i64 y]] w fun e w' => e = .returned (.bool true) ∧ Q w w' := by
  subst hnl hn hm
  have HQ0 := Lib.hid (((Q.refl w).alloc (Obj.cells #[.slice R L.length cl, .slice A ks.length c, .slice S sl.length d, .int .i64 x, .int .i64 y] 44)).alloc (Obj.cells #[Value.slice A ks.length c, Value.slice S sl.length d] 26))
  have HX := Lib.hid (own_new8 w [.slice R L.length cl, .slice A ks.length c, .slice S sl.length d, .int .i64 x, .int .i64 y] 44)
  have HT := Lib.hid (BoxT.new (w.alloc (Obj.cells #[.slice R L.length cl, .slice A ks.length c, .slice S sl.length d, .int .i64 x, .int .i64 y] 44)) (Value.slice A ks.length c) (Value.slice S sl.length d) 26)
  have HRow := Lib.hid hr
  have HKy := Lib.hid hk
  have CF := Lib.hid (fun (U : World) (p : Q w U) => Tm.of10_any R A S L.length cl ks.length c sl.length d L ks sl U rfl ((hr.q (Nat.le_refl _) p).more p.size) rfl rfl ((hk.q (Nat.le_refl _) p).more p.size) ((hSi.q (Nat.le_refl _) p).more p.size) hll hsz hl hs hsl)
  clear hr hll hsz hk hSi hl hs hsl
  cases hof : of10B L ks sl
  · rw [hof] at CF
    clear hof
    go_enter Try.func5, Try.ntmps5
    go_upto_region 1 with fail
    generalize hW : w.alloc (Obj.cells #[.slice R L.length cl, .slice A ks.length c, .slice S sl.length d, .int .i64 x, .int .i64 y] 44) = W at *
    clear hW
    have x0 := (HX.out.2 0 _ rfl).1
    have x1 := (HX.out.2 1 _ rfl).1
    have x2 := (HX.out.2 2 _ rfl).1
    have HX2 := Lib.hid (HX.out.q ((Q.refl W).alloc (Obj.cells #[Value.slice A ks.length c, Value.slice S sl.length d] 26)))
    go_upto_region 3 with fail
    generalize hV : W.alloc (Obj.cells #[Value.slice A ks.length c, Value.slice S sl.length d] 26) = V at *
    clear hV x0 x1 x2
    have x3 := (HX2.out.2 3 _ rfl).1
    have x4 := (HX2.out.2 4 _ rfl).1
    go_upto_region 5 with fail
    clear x3 x4
    go_wp2_with fail
    refine (shown10_any _).mono ?_
    rintro e w1 ⟨rfl, q1⟩
    have p1 := Lib.hid (HQ0.out.trans q1)
    have b0 := (HT.out.q q1).c0
    have b1 := (HT.out.q q1).c1
    have HT1 := Lib.hid (HT.out.q q1)
    clear q1
    go_wp2_with fail
    refine (CF.out _ p1.out).mono ?_
    rintro e w2 ⟨rfl, q2⟩
    have p2 := Lib.hid (p1.out.trans q2)
    have HT2 := Lib.hid (HT1.out.q q2)
    clear q2 b0 b1
    have b0 := HT2.out.c0
    have b1 := HT2.out.c1
    go_wp2_with fail
    go_ret
    exact ⟨rfl, p2.out⟩
  · rw [hof] at CF
    obtain ⟨hS, hl8, hs5, h2k⟩ := of10_ok hof
    clear hof
    obtain ⟨⟨kd, ps⟩, hw⟩ : ∃ p, stepF L ks x y = p := ⟨_, rfl⟩
    have CT : Hid (∀ U, Q w U → Calls Try.prog 11 #[.slice R L.length cl, .agg #[.slice A ks.length c, .slice S sl.length d], .int .i64 x, .int .i64 y] U fun e w' => ∃ A c, e = .returned (.agg #[.int .i64 kd, .slice A ps.length c]) ∧ Rds w' w'.heap.size A (cellsQ ps) ∧ Q U w') := fun U p => by
      have := step10_any R A S L.length cl ks.length c sl.length d L ks x y U rfl ((HRow.out.q (Nat.le_refl _) p).more p.size) rfl ((HKy.out.q (Nat.le_refl _) p).more p.size) hS hl8 hs5 hcap
      rw [hw] at this
      refine this.mono ?_
      rintro e w' ⟨A1, c1, he, hr, hq, _⟩
      exact ⟨A1, c1, he, hr, hq⟩
    have hkk := step_kinds (L := L) (ks := ks) x y
    rw [hw] at hkk
    have HKK : Hid ((kd = 0 ∨ kd = 1 ∨ kd = 2 ∨ kd = 3) ∧ (kd = 1 ∨ ps = [])) := hkk
    have hlen := step_len hS hl8 x y
    rw [hw] at hlen
    have hpl : ps.length ≤ 18 := hlen
    have HPl : Hid (∀ z ∈ ps, isPl z.1 ks.length = true ∧ isPl z.2 ks.length = true) := fun z hz => step_places hS (x := x) (y := y) (by rw [hw]; exact hz)
    have HSd : Hid (sidedF L ks x 76 = true → sidedF L ks y 82 = true → ∀ z ∈ ps, sidedF L ks z.1 76 = true ∧ sidedF L ks z.2 82 = true) := fun a b z hz => step_sided hS a b (by rw [hw]; exact hz)
    have CS := Lib.hid (fun (z : Int) (s : UInt8) (U : World) (p : Q w U) => sided10_any R A S L.length cl ks.length c sl.length d L ks z s U rfl ((HRow.out.q (Nat.le_refl _) p).more p.size) rfl ((HKy.out.q (Nat.le_refl _) p).more p.size) hS hl8 hs5 hcap (by omega))
    have CL : Hid (∀ z U, Q w U → Calls Try.prog 14 #[.slice R L.length cl, .agg #[.slice A ks.length c, .slice S sl.length d], .int .i64 z, .int .u8 76] U fun e w' => e = .returned (.bool (sidedF L ks z 76)) ∧ Q U w') := fun z U p => CS.out z 76 U p
    have CR : Hid (∀ z U, Q w U → Calls Try.prog 14 #[.slice R L.length cl, .agg #[.slice A ks.length c, .slice S sl.length d], .int .i64 z, .int .u8 82] U fun e w' => e = .returned (.bool (sidedF L ks z 82)) ∧ Q U w') := fun z U p => CS.out z 82 U p
    clear hkk hlen hw hS hl8 hs5 h2k CS hcap
    cases h1 : sidedF L ks x 76
    · go_enter Try.func5, Try.ntmps5
      go_upto_region 1 with fail
      generalize hW : w.alloc (Obj.cells #[.slice R L.length cl, .slice A ks.length c, .slice S sl.length d, .int .i64 x, .int .i64 y] 44) = W at *
      clear hW
      have x0 := (HX.out.2 0 _ rfl).1
      have x1 := (HX.out.2 1 _ rfl).1
      have x2 := (HX.out.2 2 _ rfl).1
      have HX2 := Lib.hid (HX.out.q ((Q.refl W).alloc (Obj.cells #[Value.slice A ks.length c, Value.slice S sl.length d] 26)))
      go_upto_region 3 with fail
      generalize hV : W.alloc (Obj.cells #[Value.slice A ks.length c, Value.slice S sl.length d] 26) = V at *
      clear hV x0 x1 x2
      have x3 := (HX2.out.2 3 _ rfl).1
      have x4 := (HX2.out.2 4 _ rfl).1
      go_upto_region 5 with fail
      clear x3 x4
      go_wp2_with fail
      refine (shown10_any _).mono ?_
      rintro e w1 ⟨rfl, q1⟩
      have p1 := Lib.hid (HQ0.out.trans q1)
      have b0 := (HT.out.q q1).c0
      have b1 := (HT.out.q q1).c1
      have HT1 := Lib.hid (HT.out.q q1)
      clear q1
      go_wp2_with fail
      refine (CF.out _ p1.out).mono ?_
      rintro e w2 ⟨rfl, q2⟩
      have p2 := Lib.hid (p1.out.trans q2)
      have HT2 := Lib.hid (HT1.out.q q2)
      clear q2 b0 b1
      have b0 := HT2.out.c0
      have b1 := HT2.out.c1
      go_wp2_with fail
      refine (CT.out _ p2.out).mono ?_
      rintro e w3 ⟨A3, c3, rfl, r3, q3⟩
      have HW := Lib.hid (BoxT.new w3 (.int .i64 kd) (.slice A3 ps.length c3) 33)
      have q3' := q3.alloc (Obj.cells #[.int .i64 kd, .slice A3 ps.length c3] 33)
      have HA3 := Lib.hid (r3.q ((Q.refl w3).alloc (Obj.cells #[.int .i64 kd, .slice A3 ps.length c3] 33)))
      have p3 := Lib.hid (p2.out.trans q3')
      have HT3 := Lib.hid (HT2.out.q q3')
      clear b0 b1 q3 r3 q3'
      go_upto_region 9 with fail
      generalize hV3 : w3.alloc (Obj.cells #[.int .i64 kd, .slice A3 ps.length c3] 33) = V3 at *
      clear hV3
      have b0 := HT3.out.c0
      have b1 := HT3.out.c1
      go_wp2_with fail
      refine (CL.out _ _ p3.out).mono ?_
      rintro e w4 ⟨rfl, q4⟩
      rw [h1]
      have HW4 := Lib.hid (HW.out.q q4)
      have HA4 := Lib.hid (HA3.out.q q4)
      have p4 := Lib.hid (p3.out.trans q4)
      have HT4 := Lib.hid (HT3.out.q q4)
      clear b0 b1 q4
      have b0 := HT4.out.c0
      have b1 := HT4.out.c1
      go_wp2_with fail
      clear b0 b1
      go_loopw [10, 11, 12] (fun iv _ _ wr => ∃ k : Nat, k ≤ ps.length ∧ iv = .int .i64 k ∧ Hid (Q w4 wr)) (fun iv _ _ _ => ps.length - (intOf iv).toNat)
      case atStart => exact ⟨0, Nat.zero_le _, rfl, Lib.hid (Q.refl w4)⟩
      case round =>
        obtain ⟨k, hk, rfl, HQ⟩ := hrel
        have v0 := (HW4.out.q HQ.out).c0
        have v1 := (HW4.out.q HQ.out).c1
        by_cases hlt : k < ps.length
        · obtain ⟨ad, rfl, had, e0, e1⟩ := pair_at (HA4.out.q HQ.out) hlt
          have j1 : (k : Int) < (ps.length : Int) := by omega
          have j0 : (0 : Int) ≤ (k : Int) := Int.natCast_nonneg _
          have hm := HPl.out ps[k] (List.getElem_mem hlt)
          obtain ⟨g0, g1⟩ := (isPl_iff _ _).1 hm.1
          obtain ⟨g2, g3⟩ := (isPl_iff _ _).1 hm.2
          generalize ps[k] = z at *
          have f0 : decide (z.1 < 0) = false := decide_eq_false (by omega)
          have f1 : decide ((ks.length : Int) ≤ z.1) = false := decide_eq_false (by omega)
          have f2 : decide (z.2 < 0) = false := decide_eq_false (by omega)
          have f3 : decide ((ks.length : Int) ≤ z.2) = false := decide_eq_false (by omega)
          clear hm g0 g1 g2 g3
          go_wp2_with fail
          go_quiet (fail)
          have HQ2 := Lib.hid (HQ.out.drewN nq)
          clear e0 e1 v0 v1 HQ
          generalize wr.drewN nq = wq at *
          have b0 := (HT4.out.q HQ2.out).c0
          have b1 := (HT4.out.q HQ2.out).c1
          go_wp2_with fail
          go_roundw
          case rel => exact ⟨k + 1, by omega, by go_num, HQ2⟩
          case measure => simp [intOf]; omega
        · have j1 : ¬ (k : Int) < (ps.length : Int) := by omega
          have pz := Lib.hid (p4.out.trans HQ.out)
          obtain ⟨hk0, hk1⟩ := HKK.out
          rcases hk1 with rfl | rfl
          · go_wp2_with fail
            go_ret
            exact ⟨rfl, pz.out⟩
          · have hk00 : k = 0 := by simpa using hk
            subst hk00
            rcases hk0 with rfl | rfl | rfl | rfl
            all_goals
              go_wp2_with fail
              go_ret
              exact ⟨rfl, pz.out⟩
    · cases h2 : sidedF L ks y 82
      · go_enter Try.func5, Try.ntmps5
        go_upto_region 1 with fail
        generalize hW : w.alloc (Obj.cells #[.slice R L.length cl, .slice A ks.length c, .slice S sl.length d, .int .i64 x, .int .i64 y] 44) = W at *
        clear hW
        have x0 := (HX.out.2 0 _ rfl).1
        have x1 := (HX.out.2 1 _ rfl).1
        have x2 := (HX.out.2 2 _ rfl).1
        have HX2 := Lib.hid (HX.out.q ((Q.refl W).alloc (Obj.cells #[Value.slice A ks.length c, Value.slice S sl.length d] 26)))
        go_upto_region 3 with fail
        generalize hV : W.alloc (Obj.cells #[Value.slice A ks.length c, Value.slice S sl.length d] 26) = V at *
        clear hV x0 x1 x2
        have x3 := (HX2.out.2 3 _ rfl).1
        have x4 := (HX2.out.2 4 _ rfl).1
        go_upto_region 5 with fail
        clear x3 x4
        go_wp2_with fail
        refine (shown10_any _).mono ?_
        rintro e w1 ⟨rfl, q1⟩
        have p1 := Lib.hid (HQ0.out.trans q1)
        have b0 := (HT.out.q q1).c0
        have b1 := (HT.out.q q1).c1
        have HT1 := Lib.hid (HT.out.q q1)
        clear q1
        go_wp2_with fail
        refine (CF.out _ p1.out).mono ?_
        rintro e w2 ⟨rfl, q2⟩
        have p2 := Lib.hid (p1.out.trans q2)
        have HT2 := Lib.hid (HT1.out.q q2)
        clear q2 b0 b1
        have b0 := HT2.out.c0
        have b1 := HT2.out.c1
        go_wp2_with fail
        refine (CT.out _ p2.out).mono ?_
        rintro e w3 ⟨A3, c3, rfl, r3, q3⟩
        have HW := Lib.hid (BoxT.new w3 (.int .i64 kd) (.slice A3 ps.length c3) 33)
        have q3' := q3.alloc (Obj.cells #[.int .i64 kd, .slice A3 ps.length c3] 33)
        have HA3 := Lib.hid (r3.q ((Q.refl w3).alloc (Obj.cells #[.int .i64 kd, .slice A3 ps.length c3] 33)))
        have p3 := Lib.hid (p2.out.trans q3')
        have HT3 := Lib.hid (HT2.out.q q3')
        clear b0 b1 q3 r3 q3'
        go_upto_region 9 with fail
        generalize hV3 : w3.alloc (Obj.cells #[.int .i64 kd, .slice A3 ps.length c3] 33) = V3 at *
        clear hV3
        have b0 := HT3.out.c0
        have b1 := HT3.out.c1
        go_wp2_with fail
        refine (CL.out _ _ p3.out).mono ?_
        rintro e w4 ⟨rfl, q4⟩
        rw [h1]
        have HW4 := Lib.hid (HW.out.q q4)
        have HA4 := Lib.hid (HA3.out.q q4)
        have p4 := Lib.hid (p3.out.trans q4)
        have HT4 := Lib.hid (HT3.out.q q4)
        clear b0 b1 q4
        have b0 := HT4.out.c0
        have b1 := HT4.out.c1
        go_wp2_with fail
        refine (CR.out _ _ p4.out).mono ?_
        rintro e w5 ⟨rfl, q5⟩
        rw [h2]
        have HW5 := Lib.hid (HW4.out.q q5)
        have HA5 := Lib.hid (HA4.out.q q5)
        have p5 := Lib.hid (p4.out.trans q5)
        have HT5 := Lib.hid (HT4.out.q q5)
        clear b0 b1 q5
        have b0 := HT5.out.c0
        have b1 := HT5.out.c1
        go_wp2_with fail
        clear b0 b1
        go_loopw [10, 11, 12] (fun iv _ _ wr => ∃ k : Nat, k ≤ ps.length ∧ iv = .int .i64 k ∧ Hid (Q w5 wr)) (fun iv _ _ _ => ps.length - (intOf iv).toNat)
        case atStart => exact ⟨0, Nat.zero_le _, rfl, Lib.hid (Q.refl w5)⟩
        case round =>
          obtain ⟨k, hk, rfl, HQ⟩ := hrel
          have v0 := (HW5.out.q HQ.out).c0
          have v1 := (HW5.out.q HQ.out).c1
          by_cases hlt : k < ps.length
          · obtain ⟨ad, rfl, had, e0, e1⟩ := pair_at (HA5.out.q HQ.out) hlt
            have j1 : (k : Int) < (ps.length : Int) := by omega
            have j0 : (0 : Int) ≤ (k : Int) := Int.natCast_nonneg _
            have hm := HPl.out ps[k] (List.getElem_mem hlt)
            obtain ⟨g0, g1⟩ := (isPl_iff _ _).1 hm.1
            obtain ⟨g2, g3⟩ := (isPl_iff _ _).1 hm.2
            generalize ps[k] = z at *
            have f0 : decide (z.1 < 0) = false := decide_eq_false (by omega)
            have f1 : decide ((ks.length : Int) ≤ z.1) = false := decide_eq_false (by omega)
            have f2 : decide (z.2 < 0) = false := decide_eq_false (by omega)
            have f3 : decide ((ks.length : Int) ≤ z.2) = false := decide_eq_false (by omega)
            clear hm g0 g1 g2 g3
            go_wp2_with fail
            go_quiet (fail)
            have HQ2 := Lib.hid (HQ.out.drewN nq)
            clear e0 e1 v0 v1 HQ
            generalize wr.drewN nq = wq at *
            have b0 := (HT5.out.q HQ2.out).c0
            have b1 := (HT5.out.q HQ2.out).c1
            go_wp2_with fail
            go_roundw
            case rel => exact ⟨k + 1, by omega, by go_num, HQ2⟩
            case measure => simp [intOf]; omega
          · have j1 : ¬ (k : Int) < (ps.length : Int) := by omega
            have pz := Lib.hid (p5.out.trans HQ.out)
            obtain ⟨hk0, hk1⟩ := HKK.out
            rcases hk1 with rfl | rfl
            · go_wp2_with fail
              go_ret
              exact ⟨rfl, pz.out⟩
            · have hk00 : k = 0 := by simpa using hk
              subst hk00
              rcases hk0 with rfl | rfl | rfl | rfl
              all_goals
                go_wp2_with fail
                go_ret
                exact ⟨rfl, pz.out⟩
      · go_enter Try.func5, Try.ntmps5
        go_upto_region 1 with fail
        generalize hW : w.alloc (Obj.cells #[.slice R L.length cl, .slice A ks.length c, .slice S sl.length d, .int .i64 x, .int .i64 y] 44) = W at *
        clear hW
        have x0 := (HX.out.2 0 _ rfl).1
        have x1 := (HX.out.2 1 _ rfl).1
        have x2 := (HX.out.2 2 _ rfl).1
        have HX2 := Lib.hid (HX.out.q ((Q.refl W).alloc (Obj.cells #[Value.slice A ks.length c, Value.slice S sl.length d] 26)))
        go_upto_region 3 with fail
        generalize hV : W.alloc (Obj.cells #[Value.slice A ks.length c, Value.slice S sl.length d] 26) = V at *
        clear hV x0 x1 x2
        have x3 := (HX2.out.2 3 _ rfl).1
        have x4 := (HX2.out.2 4 _ rfl).1
        go_upto_region 5 with fail
        clear x3 x4
        go_wp2_with fail
        refine (shown10_any _).mono ?_
        rintro e w1 ⟨rfl, q1⟩
        have p1 := Lib.hid (HQ0.out.trans q1)
        have b0 := (HT.out.q q1).c0
        have b1 := (HT.out.q q1).c1
        have HT1 := Lib.hid (HT.out.q q1)
        clear q1
        go_wp2_with fail
        refine (CF.out _ p1.out).mono ?_
        rintro e w2 ⟨rfl, q2⟩
        have p2 := Lib.hid (p1.out.trans q2)
        have HT2 := Lib.hid (HT1.out.q q2)
        clear q2 b0 b1
        have b0 := HT2.out.c0
        have b1 := HT2.out.c1
        go_wp2_with fail
        refine (CT.out _ p2.out).mono ?_
        rintro e w3 ⟨A3, c3, rfl, r3, q3⟩
        have HW := Lib.hid (BoxT.new w3 (.int .i64 kd) (.slice A3 ps.length c3) 33)
        have q3' := q3.alloc (Obj.cells #[.int .i64 kd, .slice A3 ps.length c3] 33)
        have HA3 := Lib.hid (r3.q ((Q.refl w3).alloc (Obj.cells #[.int .i64 kd, .slice A3 ps.length c3] 33)))
        have p3 := Lib.hid (p2.out.trans q3')
        have HT3 := Lib.hid (HT2.out.q q3')
        clear b0 b1 q3 r3 q3'
        go_upto_region 9 with fail
        generalize hV3 : w3.alloc (Obj.cells #[.int .i64 kd, .slice A3 ps.length c3] 33) = V3 at *
        clear hV3
        have b0 := HT3.out.c0
        have b1 := HT3.out.c1
        go_wp2_with fail
        refine (CL.out _ _ p3.out).mono ?_
        rintro e w4 ⟨rfl, q4⟩
        rw [h1]
        have HW4 := Lib.hid (HW.out.q q4)
        have HA4 := Lib.hid (HA3.out.q q4)
        have p4 := Lib.hid (p3.out.trans q4)
        have HT4 := Lib.hid (HT3.out.q q4)
        clear b0 b1 q4
        have b0 := HT4.out.c0
        have b1 := HT4.out.c1
        go_wp2_with fail
        refine (CR.out _ _ p4.out).mono ?_
        rintro e w5 ⟨rfl, q5⟩
        rw [h2]
        have HW5 := Lib.hid (HW4.out.q q5)
        have HA5 := Lib.hid (HA4.out.q q5)
        have p5 := Lib.hid (p4.out.trans q5)
        have HT5 := Lib.hid (HT4.out.q q5)
        clear b0 b1 q5
        have b0 := HT5.out.c0
        have b1 := HT5.out.c1
        go_wp2_with fail
        clear b0 b1
        go_loopw [10, 11, 12] (fun iv _ _ wr => ∃ k : Nat, k ≤ ps.length ∧ iv = .int .i64 k ∧ Hid (Q w5 wr)) (fun iv _ _ _ => ps.length - (intOf iv).toNat)
        case atStart => exact ⟨0, Nat.zero_le _, rfl, Lib.hid (Q.refl w5)⟩
        case round =>
          obtain ⟨k, hk, rfl, HQ⟩ := hrel
          have v0 := (HW5.out.q HQ.out).c0
          have v1 := (HW5.out.q HQ.out).c1
          by_cases hlt : k < ps.length
          · obtain ⟨ad, rfl, had, e0, e1⟩ := pair_at (HA5.out.q HQ.out) hlt
            have j1 : (k : Int) < (ps.length : Int) := by omega
            have j0 : (0 : Int) ≤ (k : Int) := Int.natCast_nonneg _
            have hm := HPl.out ps[k] (List.getElem_mem hlt)
            obtain ⟨g0, g1⟩ := (isPl_iff _ _).1 hm.1
            obtain ⟨g2, g3⟩ := (isPl_iff _ _).1 hm.2
            have HM := Lib.hid (HSd.out h1 h2 ps[k] (List.getElem_mem hlt))
            generalize ps[k] = z at *
            have f0 : decide (z.1 < 0) = false := decide_eq_false (by omega)
            have f1 : decide ((ks.length : Int) ≤ z.1) = false := decide_eq_false (by omega)
            have f2 : decide (z.2 < 0) = false := decide_eq_false (by omega)
            have f3 : decide ((ks.length : Int) ≤ z.2) = false := decide_eq_false (by omega)
            clear hm g0 g1 g2 g3
            go_wp2_with fail
            go_quiet (fail)
            have HQ2 := Lib.hid (HQ.out.drewN nq)
            clear e0 e1 v0 v1 HQ
            generalize wr.drewN nq = wq at *
            have b0 := (HT5.out.q HQ2.out).c0
            have b1 := (HT5.out.q HQ2.out).c1
            go_wp2_with fail
            refine (CL.out _ _ (p5.out.trans HQ2.out)).mono ?_
            rintro e wa ⟨rfl, qa⟩
            rw [HM.out.1]
            have HQ3 := Lib.hid (HQ2.out.trans qa)
            clear b0 b1 qa
            have b0 := (HT5.out.q HQ3.out).c0
            have b1 := (HT5.out.q HQ3.out).c1
            go_wp2_with fail
            refine (CR.out _ _ (p5.out.trans HQ3.out)).mono ?_
            rintro e wb ⟨rfl, qb⟩
            rw [HM.out.2]
            have HQ4 := Lib.hid (HQ3.out.trans qb)
            clear b0 b1 qb
            have b0 := (HT5.out.q HQ4.out).c0
            have b1 := (HT5.out.q HQ4.out).c1
            go_wp2_with fail
            go_roundw
            case rel => exact ⟨k + 1, by omega, by go_num, HQ4⟩
            case measure => simp [intOf]; omega
          · have j1 : ¬ (k : Int) < (ps.length : Int) := by omega
            have pz := Lib.hid (p5.out.trans HQ.out)
            obtain ⟨hk0, hk1⟩ := HKK.out
            rcases hk1 with rfl | rfl
            · go_wp2_with fail
              go_ret
              exact ⟨rfl, pz.out⟩
            · have hk00 : k = 0 := by simpa using hk
              subst hk00
              rcases hk0 with rfl | rfl | rfl | rfl
              all_goals
                go_wp2_with fail
                go_ret
                exact ⟨rfl, pz.out⟩

set_option maxRecDepth 100000 in
theorem lifted (os : Os) (started : os.Started) (H : Type) (enc : TypeId × Value → H) :
    ReturnsInHanded {} Try.checked os 5 .any (Rows.stepSidesSpec.pre6 enc Try.prog Try.f5 Rows.stepSidesRow.domain false) (Rows.stepSidesSpec.post enc Try.prog Try.f5 false true false false) := by
  refine returnsInHanded_of_change_sized (C := Try.checked) own started (by kernel_rfl) Try.func5
    (ChangeSpec.witness6 (enc := enc) (C := Try.checked) false ⟨#[], #[.agg #[.slice none 0 0, .slice none 0 0, .slice none 0 0, .int .i64 0, .int .i64 0]], []⟩ 8 (by kernel_rfl) (by kernel_rfl) (by kernel_rfl) (by kernel_rfl)) ?_
  intro W base args ds gs before hval0 hW hcnd hsz0 _
  have hval : ∀ (j : Nat) t v, Try.f5.params[j]? = some t → args[j]? = some v → Value.okWide Try.prog W .any base t v := hval0
  have hW' := hW
  obtain ⟨p, q, hA0, hV, rfl, hfz, hnd⟩ := hW
  have hA : DataW.TrodAll enc Try.prog W 0 (fun _ => true) true Try.f5.params.toList args.toList ds p := hA0
  rw [Try.params5] at hA hval
  obtain ⟨v0, vs0, d0, ds0, p0, q0, hargs, rfl, rfl, h0, r0⟩ := trodAll_cons hA
  obtain ⟨rfl, rfl, rfl⟩ := trodAll_nil r0
  obtain rfl : args = #[v0] := by cases args; simp_all
  obtain ⟨rfl, rfl⟩ := trodVars_none hV
  have z0 : ∀ n ∈ d0.weights Try.prog 44, n ≤ reachBytes := fun n hn => by
    have := List.all_eq_true.1 hsz0 n (DataW.weights_mem_each (j := 0) (t := 44) (d := d0) (by rw [Try.params5]; rfl) rfl n hn)
    simpa using this
  obtain ⟨R, nl, cl, L, A, n, c, S, m, d, ks, sl, x, y, rfl, a1, a2, a3, a4, hn, hm, hk, hS, hl, hs, hsl, hcap, hx, hy⟩ := open_StepSidesIn (hval 0 44 v0 rfl rfl) h0 z0
  clear hA0 hval0
  refine (walk R A S nl cl n c m d L ks sl x y _ a1 a2 a3 a4 hn hm hk hS hl hs hsl hcap hx hy).mono fun e W' ⟨he, hg⟩ => ?_
  subst he
  exact ⟨_, rfl, post_law laid (by rw [Try.params5]; decide +kernel) rfl rfl (by kernel_rfl) Try.underlying4 hW' hg⟩

/-- THE STATEMENT -/
theorem proved : Rows.StepSidesSaid :=
  OpenClaim.holds_of_wide 5 Try.f5 rfl rfl rfl rfl rfl rfl rfl ⟨rfl, rfl, rfl, rfl, rfl⟩ rfl rfl rfl rfl rfl (by kernel_rfl) Try.func5 (by kernel_rfl)
    (of_decide_eq_true (by kernel_rfl)) (by unfold Func.isWrapper; first | (rw [if_pos (by decide +kernel)]; kernel_rfl) | (rw [if_neg (by decide +kernel)]; exact ⟨rfl, rfl⟩))
    (fun os started H enc _ => lifted os started H enc)
end Go.Proofs.Ytjehccemilefgaa.stepSides
