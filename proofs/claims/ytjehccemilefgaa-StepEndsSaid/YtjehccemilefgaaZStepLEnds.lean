/-
  StepEnds holds.
-/
import Derived.Test.YtjehccemilefgaaPp
import Derived.Test.YtjehccemilefgaaRows
import Derived.OpenShut
import Derived.RegionTactic
import Derived.Deep.CutBlock
namespace Go.Proofs.Ytjehccemilefgaa.stepEnds
open Go.ChangeShapes Go.WideShapes Go.ChangeAt Go.RowKit Kit Rw Ex St
open Go.Proofs.Ytjehccemilefgaa.Sg (Sig Row Sized)
open Go.Proofs.Ytjehccemilefgaa.Hs (Ints Keys BoxT)
open Go.Proofs.Ytjehccemilefgaa.Tm (Tm Store termAt isPl isPl_iff Wf of10B)
open Go.Proofs.Ytjehccemilefgaa.Ld (tmP)
theorem key_at {w : World} {B : Nat} {A : Option Addr} {L : List Sig} {ks : List (List Int)} (hk : Keys w B A ks) (hS : Store L ks) {i : Nat} (hi : i < ks.length) :
    ∃ ad ae kl c, A = some ad ∧ ad.block < B ∧ w.cell? (ad.add i) = some (.slice (some ae) kl c) ∧ 3 ≤ kl ∧ ae.block < B ∧ w.cell? ae = some (.int .i64 (tmP ks i).k) ∧ w.cell? ⟨ae.block, ae.off + 1, none⟩ = some (.int .i64 (tmP ks i).s) := by
  obtain ⟨h3, _, _⟩ := Ld.parts_ahead hS (List.getElem?_eq_getElem hi)
  obtain ⟨ad, e, hb, a, c, _, hc, hI⟩ := hk.at_ hi
  obtain ⟨ae, e2, hb2, h0⟩ := hI.at_ (k := 0) (by omega)
  rw [show ae.add 0 = ae by simp [Addr.add]] at h0
  obtain ⟨ae2, e3, _, h1⟩ := hI.at_ (k := 1) (by omega)
  have : ae2 = ae := by rw [e2] at e3; injection e3 with e3; exact e3.symm
  subst this e2
  have t0 : (tmP ks i).k = ks[i][0]'(by omega) := by rw [tmP_is hi]; show ks[i][0]?.getD 0 = _; rw [List.getElem?_eq_getElem (by omega)]; rfl
  have t1 : (tmP ks i).s = ks[i][1]'(by omega) := by rw [tmP_is hi]; show ks[i][1]?.getD 0 = _; rw [List.getElem?_eq_getElem (by omega)]; rfl
  exact ⟨ad, ae2, _, c, e, hb, hc, h3, hb2, by rw [t0]; exact h0, by rw [t1]; simpa [Addr.add] using h1⟩
theorem none_post {L : List Sig} {ks : List (List Int)} {z v : Int} {U : World} {e : Ending} {w' : World} (h : stepF L ks z v = (0, [])) (hp : AllPost L ks (z, v) U e w') : ∃ A c B d, e = .returned (.tuple #[.slice A 0 c, .slice B 0 d]) ∧ Q U w' := by
  obtain ⟨A, c, B, d, he, _, _, hq⟩ := hp
  have h2 : kindC L ks 2 (z, v) = [] := by rw [kindC_alone (by decide) (by rw [h]), h]; exact if_neg (by decide)
  have h3 : kindC L ks 3 (z, v) = [] := by rw [kindC_alone (by decide) (by rw [h]), h]; exact if_neg (by decide)
  rw [h2, h3] at he
  exact ⟨A, c, B, d, he, hq⟩
theorem one_post {L : List Sig} {ks : List (List Int)} {z v : Int} {U : World} {e : Ending} {w' : World} (h : stepF L ks z v = (3, [])) (hp : AllPost L ks (z, v) U e w') : ∃ A c ad d, e = .returned (.tuple #[.slice A 0 c, .slice (some ad) 1 d]) ∧ w'.cell? ad = some (.int .i64 z) ∧ w'.cell? ⟨ad.block, ad.off + 1, none⟩ = some (.int .i64 v) ∧ Q U w' := by
  obtain ⟨A, c, B, d, he, _, hr, hq⟩ := hp
  have h2 : kindC L ks 2 (z, v) = [] := by rw [kindC_alone (by decide) (by rw [h]), h]; exact if_neg (by decide)
  have h3 : kindC L ks 3 (z, v) = [(z, v)] := by rw [kindC_alone (by decide) (by rw [h]), h]; exact if_pos rfl
  rw [h3] at hr
  obtain ⟨ad, rfl, _, e0, e1⟩ := pair_at hr (k := 0) (by simp)
  rw [h2, h3] at he
  exact ⟨A, c, ad, d, he, by simpa [Addr.add] using e0, by simpa [Addr.add] using e1, hq⟩
set_option maxRecDepth 100000 in
set_option maxHeartbeats 16000000 in
theorem walk (R A S : Option Addr) (nl cl n c m d : Nat) (L : List Sig) (ks : List (List Int)) (sl : List Int) (x y : Int) (w : World) (hnl : nl = L.length) (hr : Row w w.heap.size R L) (hll : L.length ≤ maxLen) (hsz : Sized L) (hn : n = ks.length) (hm : m = sl.length) (hk : Keys w w.heap.size A ks) (hSi : Ints w w.heap.size S sl) (hl : ks.length ≤ 1152921504606846976) (hs : ∀ k ∈ ks, k.length ≤ 1152921504606846976) (hsl : sl.length ≤ 1152921504606846976) (hcap : n ≤ c) (hx : (Lit.int .i64 x).wf = true) (hy : (Lit.int .i64 y).wf = true) :
    Calls Try.prog 6 #[.agg #[.slice R nl cl, .slice A n c, .slice S m d, .int .i64 x, .int .i64 y]] w fun e w' => e = .returned (.bool true) ∧ Q w w' := by
  subst hnl hn hm
  have HQ0 := Lib.hid (((Q.refl w).alloc (Obj.cells #[.slice R L.length cl, .slice A ks.length c, .slice S sl.length d, .int .i64 x, .int .i64 y] 48)).alloc (Obj.cells #[Value.slice A ks.length c, Value.slice S sl.length d] 26))
  have HX := Lib.hid (own_new8 w [.slice R L.length cl, .slice A ks.length c, .slice S sl.length d, .int .i64 x, .int .i64 y] 48)
  have HT := Lib.hid (BoxT.new (w.alloc (Obj.cells #[.slice R L.length cl, .slice A ks.length c, .slice S sl.length d, .int .i64 x, .int .i64 y] 48)) (Value.slice A ks.length c) (Value.slice S sl.length d) 26)
  have HRow := Lib.hid hr
  have HKy := Lib.hid hk
  have CF := Lib.hid (fun (U : World) (p : Q w U) => Tm.of10_any R A S L.length cl ks.length c sl.length d L ks sl U rfl ((hr.q (Nat.le_refl _) p).more p.size) rfl rfl ((hk.q (Nat.le_refl _) p).more p.size) ((hSi.q (Nat.le_refl _) p).more p.size) hll hsz hl hs hsl)
  clear hr hll hsz hk hSi hl hs hsl
  cases hof : of10B L ks sl
  · rw [hof] at CF
    clear hof hx hy
    go_enter Try.func6, Try.ntmps6
    go_upto_region 1 with fail
    generalize hW : w.alloc (Obj.cells #[.slice R L.length cl, .slice A ks.length c, .slice S sl.length d, .int .i64 x, .int .i64 y] 48) = W at *
    clear hW
    have x0 := (HX.out.2 0 _ rfl).1
    have x1 := (HX.out.2 1 _ rfl).1
    have x2 := (HX.out.2 2 _ rfl).1
    have HX2 := Lib.hid (HX.out.q ((Q.refl W).alloc (Obj.cells #[Value.slice A ks.length c, Value.slice S sl.length d] 26)))
    go_upto_region 3 with fail
    generalize hV : W.alloc (Obj.cells #[Value.slice A ks.length c, Value.slice S sl.length d] 26) = V at *
    clear hV x0 x1 x2
    have x3 := (HX2.out.2 3 _ rfl).1
    have x4 := (HX2.out.2 4 _ rfl).1
    go_upto_region 5 with fail
    clear x3 x4
    go_wp2_with fail
    refine (shown10_any _).mono ?_
    rintro e w1 ⟨rfl, q1⟩
    have p1 := Lib.hid (HQ0.out.trans q1)
    have b0 := (HT.out.q q1).c0
    have b1 := (HT.out.q q1).c1
    have HT1 := Lib.hid (HT.out.q q1)
    clear q1
    go_wp2_with fail
    refine (CF.out _ p1.out).mono ?_
    rintro e w2 ⟨rfl, q2⟩
    have p2 := Lib.hid (p1.out.trans q2)
    have HT2 := Lib.hid (HT1.out.q q2)
    clear q2 b0 b1
    have b0 := HT2.out.c0
    have b1 := HT2.out.c1
    go_wp2_with fail
    go_ret
    exact ⟨rfl, p2.out⟩
  · rw [hof] at CF
    obtain ⟨hS, hl8, hs5, h2k⟩ := of10_ok hof
    clear hof
    by_cases hpx : isPl x ks.length = true
    · obtain ⟨p0, p1⟩ := (isPl_iff _ _).1 hpx
      have f0 : decide (x < 0) = false := decide_eq_false (by omega)
      have f1 : decide ((ks.length : Int) ≤ x) = false := decide_eq_false (by omega)
      by_cases hpy : isPl y ks.length = true
      · obtain ⟨p2, p3⟩ := (isPl_iff _ _).1 hpy
        have f2 : decide (y < 0) = false := decide_eq_false (by omega)
        have f3 : decide ((ks.length : Int) ≤ y) = false := decide_eq_false (by omega)
        by_cases hbig : 100 < ks.length
        · have dI : decide (100 < ks.length) = true := decide_eq_true hbig
          have dI' : decide ((100 : Int) < (ks.length : Int)) = true := decide_eq_true (by omega)
          clear hpx hpy p0 p1 p2 p3 hbig
          clear hS hl8 hs5 h2k hx hy
          go_enter Try.func6, Try.ntmps6
          go_upto_region 1 with fail
          generalize hW : w.alloc (Obj.cells #[.slice R L.length cl, .slice A ks.length c, .slice S sl.length d, .int .i64 x, .int .i64 y] 48) = W at *
          clear hW
          have x0 := (HX.out.2 0 _ rfl).1
          have x1 := (HX.out.2 1 _ rfl).1
          have x2 := (HX.out.2 2 _ rfl).1
          have HX2 := Lib.hid (HX.out.q ((Q.refl W).alloc (Obj.cells #[Value.slice A ks.length c, Value.slice S sl.length d] 26)))
          go_upto_region 3 with fail
          generalize hV : W.alloc (Obj.cells #[Value.slice A ks.length c, Value.slice S sl.length d] 26) = V at *
          clear hV x0 x1 x2
          have x3 := (HX2.out.2 3 _ rfl).1
          have x4 := (HX2.out.2 4 _ rfl).1
          go_upto_region 5 with fail
          clear x3 x4
          go_wp2_with fail
          refine (shown10_any _).mono ?_
          rintro e w1 ⟨rfl, q1⟩
          have p1 := Lib.hid (HQ0.out.trans q1)
          have b0 := (HT.out.q q1).c0
          have b1 := (HT.out.q q1).c1
          have HT1 := Lib.hid (HT.out.q q1)
          clear q1
          go_wp2_with fail
          refine (CF.out _ p1.out).mono ?_
          rintro e w2 ⟨rfl, q2⟩
          have p2 := Lib.hid (p1.out.trans q2)
          have HT2 := Lib.hid (HT1.out.q q2)
          clear q2 b0 b1
          have b0 := HT2.out.c0
          have b1 := HT2.out.c1
          go_wp2_with fail
          go_ret
          exact ⟨rfl, p2.out⟩
        · have dI : decide (100 < ks.length) = false := decide_eq_false hbig
          have dI' : decide ((100 : Int) < (ks.length : Int)) = false := decide_eq_false (by omega)
          have hks : ks.length ≤ 100 := by omega
          have CA := Lib.hid (fun (z v : Int) (U : World) (p : Q w U) (hz : WfP (z, v)) => all10_any R A S L.length cl ks.length c sl.length d L ks z v U rfl ((HRow.out.q (Nat.le_refl _) p).more p.size) rfl ((HKy.out.q (Nat.le_refl _) p).more p.size) hS hl8 hs5 hcap hks hz)
          have C1 : Hid (∀ U, Q w U → Calls Try.prog 17 #[.slice R L.length cl, .agg #[.slice A ks.length c, .slice S sl.length d], .int .i64 x, .int .i64 x] U fun e w' => ∃ A c B d, e = .returned (.tuple #[.slice A 0 c, .slice B 0 d]) ∧ Q U w') := fun U p => (CA.out x x U p ⟨wf_of hx, wf_of hx⟩).mono fun e w' hp => none_post (step_self x) hp
          have C2 : Hid (∀ U, Q w U → Calls Try.prog 17 #[.slice R L.length cl, .agg #[.slice A ks.length c, .slice S sl.length d], .int .i64 0, .int .i64 y] U fun e w' => ∃ A c B d, e = .returned (.tuple #[.slice A 0 c, .slice B 0 d]) ∧ Q U w') := fun U p => (CA.out 0 y U p ⟨wf_of (x := 0) rfl, wf_of hy⟩).mono fun e w' hp => none_post (step_zero hS y) hp
          have C3 : Hid (∀ U, Q w U → Calls Try.prog 17 #[.slice R L.length cl, .agg #[.slice A ks.length c, .slice S sl.length d], .int .i64 x, .int .i64 1] U fun e w' => ∃ A c B d, e = .returned (.tuple #[.slice A 0 c, .slice B 0 d]) ∧ Q U w') := fun U p => (CA.out x 1 U p ⟨wf_of hx, wf_of (x := 1) rfl⟩).mono fun e w' hp => none_post (step_one hS x) hp
          obtain ⟨n0, hxn⟩ := Int.eq_ofNat_of_zero_le p0
          obtain ⟨n1, hyn⟩ := Int.eq_ofNat_of_zero_le p2
          have hn0 : n0 < ks.length := by omega
          have hn1 : n1 < ks.length := by omega
          have HXN := Lib.hid hxn
          have HYN := Lib.hid hyn
          have C4 : Hid (∀ U, Q w U → Calls Try.prog 17 #[.slice R L.length cl, .agg #[.slice A ks.length c, .slice S sl.length d], .int .i64 x, .int .i64 y] U (AllPost L ks (x, y) U)) := fun U p => CA.out x y U p ⟨wf_of hx, wf_of hy⟩
          have C5 : Hid ((tmP ks n0).k = 3 → (tmP ks n1).k = 3 → (tmP ks n0).s ≠ (tmP ks n1).s → ∀ U, Q w U → Calls Try.prog 17 #[.slice R L.length cl, .agg #[.slice A ks.length c, .slice S sl.length d], .int .i64 x, .int .i64 y] U fun e w' => ∃ A c ad d, e = .returned (.tuple #[.slice A 0 c, .slice (some ad) 1 d]) ∧ w'.cell? ad = some (.int .i64 x) ∧ w'.cell? ⟨ad.block, ad.off + 1, none⟩ = some (.int .i64 y) ∧ Q U w') := fun k0 k1 k2 U p => (CA.out x y U p ⟨wf_of hx, wf_of hy⟩).mono fun e w' hp => one_post (by rw [hxn, hyn]; exact step_other hS hn0 hn1 k0 k1 k2) hp
          have HS := Lib.hid hS
          have i0 : (0 : Int) ≤ x := p0
          have i1 : x < (ks.length : Int) := by omega
          have i2 : (0 : Int) ≤ y := p2
          have i3 : y < (ks.length : Int) := by omega
          have i4 := Lib.hid (show x.toNat = n0 by omega)
          have i5 := Lib.hid (show y.toNat = n1 by omega)
          clear hS hl8 hs5 h2k hx hy hbig hks hpx hpy p0 p1 p2 p3 hxn hyn CA
          go_enter Try.func6, Try.ntmps6
          go_upto_region 1 with fail
          generalize hW : w.alloc (Obj.cells #[.slice R L.length cl, .slice A ks.length c, .slice S sl.length d, .int .i64 x, .int .i64 y] 48) = W at *
          clear hW
          have x0 := (HX.out.2 0 _ rfl).1
          have x1 := (HX.out.2 1 _ rfl).1
          have x2 := (HX.out.2 2 _ rfl).1
          have HX2 := Lib.hid (HX.out.q ((Q.refl W).alloc (Obj.cells #[Value.slice A ks.length c, Value.slice S sl.length d] 26)))
          go_upto_region 3 with fail
          generalize hV : W.alloc (Obj.cells #[Value.slice A ks.length c, Value.slice S sl.length d] 26) = V at *
          clear hV x0 x1 x2
          have x3 := (HX2.out.2 3 _ rfl).1
          have x4 := (HX2.out.2 4 _ rfl).1
          go_upto_region 5 with fail
          clear x3 x4
          go_wp2_with fail
          refine (shown10_any _).mono ?_
          rintro e w1 ⟨rfl, q1⟩
          have p1 := Lib.hid (HQ0.out.trans q1)
          have b0 := (HT.out.q q1).c0
          have b1 := (HT.out.q q1).c1
          have HT1 := Lib.hid (HT.out.q q1)
          clear q1
          go_wp2_with fail
          refine (CF.out _ p1.out).mono ?_
          rintro e w2 ⟨rfl, q2⟩
          have p2 := Lib.hid (p1.out.trans q2)
          have HT2 := Lib.hid (HT1.out.q q2)
          clear q2 b0 b1
          have b0 := HT2.out.c0
          have b1 := HT2.out.c1
          go_wp2_with fail
          refine (C1.out _ p2.out).mono ?_
          rintro e w3 ⟨A3, c3, B3, d3, rfl, q3⟩
          have p3 := Lib.hid (p2.out.trans q3)
          have HT3 := Lib.hid (HT2.out.q q3)
          clear b0 b1 q3
          have b0 := HT3.out.c0
          have b1 := HT3.out.c1
          clear f0 f1 f2 f3 dI dI'
          go_wp2_with fail
          refine (C2.out _ p3.out).mono ?_
          rintro e w4 ⟨A4, c4, B4, d4, rfl, q4⟩
          have p4 := Lib.hid (p3.out.trans q4)
          have HT4 := Lib.hid (HT3.out.q q4)
          clear b0 b1 q4
          have b0 := HT4.out.c0
          have b1 := HT4.out.c1
          go_wp2_with fail
          refine (C3.out _ p4.out).mono ?_
          rintro e w5 ⟨A5, c5, B5, d5, rfl, q5⟩
          have p5 := Lib.hid (p4.out.trans q5)
          have HT5 := Lib.hid (HT4.out.q q5)
          clear b0 b1 q5
          have b0 := HT5.out.c0
          have b1 := HT5.out.c1
          have HKr := HKy.out.keep p5.out
          obtain ⟨ad, ae, kl, ce, hA, had, x0, h3, hae, x1, x2⟩ := key_at HKr HS.out hn0
          obtain ⟨ad', ae', kl', ce', hA', had', y0, h3', hae', y1, y2⟩ := key_at HKr HS.out hn1
          obtain rfl : ad' = ad := by rw [hA] at hA'; injection hA' with h; exact h.symm
          subst hA
          have x0' : w5.cell? (ad'.add x.toNat) = some (.slice (some ae) kl ce) := by rw [i4.out]; exact x0
          have y0' : w5.cell? (ad'.add y.toNat) = some (.slice (some ae') kl' ce') := by rw [i5.out]; exact y0
          clear x0 y0 hA' HKr
          have l0 : (0 : Int) < (kl : Int) := by omega
          have l1 : (1 : Int) < (kl : Int) := by omega
          have l2 : (0 : Int) < (kl' : Int) := by omega
          have l3 : (1 : Int) < (kl' : Int) := by omega
          have l4 : 0 < kl := by omega
          have l5 : 1 < kl := by omega
          have l6 : 0 < kl' := by omega
          have l7 : 1 < kl' := by omega
          go_upto_region 15 with fail
          clear b0 b1 x0' y0'

          by_cases k0 : (tmP ks n0).k = 3
          · have g0 : ((tmP ks n0).k == 3) = true := beq_iff_eq.2 k0
            by_cases k1 : (tmP ks n1).k = 3
            · have g1 : ((tmP ks n1).k == 3) = true := beq_iff_eq.2 k1
              by_cases k2 : (tmP ks n0).s = (tmP ks n1).s
              · have g2 : ((tmP ks n0).s != (tmP ks n1).s) = false := by rw [bne_eq_false_iff_eq]; exact k2
                clear C5 k0 k1 k2
                go_quiet (fail)
                have p6 := Lib.hid (p5.out.drewN nq)
                have HT6 := Lib.hid (HT5.out.q ((Q.refl w5).drewN nq))
                clear x1 x2 y1 y2
                generalize w5.drewN nq = w6 at *
                have b0 := HT6.out.c0
                have b1 := HT6.out.c1
                go_wp2_with fail
                refine (C4.out _ p6.out).mono ?_
                rintro e w7 ⟨A7, c7, B7, d7, rfl, _, _, q7⟩
                clear b0 b1
                go_wp2_with fail
                go_ret
                exact ⟨rfl, p6.out.trans q7⟩
              · have g2 : ((tmP ks n0).s != (tmP ks n1).s) = true := bne_iff_ne.2 k2
                have C6 := Lib.hid (C5.out k0 k1 k2)
                clear C5 C4 k0 k1 k2
                go_quiet (fail)
                have p6 := Lib.hid (p5.out.drewN nq)
                have HT6 := Lib.hid (HT5.out.q ((Q.refl w5).drewN nq))
                clear x1 x2 y1 y2
                generalize w5.drewN nq = w6 at *
                have b0 := HT6.out.c0
                have b1 := HT6.out.c1
                go_wp2_with fail
                refine (C6.out _ p6.out).mono ?_
                rintro e w7 ⟨A7, c7, a7, d7, rfl, e0, e1, q7⟩
                have heq : ∀ u, (binOp .eql 46 (.agg #[.int .i64 x, .int .i64 y]) (.agg #[.int .i64 x, .int .i64 y])).run Try.prog u = .ok (.bool true) u := fun u => by
                  have := run_eql_pair u (x, y) (x, y)
                  rwa [show eqP (x, y) (x, y) = true from (eqP_iff _ _).2 rfl] at this
                clear b0 b1
                go_wp2_with fail
                go_ret
                exact ⟨rfl, p6.out.trans q7⟩
            · have g1 : ((tmP ks n1).k == 3) = false := beq_eq_false_iff_ne.2 k1
              clear C5 k0 k1
              go_quiet (fail)
              have p6 := Lib.hid (p5.out.drewN nq)
              have HT6 := Lib.hid (HT5.out.q ((Q.refl w5).drewN nq))
              clear x1 x2 y1 y2
              generalize w5.drewN nq = w6 at *
              have b0 := HT6.out.c0
              have b1 := HT6.out.c1
              go_wp2_with fail
              refine (C4.out _ p6.out).mono ?_
              rintro e w7 ⟨A7, c7, B7, d7, rfl, _, _, q7⟩
              clear b0 b1
              go_wp2_with fail
              go_ret
              exact ⟨rfl, p6.out.trans q7⟩
          · have g0 : ((tmP ks n0).k == 3) = false := beq_eq_false_iff_ne.2 k0
            clear C5 k0
            go_quiet (fail)
            have p6 := Lib.hid (p5.out.drewN nq)
            have HT6 := Lib.hid (HT5.out.q ((Q.refl w5).drewN nq))
            clear x1 x2 y1 y2
            generalize w5.drewN nq = w6 at *
            have b0 := HT6.out.c0
            have b1 := HT6.out.c1
            go_wp2_with fail
            refine (C4.out _ p6.out).mono ?_
            rintro e w7 ⟨A7, c7, B7, d7, rfl, _, _, q7⟩
            clear b0 b1
            go_wp2_with fail
            go_ret
            exact ⟨rfl, p6.out.trans q7⟩
      · by_cases hn : y < 0
        · have f2 : decide (y < 0) = true := decide_eq_true hn
          clear hpx p0 p1
          clear hS hl8 hs5 h2k hx hy
          go_enter Try.func6, Try.ntmps6
          go_upto_region 1 with fail
          generalize hW : w.alloc (Obj.cells #[.slice R L.length cl, .slice A ks.length c, .slice S sl.length d, .int .i64 x, .int .i64 y] 48) = W at *
          clear hW
          have x0 := (HX.out.2 0 _ rfl).1
          have x1 := (HX.out.2 1 _ rfl).1
          have x2 := (HX.out.2 2 _ rfl).1
          have HX2 := Lib.hid (HX.out.q ((Q.refl W).alloc (Obj.cells #[Value.slice A ks.length c, Value.slice S sl.length d] 26)))
          go_upto_region 3 with fail
          generalize hV : W.alloc (Obj.cells #[Value.slice A ks.length c, Value.slice S sl.length d] 26) = V at *
          clear hV x0 x1 x2
          have x3 := (HX2.out.2 3 _ rfl).1
          have x4 := (HX2.out.2 4 _ rfl).1
          go_upto_region 5 with fail
          clear x3 x4
          go_wp2_with fail
          refine (shown10_any _).mono ?_
          rintro e w1 ⟨rfl, q1⟩
          have p1 := Lib.hid (HQ0.out.trans q1)
          have b0 := (HT.out.q q1).c0
          have b1 := (HT.out.q q1).c1
          have HT1 := Lib.hid (HT.out.q q1)
          clear q1
          go_wp2_with fail
          refine (CF.out _ p1.out).mono ?_
          rintro e w2 ⟨rfl, q2⟩
          have p2 := Lib.hid (p1.out.trans q2)
          have HT2 := Lib.hid (HT1.out.q q2)
          clear q2 b0 b1
          have b0 := HT2.out.c0
          have b1 := HT2.out.c1
          go_wp2_with fail
          go_ret
          exact ⟨rfl, p2.out⟩
        · have f2 : decide (y < 0) = false := decide_eq_false hn
          have f3 : decide ((ks.length : Int) ≤ y) = true := decide_eq_true (by have := mt (isPl_iff _ _).2 hpy; omega)
          clear hpx p0 p1 hpy
          clear hS hl8 hs5 h2k hx hy
          go_enter Try.func6, Try.ntmps6
          go_upto_region 1 with fail
          generalize hW : w.alloc (Obj.cells #[.slice R L.length cl, .slice A ks.length c, .slice S sl.length d, .int .i64 x, .int .i64 y] 48) = W at *
          clear hW
          have x0 := (HX.out.2 0 _ rfl).1
          have x1 := (HX.out.2 1 _ rfl).1
          have x2 := (HX.out.2 2 _ rfl).1
          have HX2 := Lib.hid (HX.out.q ((Q.refl W).alloc (Obj.cells #[Value.slice A ks.length c, Value.slice S sl.length d] 26)))
          go_upto_region 3 with fail
          generalize hV : W.alloc (Obj.cells #[Value.slice A ks.length c, Value.slice S sl.length d] 26) = V at *
          clear hV x0 x1 x2
          have x3 := (HX2.out.2 3 _ rfl).1
          have x4 := (HX2.out.2 4 _ rfl).1
          go_upto_region 5 with fail
          clear x3 x4
          go_wp2_with fail
          refine (shown10_any _).mono ?_
          rintro e w1 ⟨rfl, q1⟩
          have p1 := Lib.hid (HQ0.out.trans q1)
          have b0 := (HT.out.q q1).c0
          have b1 := (HT.out.q q1).c1
          have HT1 := Lib.hid (HT.out.q q1)
          clear q1
          go_wp2_with fail
          refine (CF.out _ p1.out).mono ?_
          rintro e w2 ⟨rfl, q2⟩
          have p2 := Lib.hid (p1.out.trans q2)
          have HT2 := Lib.hid (HT1.out.q q2)
          clear q2 b0 b1
          have b0 := HT2.out.c0
          have b1 := HT2.out.c1
          go_wp2_with fail
          go_ret
          exact ⟨rfl, p2.out⟩
    · by_cases hn : x < 0
      · have f0 : decide (x < 0) = true := decide_eq_true hn
        clear hS hl8 hs5 h2k hx hy
        go_enter Try.func6, Try.ntmps6
        go_upto_region 1 with fail
        generalize hW : w.alloc (Obj.cells #[.slice R L.length cl, .slice A ks.length c, .slice S sl.length d, .int .i64 x, .int .i64 y] 48) = W at *
        clear hW
        have x0 := (HX.out.2 0 _ rfl).1
        have x1 := (HX.out.2 1 _ rfl).1
        have x2 := (HX.out.2 2 _ rfl).1
        have HX2 := Lib.hid (HX.out.q ((Q.refl W).alloc (Obj.cells #[Value.slice A ks.length c, Value.slice S sl.length d] 26)))
        go_upto_region 3 with fail
        generalize hV : W.alloc (Obj.cells #[Value.slice A ks.length c, Value.slice S sl.length d] 26) = V at *
        clear hV x0 x1 x2
        have x3 := (HX2.out.2 3 _ rfl).1
        have x4 := (HX2.out.2 4 _ rfl).1
        go_upto_region 5 with fail
        clear x3 x4
        go_wp2_with fail
        refine (shown10_any _).mono ?_
        rintro e w1 ⟨rfl, q1⟩
        have p1 := Lib.hid (HQ0.out.trans q1)
        have b0 := (HT.out.q q1).c0
        have b1 := (HT.out.q q1).c1
        have HT1 := Lib.hid (HT.out.q q1)
        clear q1
        go_wp2_with fail
        refine (CF.out _ p1.out).mono ?_
        rintro e w2 ⟨rfl, q2⟩
        have p2 := Lib.hid (p1.out.trans q2)
        have HT2 := Lib.hid (HT1.out.q q2)
        clear q2 b0 b1
        have b0 := HT2.out.c0
        have b1 := HT2.out.c1
        go_wp2_with fail
        go_ret
        exact ⟨rfl, p2.out⟩
      · have f0 : decide (x < 0) = false := decide_eq_false hn
        have f1 : decide ((ks.length : Int) ≤ x) = true := decide_eq_true (by have := mt (isPl_iff _ _).2 hpx; omega)
        clear hpx
        clear hS hl8 hs5 h2k hx hy
        go_enter Try.func6, Try.ntmps6
        go_upto_region 1 with fail
        generalize hW : w.alloc (Obj.cells #[.slice R L.length cl, .slice A ks.length c, .slice S sl.length d, .int .i64 x, .int .i64 y] 48) = W at *
        clear hW
        have x0 := (HX.out.2 0 _ rfl).1
        have x1 := (HX.out.2 1 _ rfl).1
        have x2 := (HX.out.2 2 _ rfl).1
        have HX2 := Lib.hid (HX.out.q ((Q.refl W).alloc (Obj.cells #[Value.slice A ks.length c, Value.slice S sl.length d] 26)))
        go_upto_region 3 with fail
        generalize hV : W.alloc (Obj.cells #[Value.slice A ks.length c, Value.slice S sl.length d] 26) = V at *
        clear hV x0 x1 x2
        have x3 := (HX2.out.2 3 _ rfl).1
        have x4 := (HX2.out.2 4 _ rfl).1
        go_upto_region 5 with fail
        clear x3 x4
        go_wp2_with fail
        refine (shown10_any _).mono ?_
        rintro e w1 ⟨rfl, q1⟩
        have p1 := Lib.hid (HQ0.out.trans q1)
        have b0 := (HT.out.q q1).c0
        have b1 := (HT.out.q q1).c1
        have HT1 := Lib.hid (HT.out.q q1)
        clear q1
        go_wp2_with fail
        refine (CF.out _ p1.out).mono ?_
        rintro e w2 ⟨rfl, q2⟩
        have p2 := Lib.hid (p1.out.trans q2)
        have HT2 := Lib.hid (HT1.out.q q2)
        clear q2 b0 b1
        have b0 := HT2.out.c0
        have b1 := HT2.out.c1
        go_wp2_with fail
        go_ret
        exact ⟨rfl, p2.out⟩

set_option maxRecDepth 100000 in
theorem lifted (os : Os) (started : os.Started) (H : Type) (enc : TypeId × Value → H) :
    ReturnsInHanded {} Try.checked os 6 .any (Rows.stepEndsSpec.pre6 enc Try.prog Try.f6 Rows.stepEndsRow.domain false) (Rows.stepEndsSpec.post enc Try.prog Try.f6 false true false false) := by
  refine returnsInHanded_of_change_sized (C := Try.checked) own started (by kernel_rfl) Try.func6
    (ChangeSpec.witness6 (enc := enc) (C := Try.checked) false ⟨#[], #[.agg #[.slice none 0 0, .slice none 0 0, .slice none 0 0, .int .i64 0, .int .i64 0]], []⟩ 8 (by kernel_rfl) (by kernel_rfl) (by kernel_rfl) (by kernel_rfl)) ?_
  intro W base args ds gs before hval0 hW hcnd hsz0 _
  have hval : ∀ (j : Nat) t v, Try.f6.params[j]? = some t → args[j]? = some v → Value.okWide Try.prog W .any base t v := hval0
  have hW' := hW
  obtain ⟨p, q, hA0, hV, rfl, hfz, hnd⟩ := hW
  have hA : DataW.TrodAll enc Try.prog W 0 (fun _ => true) true Try.f6.params.toList args.toList ds p := hA0
  rw [Try.params6] at hA hval
  obtain ⟨v0, vs0, d0, ds0, p0, q0, hargs, rfl, rfl, h0, r0⟩ := trodAll_cons hA
  obtain ⟨rfl, rfl, rfl⟩ := trodAll_nil r0
  obtain rfl : args = #[v0] := by cases args; simp_all
  obtain ⟨rfl, rfl⟩ := trodVars_none hV
  have z0 : ∀ n ∈ d0.weights Try.prog 48, n ≤ reachBytes := fun n hn => by
    have := List.all_eq_true.1 hsz0 n (DataW.weights_mem_each (j := 0) (t := 48) (d := d0) (by rw [Try.params6]; rfl) rfl n hn)
    simpa using this
  obtain ⟨R, nl, cl, L, A, n, c, S, m, d, ks, sl, x, y, rfl, a1, a2, a3, a4, hn, hm, hk, hS, hl, hs, hsl, hcap, hx, hy⟩ := open_StepEndsIn (hval 0 48 v0 rfl rfl) h0 z0
  clear hA0 hval0
  refine (walk R A S nl cl n c m d L ks sl x y _ a1 a2 a3 a4 hn hm hk hS hl hs hsl hcap hx hy).mono fun e W' ⟨he, hg⟩ => ?_
  subst he
  exact ⟨_, rfl, post_law laid (by rw [Try.params6]; decide +kernel) rfl rfl (by kernel_rfl) Try.underlying4 hW' hg⟩

/-- THE STATEMENT -/
theorem proved : Rows.StepEndsSaid :=
  OpenClaim.holds_of_wide 6 Try.f6 rfl rfl rfl rfl rfl rfl rfl ⟨rfl, rfl, rfl, rfl, rfl⟩ rfl rfl rfl rfl rfl (by kernel_rfl) Try.func6 (by kernel_rfl)
    (of_decide_eq_true (by kernel_rfl)) (by unfold Func.isWrapper; first | (rw [if_pos (by decide +kernel)]; kernel_rfl) | (rw [if_neg (by decide +kernel)]; exact ⟨rfl, rfl⟩))
    (fun os started H enc _ => lifted os started H enc)
end Go.Proofs.Ytjehccemilefgaa.stepEnds
