/-
  CycNext holds.
-/
import Derived.Test.YteccgjhnifdcfaaPd
import Derived.Test.YteccgjhnifdcfaaPj
import Derived.Test.YteccgjhnifdcfaaPk
import Derived.Test.YteccgjhnifdcfaaRows
import Derived.OpenShut
import Derived.RegionTactic
import Derived.Deep.CutBlock
namespace Go.Proofs.Yteccgjhnifdcfaa.cycNext
open Go.Proofs.Yteccgjhnifdcfaa.Cy
open Go.ChangeShapes Go.WideShapes Go.ChangeAt Go.RowKit Kit Rw Ex Ig Tr Uf
open Go.Proofs.Yteccgjhnifdcfaa.Sg (Sig Row Sized)
open Go.Proofs.Yteccgjhnifdcfaa.Hs (Ints Keys BoxT layI)
set_option maxRecDepth 100000 in
set_option maxHeartbeats 16000000 in
theorem walk (L0 A S F Av D E Pa Ta : Option Addr) (nl cl n ca m d cr k1 k2 k3 kp kt : Nat) (l : List Sig) (ks : List (List Int)) (sl : List Int) (R : List Int) (c : Cells) (P T : List (List Int)) (x y : Int) (w : World) (hnl : nl = l.length) (hr : Row w w.heap.size L0 l) (hll : l.length ≤ maxLen) (hsz : Sized l) (hn : n = ks.length) (hm : m = sl.length) (hk : Keys w w.heap.size A ks) (hSi : Ints w w.heap.size S sl) (hl : ks.length ≤ 1152921504606846976) (hs : ∀ k ∈ ks, k.length ≤ 1152921504606846976) (hsl : sl.length ≤ 1152921504606846976) (hG : GArg w R c P T F Av D E Pa Ta k1 k2 k3) :
    Calls Try.prog 4 #[.agg #[.slice L0 nl cl, .slice A n ca, .slice S m d, .slice F R.length cr, .slice Av c.V.length k1, .slice D c.N.length k2, .slice E c.M.length k3, .slice Pa P.length kp, .slice Ta T.length kt, .int .i64 x, .int .i64 y]] w fun e w' => e = .returned (.bool true) ∧ Q w w' := by
  subst hnl hn hm
  have HQ0 := Lib.hid ((((Q.refl w).alloc (Obj.cells #[.slice L0 l.length cl, .slice A ks.length ca, .slice S sl.length d, .slice F R.length cr, .slice Av c.V.length k1, .slice D c.N.length k2, .slice E c.M.length k3, .slice Pa P.length kp, .slice Ta T.length kt, .int .i64 x, .int .i64 y] 43)).alloc (Obj.cells #[Value.slice A ks.length ca, Value.slice S sl.length d] 26)).alloc (Obj.cells #[.slice F R.length cr, .slice Av c.V.length k1, .slice D c.N.length k2, .slice E c.M.length k3, .slice Pa P.length kp, .slice Ta T.length kt] 31))
  have HX := Lib.hid (own_new8 w [.slice L0 l.length cl, .slice A ks.length ca, .slice S sl.length d, .slice F R.length cr, .slice Av c.V.length k1, .slice D c.N.length k2, .slice E c.M.length k3, .slice Pa P.length kp, .slice Ta T.length kt, .int .i64 x, .int .i64 y] 43)
  have HT := Lib.hid ((BoxT.new (w.alloc (Obj.cells #[.slice L0 l.length cl, .slice A ks.length ca, .slice S sl.length d, .slice F R.length cr, .slice Av c.V.length k1, .slice D c.N.length k2, .slice E c.M.length k3, .slice Pa P.length kp, .slice Ta T.length kt, .int .i64 x, .int .i64 y] 43)) (Value.slice A ks.length ca) (Value.slice S sl.length d) 26).q ((Q.refl _).alloc (Obj.cells #[.slice F R.length cr, .slice Av c.V.length k1, .slice D c.N.length k2, .slice E c.M.length k3, .slice Pa P.length kp, .slice Ta T.length kt] 31)))
  have HG6 := Lib.hid (Box6.new ((w.alloc (Obj.cells #[.slice L0 l.length cl, .slice A ks.length ca, .slice S sl.length d, .slice F R.length cr, .slice Av c.V.length k1, .slice D c.N.length k2, .slice E c.M.length k3, .slice Pa P.length kp, .slice Ta T.length kt, .int .i64 x, .int .i64 y] 43)).alloc (Obj.cells #[Value.slice A ks.length ca, Value.slice S sl.length d] 26)) (.slice F R.length cr) (.slice Av c.V.length k1) (.slice D c.N.length k2) (.slice E c.M.length k3) (.slice Pa P.length kp) (.slice Ta T.length kt) 31)
  have HRow := Lib.hid hr
  have HKy := Lib.hid hk
  have HSl := Lib.hid hSi
  have HGa := Lib.hid hG
  have CF := Lib.hid (fun (U : World) (p : Q w U) => of13_any L0 A S F Av D E Pa Ta l.length cl ks.length ca sl.length d R.length cr c.V.length k1 c.N.length k2 c.M.length k3 P.length kp T.length kt l ks sl R c P T U rfl ((hr.q (Nat.le_refl _) p).more p.size) rfl rfl ((hk.q (Nat.le_refl _) p).more p.size) ((hSi.q (Nat.le_refl _) p).more p.size) hll hsz hl hs hsl rfl rfl rfl rfl rfl rfl ((hG.r.q p)) (hG.u.q p) ((hG.p.q (Nat.le_refl _) p).more p.size) ((hG.t.q (Nat.le_refl _) p).more p.size) hG.lR hG.lU.1 hG.lU.2.1 hG.lU.2.2 hG.lP hG.lT hG.sP hG.sT)
  clear hr hll hsz hk hSi hl hs hsl hG
  have CT : Hid (∀ (x y : Int) (U : World), Calls Try.prog 8 #[.agg #[.slice F R.length cr, .slice Av c.V.length k1, .slice D c.N.length k2, .slice E c.M.length k3, .slice Pa P.length kp, .slice Ta T.length kt], .slice (some ⟨U.heap.size, 0, none⟩) 2 2] (U.alloc (Obj.cells #[.int .i64 x, .int .i64 y] 3)) fun e w' => e = .returned (.bool (thereL c.V.length [x, y])) ∧ Q U w') := fun x y U => (refThere13_any [x, y] (some ⟨U.heap.size, 0, none⟩) Av 2 2 c.V.length k1 _ _ _ _ _ (U.alloc (Obj.cells #[.int .i64 x, .int .i64 y] 3)) rfl (two_row U x y _) (by simp)).mono (fun e w' h => ⟨h.1, ((Q.refl U).alloc (Obj.cells #[.int .i64 x, .int .i64 y] 3)).trans h.2⟩)
  cases hof : of13B l ks sl R c P T
  · rw [hof] at CF
    clear hof HKy HSl HGa HRow CT
    go_enter Try.func4, Try.ntmps4
    go_upto_region 1 with fail
    generalize hW : w.alloc (Obj.cells #[.slice L0 l.length cl, .slice A ks.length ca, .slice S sl.length d, .slice F R.length cr, .slice Av c.V.length k1, .slice D c.N.length k2, .slice E c.M.length k3, .slice Pa P.length kp, .slice Ta T.length kt, .int .i64 x, .int .i64 y] 43) = W at *
    clear hW
    have x0 := (HX.out.2 0 _ rfl).1
    have x1 := (HX.out.2 1 _ rfl).1
    have x2 := (HX.out.2 2 _ rfl).1
    have HX2 := Lib.hid (HX.out.q ((Q.refl W).alloc (Obj.cells #[Value.slice A ks.length ca, Value.slice S sl.length d] 26)))
    go_upto_region 3 with fail
    generalize hV : W.alloc (Obj.cells #[Value.slice A ks.length ca, Value.slice S sl.length d] 26) = V at *
    clear hV x0 x1 x2
    have x3 := (HX2.out.2 3 _ rfl).1
    have x4 := (HX2.out.2 4 _ rfl).1
    have x5 := (HX2.out.2 5 _ rfl).1
    have x6 := (HX2.out.2 6 _ rfl).1
    have x7 := (HX2.out.2 7 _ rfl).1
    have x8 := (HX2.out.2 8 _ rfl).1
    have HX3 := Lib.hid (HX2.out.q ((Q.refl V).alloc (Obj.cells #[.slice F R.length cr, .slice Av c.V.length k1, .slice D c.N.length k2, .slice E c.M.length k3, .slice Pa P.length kp, .slice Ta T.length kt] 31)))
    go_upto_region 4 with fail
    generalize hU : V.alloc (Obj.cells #[.slice F R.length cr, .slice Av c.V.length k1, .slice D c.N.length k2, .slice E c.M.length k3, .slice Pa P.length kp, .slice Ta T.length kt] 31) = U at *
    clear hU x3 x4 x5 x6 x7 x8
    have x9 := (HX3.out.2 9 _ rfl).1
    have x10 := (HX3.out.2 10 _ rfl).1
    go_upto_region 6 with fail
    clear x9 x10
    have ALL : Hid (∀ U', Q U U' → U'.cell? ⟨W.heap.size, 0, none⟩ = some (.slice A ks.length ca) ∧ U'.cell? ⟨W.heap.size, 1, none⟩ = some (.slice S sl.length d) ∧ U'.cell? ⟨V.heap.size, 0, none⟩ = some (.slice F R.length cr) ∧ U'.cell? ⟨V.heap.size, 1, none⟩ = some (.slice Av c.V.length k1) ∧ U'.cell? ⟨V.heap.size, 2, none⟩ = some (.slice D c.N.length k2) ∧ U'.cell? ⟨V.heap.size, 3, none⟩ = some (.slice E c.M.length k3) ∧ U'.cell? ⟨V.heap.size, 4, none⟩ = some (.slice Pa P.length kp) ∧ U'.cell? ⟨V.heap.size, 5, none⟩ = some (.slice Ta T.length kt)) := fun U' q => by
      have h1 := HT.out.q q
      have h2 := HG6.out.q q
      exact ⟨h1.c0, h1.c1, h2.c0, h2.c1, h2.c2, h2.c3, h2.c4, h2.c5⟩
    obtain ⟨s0, s1, s2, s3, s4, s5, s6, s7⟩ := ALL.out U (Q.refl _)
    have HQ1 : Hid (Q U U) := Lib.hid (Q.refl _)
    go_wp2_with (first
      | (go_at_call 6; (with_reducible refine (shown13_any U).mono ?_); rintro e w2 ⟨rfl, q1⟩; have HQ2 := Lib.hid (HQ1.out.trans q1); clear s0 s1 s2 s3 s4 s5 s6 s7 q1; obtain ⟨s0, s1, s2, s3, s4, s5, s6, s7⟩ := ALL.out w2 HQ2.out)
      | (go_at_call 7; (with_reducible refine (CF.out w2 (HQ0.out.trans HQ2.out)).mono ?_); rintro e w3 ⟨rfl, q2⟩; have HQ3 := Lib.hid (HQ2.out.trans q2); clear s0 s1 s2 s3 s4 s5 s6 s7 q2; obtain ⟨s0, s1, s2, s3, s4, s5, s6, s7⟩ := ALL.out w3 HQ3.out)
      | fail)
    go_ret
    exact ⟨rfl, HQ0.out.trans HQ3.out⟩
  · rw [hof] at CF
    cases hth : thereL c.V.length [x, y]
    · have CT2 := Lib.hid (CT.out x y)
      rw [hth] at CT2
      clear hof hth HKy HSl HGa HRow CT
      go_enter Try.func4, Try.ntmps4
      go_upto_region 1 with fail
      generalize hW : w.alloc (Obj.cells #[.slice L0 l.length cl, .slice A ks.length ca, .slice S sl.length d, .slice F R.length cr, .slice Av c.V.length k1, .slice D c.N.length k2, .slice E c.M.length k3, .slice Pa P.length kp, .slice Ta T.length kt, .int .i64 x, .int .i64 y] 43) = W at *
      clear hW
      have x0 := (HX.out.2 0 _ rfl).1
      have x1 := (HX.out.2 1 _ rfl).1
      have x2 := (HX.out.2 2 _ rfl).1
      have HX2 := Lib.hid (HX.out.q ((Q.refl W).alloc (Obj.cells #[Value.slice A ks.length ca, Value.slice S sl.length d] 26)))
      go_upto_region 3 with fail
      generalize hV : W.alloc (Obj.cells #[Value.slice A ks.length ca, Value.slice S sl.length d] 26) = V at *
      clear hV x0 x1 x2
      have x3 := (HX2.out.2 3 _ rfl).1
      have x4 := (HX2.out.2 4 _ rfl).1
      have x5 := (HX2.out.2 5 _ rfl).1
      have x6 := (HX2.out.2 6 _ rfl).1
      have x7 := (HX2.out.2 7 _ rfl).1
      have x8 := (HX2.out.2 8 _ rfl).1
      have HX3 := Lib.hid (HX2.out.q ((Q.refl V).alloc (Obj.cells #[.slice F R.length cr, .slice Av c.V.length k1, .slice D c.N.length k2, .slice E c.M.length k3, .slice Pa P.length kp, .slice Ta T.length kt] 31)))
      go_upto_region 4 with fail
      generalize hU : V.alloc (Obj.cells #[.slice F R.length cr, .slice Av c.V.length k1, .slice D c.N.length k2, .slice E c.M.length k3, .slice Pa P.length kp, .slice Ta T.length kt] 31) = U at *
      clear hU x3 x4 x5 x6 x7 x8
      have x9 := (HX3.out.2 9 _ rfl).1
      have x10 := (HX3.out.2 10 _ rfl).1
      go_upto_region 6 with fail
      clear x9 x10
      have ALL : Hid (∀ U', Q U U' → U'.cell? ⟨W.heap.size, 0, none⟩ = some (.slice A ks.length ca) ∧ U'.cell? ⟨W.heap.size, 1, none⟩ = some (.slice S sl.length d) ∧ U'.cell? ⟨V.heap.size, 0, none⟩ = some (.slice F R.length cr) ∧ U'.cell? ⟨V.heap.size, 1, none⟩ = some (.slice Av c.V.length k1) ∧ U'.cell? ⟨V.heap.size, 2, none⟩ = some (.slice D c.N.length k2) ∧ U'.cell? ⟨V.heap.size, 3, none⟩ = some (.slice E c.M.length k3) ∧ U'.cell? ⟨V.heap.size, 4, none⟩ = some (.slice Pa P.length kp) ∧ U'.cell? ⟨V.heap.size, 5, none⟩ = some (.slice Ta T.length kt)) := fun U' q => by
        have h1 := HT.out.q q
        have h2 := HG6.out.q q
        exact ⟨h1.c0, h1.c1, h2.c0, h2.c1, h2.c2, h2.c3, h2.c4, h2.c5⟩
      obtain ⟨s0, s1, s2, s3, s4, s5, s6, s7⟩ := ALL.out U (Q.refl _)
      have HQ1 : Hid (Q U U) := Lib.hid (Q.refl _)
      go_wp2_with (first
        | (go_at_call 6; (with_reducible refine (shown13_any U).mono ?_); rintro e w2 ⟨rfl, q1⟩; have HQ2 := Lib.hid (HQ1.out.trans q1); clear s0 s1 s2 s3 s4 s5 s6 s7 q1; obtain ⟨s0, s1, s2, s3, s4, s5, s6, s7⟩ := ALL.out w2 HQ2.out)
        | (go_at_call 7; (with_reducible refine (CF.out w2 (HQ0.out.trans HQ2.out)).mono ?_); rintro e w3 ⟨rfl, q2⟩; have HQ3 := Lib.hid (HQ2.out.trans q2); clear s0 s1 s2 s3 s4 s5 s6 s7 q2; obtain ⟨s0, s1, s2, s3, s4, s5, s6, s7⟩ := ALL.out w3 HQ3.out)
        | (go_at_call 8; refine (CT2.out w3).mono ?_; rintro e w4 ⟨rfl, q3⟩; have HQ4 := Lib.hid (HQ3.out.trans q3); clear s0 s1 s2 s3 s4 s5 s6 s7 q3; obtain ⟨s0, s1, s2, s3, s4, s5, s6, s7⟩ := ALL.out w4 HQ4.out)
        | fail)
      go_ret
      exact ⟨rfl, HQ0.out.trans HQ4.out⟩
    · obtain ⟨h12, hv40⟩ := of13_12 hof
      obtain ⟨hO, hsl, hfew, hC, hp, ht, g6, hA⟩ := of12_plain h12
      clear hof h12 g6
      obtain ⟨a, b, rfl, rfl, ha, hb⟩ := there_two hth
      have CT2 := Lib.hid (CT.out (a : Int) (b : Int))
      rw [hth] at CT2
      clear CT hth
      have hE : (edgesN ks c.V P T).length ≤ 1000000 := by
        have := edges_len ks c.V (B := 1000) hfew.2.2.2.2.1 hfew.2.2.2.2.2
        have := Nat.mul_le_mul_right 2000 hv40
        omega
      have sP6 : ∀ k ∈ P, k.length ≤ 1000000 := fun k hk => Nat.le_trans (hfew.2.2.2.2.1 k hk) (by omega)
      have sT6 : ∀ k ∈ T, k.length ≤ 1000000 := fun k hk => Nat.le_trans (hfew.2.2.2.2.2 k hk) (by omega)
      have hkk : ∀ k ∈ ks, k.length ≤ 100000 := hO.key
      have hkl : ks.length ≤ 1000000 := by have := hO.len; omega
      have CFI : Hid (∀ (n : Nat) (U : World), n < c.V.length → Q w U → Calls Try.prog 10 #[.agg #[.slice Av c.V.length k1, .slice D c.N.length k2, .slice E c.M.length k3], .int .i64 (n : Int)] U fun e w' => e = .returned (.int .i64 (fst c.V n : Int)) ∧ Q U w') := fun n U hn p => refFind_any R c.V n Av c.V.length k1 _ _ U rfl (HGa.out.u.q p).v hC hn (by omega)
      have CNX : Hid (∀ (n : Nat) (U : World), n < c.V.length → Q w U → Calls Try.prog 12 #[.agg #[.slice A ks.length ca, .slice S sl.length d], .agg #[.slice F R.length cr, .slice Av c.V.length k1, .slice D c.N.length k2, .slice E c.M.length k3, .slice Pa P.length kp, .slice Ta T.length kt], .int .i64 (n : Int)] U (RowPost (nextL ks c.V P T (fst c.V n)) U)) := fun n U hn p => next13_any R c P T ks A S F Av D E Pa Ta ca sl.length d R.length cr k1 k2 k3 kp kt n U ((HKy.out.q (Nat.le_refl _) p).more p.size) hkk hkl (HGa.out.u.q p) hC (by omega) ((HGa.out.p.q (Nat.le_refl _) p).more p.size) ((HGa.out.t.q (Nat.le_refl _) p).more p.size) hp ht sP6 sT6 hE hn
      have HV : Hid (∀ f, f < c.V.length → par c.V f = f → ∃ vad : Addr, Av = some vad ∧ vad.block < w.heap.size ∧ w.cell? (vad.add f) = some (.int .i64 (f : Int))) := fun f h1 h2 => by
        obtain ⟨vad, e, hlt, h⟩ := HGa.out.u.v.int_at h1
        exact ⟨vad, e, hlt, by rw [h, hC.at h1, h2]⟩
      obtain ⟨fa, hfa⟩ : ∃ fa, fa = fst c.V a := ⟨_, rfl⟩
      obtain ⟨fb, hfb⟩ : ∃ fb, fb = fst c.V b := ⟨_, rfl⟩
      obtain ⟨L, hL⟩ : ∃ L, L = nextL ks c.V P T fa := ⟨_, rfl⟩
      obtain ⟨M, hM⟩ : ∃ M, M = nextL ks c.V P T fb := ⟨_, rfl⟩
      have CFa := Lib.hid (fun U => CFI.out a U ha)
      have CFb := Lib.hid (fun U => CFI.out b U hb)
      have CNa := Lib.hid (fun U => CNX.out a U ha)
      have CNb := Lib.hid (fun U => CNX.out b U hb)
      rw [← hfa] at CFa CNa
      rw [← hfb] at CFb CNb
      rw [← hL] at CNa
      rw [← hM] at CNb
      have HL : Hid (∀ k (h : k < L.length), ∃ f : Nat, L[k] = (f : Int) ∧ f < c.V.length ∧ par c.V f = f ∧ f ≠ fa) := by subst hL; exact fun k h => next_at h
      have HR : Hid (∀ j (h : j + 1 < L.length), L[j]'(by omega) < L[j + 1]) := by subst hL; exact fun j h => next_rise h
      have HLl : Hid (L.length ≤ 40) := by rw [hL]; exact Nat.le_trans (next_len ks c.V P T _) hv40
      have HNN : Hid (fa = fb → M = L) := fun h => by rw [hM, hL, h]
      have Hv40 := Lib.hid hv40
      clear hO hsl hfew hC hp ht hA hE sP6 sT6 hkk hkl CFI CNX ha hb hv40 HKy HSl HGa HRow hL hM hfa hfb
      go_enter Try.func4, Try.ntmps4
      go_upto_region 1 with fail
      generalize hW : w.alloc (Obj.cells #[.slice L0 l.length cl, .slice A ks.length ca, .slice S sl.length d, .slice F R.length cr, .slice Av c.V.length k1, .slice D c.N.length k2, .slice E c.M.length k3, .slice Pa P.length kp, .slice Ta T.length kt, .int .i64 (a : Int), .int .i64 (b : Int)] 43) = W at *
      clear hW
      have x0 := (HX.out.2 0 _ rfl).1
      have x1 := (HX.out.2 1 _ rfl).1
      have x2 := (HX.out.2 2 _ rfl).1
      have HX2 := Lib.hid (HX.out.q ((Q.refl W).alloc (Obj.cells #[Value.slice A ks.length ca, Value.slice S sl.length d] 26)))
      go_upto_region 3 with fail
      generalize hV : W.alloc (Obj.cells #[Value.slice A ks.length ca, Value.slice S sl.length d] 26) = V at *
      clear hV x0 x1 x2
      have x3 := (HX2.out.2 3 _ rfl).1
      have x4 := (HX2.out.2 4 _ rfl).1
      have x5 := (HX2.out.2 5 _ rfl).1
      have x6 := (HX2.out.2 6 _ rfl).1
      have x7 := (HX2.out.2 7 _ rfl).1
      have x8 := (HX2.out.2 8 _ rfl).1
      have HX3 := Lib.hid (HX2.out.q ((Q.refl V).alloc (Obj.cells #[.slice F R.length cr, .slice Av c.V.length k1, .slice D c.N.length k2, .slice E c.M.length k3, .slice Pa P.length kp, .slice Ta T.length kt] 31)))
      go_upto_region 4 with fail
      generalize hU : V.alloc (Obj.cells #[.slice F R.length cr, .slice Av c.V.length k1, .slice D c.N.length k2, .slice E c.M.length k3, .slice Pa P.length kp, .slice Ta T.length kt] 31) = U at *
      clear hU x3 x4 x5 x6 x7 x8
      have x9 := (HX3.out.2 9 _ rfl).1
      have x10 := (HX3.out.2 10 _ rfl).1
      go_upto_region 6 with fail
      clear x9 x10
      have ALL : Hid (∀ U', Q U U' → U'.cell? ⟨W.heap.size, 0, none⟩ = some (.slice A ks.length ca) ∧ U'.cell? ⟨W.heap.size, 1, none⟩ = some (.slice S sl.length d) ∧ U'.cell? ⟨V.heap.size, 0, none⟩ = some (.slice F R.length cr) ∧ U'.cell? ⟨V.heap.size, 1, none⟩ = some (.slice Av c.V.length k1) ∧ U'.cell? ⟨V.heap.size, 2, none⟩ = some (.slice D c.N.length k2) ∧ U'.cell? ⟨V.heap.size, 3, none⟩ = some (.slice E c.M.length k3) ∧ U'.cell? ⟨V.heap.size, 4, none⟩ = some (.slice Pa P.length kp) ∧ U'.cell? ⟨V.heap.size, 5, none⟩ = some (.slice Ta T.length kt)) := fun U' q => by
        have h1 := HT.out.q q
        have h2 := HG6.out.q q
        exact ⟨h1.c0, h1.c1, h2.c0, h2.c1, h2.c2, h2.c3, h2.c4, h2.c5⟩
      obtain ⟨s0, s1, s2, s3, s4, s5, s6, s7⟩ := ALL.out U (Q.refl _)
      have HQ1 : Hid (Q U U) := Lib.hid (Q.refl _)
      go_upto_region 9 with (first
        | (go_at_call 6; (with_reducible refine (shown13_any U).mono ?_); rintro e w2 ⟨rfl, q1⟩; have HQ2 := Lib.hid (HQ1.out.trans q1); clear s0 s1 s2 s3 s4 s5 s6 s7 q1; obtain ⟨s0, s1, s2, s3, s4, s5, s6, s7⟩ := ALL.out w2 HQ2.out)
        | (go_at_call 7; (with_reducible refine (CF.out w2 (HQ0.out.trans HQ2.out)).mono ?_); rintro e w3 ⟨rfl, q2⟩; have HQ3 := Lib.hid (HQ2.out.trans q2); clear s0 s1 s2 s3 s4 s5 s6 s7 q2; obtain ⟨s0, s1, s2, s3, s4, s5, s6, s7⟩ := ALL.out w3 HQ3.out)
        | (go_at_call 8; refine (CT2.out w3).mono ?_; rintro e w4 ⟨rfl, q3⟩; have HQ4 := Lib.hid (HQ3.out.trans q3); clear s0 s1 s2 s3 s4 s5 s6 s7 q3; obtain ⟨s0, s1, s2, s3, s4, s5, s6, s7⟩ := ALL.out w4 HQ4.out)
        | fail)
      clear CF CT2
      go_upto_region 10 with (go_at_call 12; refine (CNa.out w4 (HQ0.out.trans HQ4.out)).mono ?_; rintro e w5 ⟨An, cn, rfl, -, hRn, q4⟩; have HRn := Lib.hid hRn; have HQ5 := Lib.hid (HQ4.out.trans q4); clear hRn q4 s0 s1 s2 s3 s4 s5 s6 s7; obtain ⟨s0, s1, s2, s3, s4, s5, s6, s7⟩ := ALL.out w5 HQ5.out)
      go_upto_region 11 with (go_at_call 10; refine (CFa.out w5 (HQ0.out.trans HQ5.out)).mono ?_; rintro e w6 ⟨rfl, q5⟩; have HQ56 := Lib.hid q5; have HQ6 := Lib.hid (HQ5.out.trans q5); clear q5 s0 s1 s2 s3 s4 s5 s6 s7)
      go_wp2_with fail
      go_loopw [11] (fun i wr => ∃ k : Nat, k ≤ L.length ∧ i = .int .i64 k ∧ Hid (Q w6 wr)) (fun i _ => L.length - (intOf i).toNat)
      case atStart => exact ⟨0, Nat.zero_le _, rfl, Lib.hid (Q.refl _)⟩
      case round =>
        obtain ⟨k, hkl, rfl, HQr⟩ := hrel
        obtain ⟨s0, s1, s2, s3, s4, s5, s6, s7⟩ := ALL.out wr (HQ6.out.trans HQr.out)
        by_cases hlt : k < L.length
        · obtain ⟨f, hf, f1, f2, f3⟩ := HL.out k hlt
          obtain ⟨nad, hna, nb, r0⟩ := HRn.out.int_at hlt
          obtain ⟨vad, hva, vb, v0⟩ := HV.out f f1 f2
          rw [hf] at r0
          have hnb : (nad.add k).block < w5.heap.size := by rw [Tr.add_block]; exact nb
          have hvb : (vad.add f).block < w.heap.size := by rw [Tr.add_block]; exact vb
          have d0 : decide ((k : Int) < (L.length : Int)) = true := decide_eq_true (by omega)
          have d0n : decide (k < L.length) = true := decide_eq_true hlt
          have d1 : decide ((f : Int) < 0) = false := decide_eq_false (by omega)
          have d2 : decide ((c.V.length : Int) ≤ (f : Int)) = false := decide_eq_false (by omega)
          have d2n : decide (c.V.length ≤ f) = false := decide_eq_false (by omega)
          have d3 : ((f : Int) == (fa : Int)) = false := beq_eq_false_iff_ne.2 (by omega)
          have j0 : (0 : Int) ≤ (k : Int) := Int.natCast_nonneg _
          have j1 : (k : Int) < (L.length : Int) := by omega
          have j2 : (0 : Int) ≤ (f : Int) := Int.natCast_nonneg _
          have j3 : (f : Int) < (c.V.length : Int) := by omega
          have HRk : Hid (∀ (h : 0 < k), ∃ (j f' : Nat), k = j + 1 ∧ j < L.length ∧ f' < f ∧ w5.cell? (nad.add j) = some (.int .i64 (f' : Int))) := fun h => by
            obtain ⟨j, rfl⟩ : ∃ j, k = j + 1 := ⟨k - 1, by omega⟩
            obtain ⟨f', hf', _⟩ := HL.out j (by omega)
            have hr := HR.out j hlt
            obtain ⟨nad', hna', _, r1⟩ := HRn.out.int_at (show j < L.length by omega)
            rw [hna] at hna'
            injection hna' with hna'
            rw [hf'] at r1 hr
            rw [hf] at hr
            exact ⟨j, f', rfl, by omega, by omega, by rw [hna']; exact r1⟩
          have ALR : Hid (∀ U', Q wr U' → U'.cell? ⟨V.heap.size, 1, none⟩ = some (.slice Av c.V.length k1) ∧ U'.cell? (nad.add k) = some (.int .i64 (f : Int)) ∧ U'.cell? (vad.add f) = some (.int .i64 (f : Int))) := fun U' q => by
            obtain ⟨s0, s1, s2, s3, s4, s5, s6, s7⟩ := ALL.out U' ((HQ6.out.trans HQr.out).trans q)
            exact ⟨s3, (((HQ56.out.trans HQr.out).trans q).cell hnb).trans r0, (((HQ0.out.trans (HQ6.out.trans HQr.out)).trans q).cell hvb).trans v0⟩
          have Hhlt : Hid (k < L.length) := Lib.hid hlt
          subst hva
          by_cases hk0 : 0 < k
          · obtain ⟨j, f', hkj, hj, hff, r1⟩ := HRk.out hk0
            have hnb1 : (nad.add j).block < w5.heap.size := by rw [Tr.add_block] at *; exact nb
            have d4 : decide ((0 : Int) < (k : Int)) = true := decide_eq_true (by omega)
            have d4n : decide (0 < k) = true := decide_eq_true hk0
            have d5 : decide ((f : Int) ≤ (f' : Int)) = false := decide_eq_false (by omega)
            have d5n : decide (f ≤ f') = false := decide_eq_false (by omega)
            have ew : IntKind.i64.wrap ((k : Int) - 1) = (j : Int) := by rw [IntWalk.i64_in _ (by have := HLl.out; omega)]; omega
            have j4 : (0 : Int) ≤ (j : Int) := Int.natCast_nonneg _
            have j5 : (j : Int) < (L.length : Int) := by omega
            have ALS : Hid (∀ U', Q wr U' → U'.cell? ⟨V.heap.size, 1, none⟩ = some (.slice (some vad) c.V.length k1) ∧ U'.cell? (nad.add k) = some (.int .i64 (f : Int)) ∧ U'.cell? (vad.add f) = some (.int .i64 (f : Int)) ∧ U'.cell? (nad.add j) = some (.int .i64 (f' : Int))) := fun U' q => by
              obtain ⟨z0, z1, z2⟩ := ALR.out U' q
              exact ⟨z0, z1, z2, (((HQ56.out.trans HQr.out).trans q).cell hnb1).trans r1⟩
            subst hna
            clear hf f2 v0 r0 nb vb hnb hvb hkj hff r1 hnb1 HRk HL HR HV hk0 s0 s1 s2 s3 s4 s5 s6 s7
            go_upto_region 14 with fail
            refine wp_region_held_drew (S := fun U' => U'.cell? ⟨V.heap.size, 1, none⟩ = some (.slice (some vad) c.V.length k1) ∧ U'.cell? (nad.add k) = some (.int .i64 (f : Int)) ∧ U'.cell? (vad.add f) = some (.int .i64 (f : Int)) ∧ U'.cell? (nad.add j) = some (.int .i64 (f' : Int))) (by kernel_rfl) ?_ (fun hHeld => ?_)
            · exact ALS.out _ (Q.refl wr).drew
            refine take_w (i := 0) (d := some 51) (v := ?_) rfl (by kernel_rfl) (by kernel_rfl) (by kernel_rfl) (fun _ _ _ h => h) rfl (by rfl) ?_ (by assumption) ?_
            rotate_left
            · (intro w hSw; (try dsimp only at hSw); go_simp; (try with_reducible rfl))
            try simp only [Act.put, List.setIfInBounds_toArray, List.set_cons_zero, List.set_cons_succ]
            refine take_w (i := 1) (d := some 52) (v := ?_) rfl (by kernel_rfl) (by kernel_rfl) (by kernel_rfl) (fun _ _ _ h => h) rfl (by rfl) ?_ (by assumption) ?_
            rotate_left
            · (intro w hSw; (try dsimp only at hSw); go_simp; (try with_reducible rfl))
            try simp only [Act.put, List.setIfInBounds_toArray, List.set_cons_zero, List.set_cons_succ]
            refine take_w (i := 2) (d := some 53) (v := ?_) rfl (by kernel_rfl) (by kernel_rfl) (by kernel_rfl) (fun _ _ _ h => h) rfl (by rfl) ?_ (by assumption) ?_
            rotate_left
            · (intro w hSw; (try dsimp only at hSw); go_simp; (try with_reducible rfl))
            try simp only [Act.put, List.setIfInBounds_toArray, List.set_cons_zero, List.set_cons_succ]
            refine take_w (i := 3) (d := some 54) (v := ?_) rfl (by kernel_rfl) (by kernel_rfl) (by kernel_rfl) (fun _ _ _ h => h) rfl (by rfl) ?_ (by assumption) ?_
            rotate_left
            · (intro w hSw; (try dsimp only at hSw); go_simp; (try with_reducible rfl))
            try simp only [Act.put, List.setIfInBounds_toArray, List.set_cons_zero, List.set_cons_succ]
            refine take_w (i := 4) (d := some 55) (v := ?_) rfl (by kernel_rfl) (by kernel_rfl) (by kernel_rfl) (fun _ _ _ h => h) rfl (by rfl) ?_ (by assumption) ?_
            rotate_left
            · (intro w hSw; (try dsimp only at hSw); go_simp; (try with_reducible rfl))
            try simp only [Act.put, List.setIfInBounds_toArray, List.set_cons_zero, List.set_cons_succ]
            refine take_w (i := 5) (d := some 56) (v := ?_) rfl (by kernel_rfl) (by kernel_rfl) (by kernel_rfl) (fun _ _ _ h => h) rfl (by rfl) ?_ (by assumption) ?_
            rotate_left
            · (intro w hSw; (try dsimp only at hSw); go_simp; (try with_reducible rfl))
            try simp only [Act.put, List.setIfInBounds_toArray, List.set_cons_zero, List.set_cons_succ]
            refine take_w (i := 6) (d := some 57) (v := ?_) rfl (by kernel_rfl) (by kernel_rfl) (by kernel_rfl) (fun _ _ _ h => h) rfl (by rfl) ?_ (by assumption) ?_
            rotate_left
            · (intro w hSw; (try dsimp only at hSw); go_simp; (try with_reducible rfl))
            try simp only [Act.put, List.setIfInBounds_toArray, List.set_cons_zero, List.set_cons_succ]
            refine take_w (i := 7) (d := some 58) (v := ?_) rfl (by kernel_rfl) (by kernel_rfl) (by kernel_rfl) (fun _ _ _ h => h) rfl (by rfl) ?_ (by assumption) ?_
            rotate_left
            · (intro w hSw; (try dsimp only at hSw); go_simp; (try with_reducible rfl))
            try simp only [Act.put, List.setIfInBounds_toArray, List.set_cons_zero, List.set_cons_succ]
            refine take_w (i := 8) (d := some 59) (v := ?_) rfl (by kernel_rfl) (by kernel_rfl) (by kernel_rfl) (fun _ _ _ h => h) rfl (by rfl) ?_ (by assumption) ?_
            rotate_left
            · (intro w hSw; (try dsimp only at hSw); go_simp; (try with_reducible rfl))
            try simp only [Act.put, List.setIfInBounds_toArray, List.set_cons_zero, List.set_cons_succ]
            refine take_w (i := 9) (d := some 60) (v := ?_) rfl (by kernel_rfl) (by kernel_rfl) (by kernel_rfl) (fun _ _ _ h => h) rfl (by rfl) ?_ (by assumption) ?_
            rotate_left
            · (intro w hSw; (try dsimp only at hSw); go_simp; (try with_reducible rfl))
            try simp only [Act.put, List.setIfInBounds_toArray, List.set_cons_zero, List.set_cons_succ]
            refine take_w (i := 10) (d := some 61) (v := ?_) rfl (by kernel_rfl) (by kernel_rfl) (by kernel_rfl) (fun _ _ _ h => h) rfl (by rfl) ?_ (by assumption) ?_
            rotate_left
            · (intro w hSw; (try dsimp only at hSw); go_simp; (try with_reducible rfl))
            try simp only [Act.put, List.setIfInBounds_toArray, List.set_cons_zero, List.set_cons_succ]
            refine take_w (i := 11) (d := some 62) (v := ?_) rfl (by kernel_rfl) (by kernel_rfl) (by kernel_rfl) (fun _ _ _ h => h) rfl (by rfl) ?_ (by assumption) ?_
            rotate_left
            · (intro w hSw; (try dsimp only at hSw); go_simp; (try with_reducible rfl))
            try simp only [Act.put, List.setIfInBounds_toArray, List.set_cons_zero, List.set_cons_succ]
            refine take_w (i := 12) (d := some 63) (v := ?_) rfl (by kernel_rfl) (by kernel_rfl) (by kernel_rfl) (fun _ _ _ h => h) rfl (by rfl) ?_ (by assumption) ?_
            rotate_left
            · (intro w hSw; (try dsimp only at hSw); go_simp; (try with_reducible rfl))
            try simp only [Act.put, List.setIfInBounds_toArray, List.set_cons_zero, List.set_cons_succ]
            refine take_w (i := 13) (d := some 64) (v := ?_) rfl (by kernel_rfl) (by kernel_rfl) (by kernel_rfl) (fun _ _ _ h => h) rfl (by rfl) ?_ (by assumption) ?_
            rotate_left
            · (intro w hSw; (try dsimp only at hSw); go_simp; (try with_reducible rfl))
            try simp only [Act.put, List.setIfInBounds_toArray, List.set_cons_zero, List.set_cons_succ]
            refine take_w (i := 14) (d := some 65) (v := ?_) rfl (by kernel_rfl) (by kernel_rfl) (by kernel_rfl) (fun _ _ _ h => h) rfl (by rfl) ?_ (by assumption) ?_
            rotate_left
            · (intro w hSw; (try dsimp only at hSw); go_simp; (try with_reducible rfl))
            try simp only [Act.put, List.setIfInBounds_toArray, List.set_cons_zero, List.set_cons_succ]
            refine take_w (i := 15) (d := some 66) (v := ?_) rfl (by kernel_rfl) (by kernel_rfl) (by kernel_rfl) (fun _ _ _ h => h) rfl (by rfl) ?_ (by assumption) ?_
            rotate_left
            · (intro w hSw; (try dsimp only at hSw); go_simp; (try with_reducible rfl))
            try simp only [Act.put, List.setIfInBounds_toArray, List.set_cons_zero, List.set_cons_succ]
            refine take_w (i := 16) (d := some 67) (v := ?_) rfl (by kernel_rfl) (by kernel_rfl) (by kernel_rfl) (fun _ _ _ h => h) rfl (by rfl) ?_ (by assumption) ?_
            rotate_left
            · (intro w hSw; (try dsimp only at hSw); go_simp; (try with_reducible rfl))
            try simp only [Act.put, List.setIfInBounds_toArray, List.set_cons_zero, List.set_cons_succ]
            refine take_w (i := 17) (d := some 68) (v := ?_) rfl (by kernel_rfl) (by kernel_rfl) (by kernel_rfl) (fun _ _ _ h => h) rfl (by rfl) ?_ (by assumption) ?_
            rotate_left
            · (intro w hSw; (try dsimp only at hSw); go_simp; (try with_reducible rfl))
            try simp only [Act.put, List.setIfInBounds_toArray, List.set_cons_zero, List.set_cons_succ]
            refine take_w (i := 18) (d := some 69) (v := ?_) rfl (by kernel_rfl) (by kernel_rfl) (by kernel_rfl) (fun _ _ _ h => h) rfl (by rfl) ?_ (by assumption) ?_
            rotate_left
            · (intro w hSw; (try dsimp only at hSw); go_simp; (try with_reducible rfl))
            try simp only [Act.put, List.setIfInBounds_toArray, List.set_cons_zero, List.set_cons_succ]
            refine take_w (i := 19) (d := some 70) (v := ?_) rfl (by kernel_rfl) (by kernel_rfl) (by kernel_rfl) (fun _ _ _ h => h) rfl (by rfl) ?_ (by assumption) ?_
            rotate_left
            · (intro w hSw; (try dsimp only at hSw); go_simp; (try with_reducible rfl))
            try simp only [Act.put, List.setIfInBounds_toArray, List.set_cons_zero, List.set_cons_succ]
            refine take_w (i := 20) (d := some 71) (v := ?_) rfl (by kernel_rfl) (by kernel_rfl) (by kernel_rfl) (fun _ _ _ h => h) rfl (by rfl) ?_ (by assumption) ?_
            rotate_left
            · (intro w hSw; (try dsimp only at hSw); go_simp; (try with_reducible rfl))
            try simp only [Act.put, List.setIfInBounds_toArray, List.set_cons_zero, List.set_cons_succ]
            refine take_w (i := 21) (d := some 72) (v := ?_) rfl (by kernel_rfl) (by kernel_rfl) (by kernel_rfl) (fun _ _ _ h => h) rfl (by rfl) ?_ (by assumption) ?_
            rotate_left
            · (intro w hSw; (try dsimp only at hSw); go_simp; (try with_reducible rfl))
            try simp only [Act.put, List.setIfInBounds_toArray, List.set_cons_zero, List.set_cons_succ]
            refine take_w (i := 22) (d := some 73) (v := ?_) rfl (by kernel_rfl) (by kernel_rfl) (by kernel_rfl) (fun _ _ _ h => h) rfl (by rfl) ?_ (by assumption) ?_
            rotate_left
            · (intro w hSw; (try dsimp only at hSw); go_simp; (try with_reducible rfl))
            try simp only [Act.put, List.setIfInBounds_toArray, List.set_cons_zero, List.set_cons_succ]
            refine take_w (i := 23) (d := some 74) (v := ?_) rfl (by kernel_rfl) (by kernel_rfl) (by kernel_rfl) (fun _ _ _ h => h) rfl (by rfl) ?_ (by assumption) ?_
            rotate_left
            · (intro w hSw; (try dsimp only at hSw); go_simp; (try with_reducible rfl))
            try simp only [Act.put, List.setIfInBounds_toArray, List.set_cons_zero, List.set_cons_succ]
            refine take_w (i := 24) (d := some 75) (v := ?_) rfl (by kernel_rfl) (by kernel_rfl) (by kernel_rfl) (fun _ _ _ h => h) rfl (by rfl) ?_ (by assumption) ?_
            rotate_left
            · (intro w hSw; (try dsimp only at hSw); go_simp; (try with_reducible rfl))
            try simp only [Act.put, List.setIfInBounds_toArray, List.set_cons_zero, List.set_cons_succ]
            refine take_w (i := 25) (d := some 76) (v := ?_) rfl (by kernel_rfl) (by kernel_rfl) (by kernel_rfl) (fun _ _ _ h => h) rfl (by rfl) ?_ (by assumption) ?_
            rotate_left
            · (intro w hSw; (try dsimp only at hSw); go_simp; (try with_reducible rfl))
            try simp only [Act.put, List.setIfInBounds_toArray, List.set_cons_zero, List.set_cons_succ]
            refine take_w (i := 26) (d := some 77) (v := ?_) rfl (by kernel_rfl) (by kernel_rfl) (by kernel_rfl) (fun _ _ _ h => h) rfl (by rfl) ?_ (by assumption) ?_
            rotate_left
            · (intro w hSw; (try dsimp only at hSw); go_simp; (try with_reducible rfl))
            try simp only [Act.put, List.setIfInBounds_toArray, List.set_cons_zero, List.set_cons_succ]
            refine take_w (i := 27) (d := some 78) (v := ?_) rfl (by kernel_rfl) (by kernel_rfl) (by kernel_rfl) (fun _ _ _ h => h) rfl (by rfl) ?_ (by assumption) ?_
            rotate_left
            · (intro w hSw; (try dsimp only at hSw); go_simp; (try with_reducible rfl))
            try simp only [Act.put, List.setIfInBounds_toArray, List.set_cons_zero, List.set_cons_succ]
            refine take_w (i := 28) (d := some 79) (v := ?_) rfl (by kernel_rfl) (by kernel_rfl) (by kernel_rfl) (fun _ _ _ h => h) rfl (by rfl) ?_ (by assumption) ?_
            rotate_left
            · (intro w hSw; (try dsimp only at hSw); go_simp; (try with_reducible rfl))
            try simp only [Act.put, List.setIfInBounds_toArray, List.set_cons_zero, List.set_cons_succ]
            refine take_w (i := 29) (d := some 80) (v := ?_) rfl (by kernel_rfl) (by kernel_rfl) (by kernel_rfl) (fun _ _ _ h => h) rfl (by rfl) ?_ (by assumption) ?_
            rotate_left
            · (intro w hSw; (try dsimp only at hSw); go_simp; (try with_reducible rfl))
            try simp only [Act.put, List.setIfInBounds_toArray, List.set_cons_zero, List.set_cons_succ]
            refine take_w (i := 30) (d := some 81) (v := ?_) rfl (by kernel_rfl) (by kernel_rfl) (by kernel_rfl) (fun _ _ _ h => h) rfl (by rfl) ?_ (by assumption) ?_
            rotate_left
            · (intro w hSw; (try dsimp only at hSw); go_simp; (try with_reducible rfl))
            try simp only [Act.put, List.setIfInBounds_toArray, List.set_cons_zero, List.set_cons_succ]
            refine take_w (i := 31) (d := some 82) (v := ?_) rfl (by kernel_rfl) (by kernel_rfl) (by kernel_rfl) (fun _ _ _ h => h) rfl (by rfl) ?_ (by assumption) ?_
            rotate_left
            · (intro w hSw; (try dsimp only at hSw); go_simp; (try with_reducible rfl))
            try simp only [Act.put, List.setIfInBounds_toArray, List.set_cons_zero, List.set_cons_succ]
            refine take_w (i := 32) (d := some 83) (v := ?_) rfl (by kernel_rfl) (by kernel_rfl) (by kernel_rfl) (fun _ _ _ h => h) rfl (by rfl) ?_ (by assumption) ?_
            rotate_left
            · (intro w hSw; (try dsimp only at hSw); go_simp; (try with_reducible rfl))
            try simp only [Act.put, List.setIfInBounds_toArray, List.set_cons_zero, List.set_cons_succ]
            refine take_w (i := 33) (d := some 84) (v := ?_) rfl (by kernel_rfl) (by kernel_rfl) (by kernel_rfl) (fun _ _ _ h => h) rfl (by rfl) ?_ (by assumption) ?_
            rotate_left
            · (intro w hSw; (try dsimp only at hSw); go_simp; (try with_reducible rfl))
            try simp only [Act.put, List.setIfInBounds_toArray, List.set_cons_zero, List.set_cons_succ]
            refine take_w (i := 34) (d := some 85) (v := ?_) rfl (by kernel_rfl) (by kernel_rfl) (by kernel_rfl) (fun _ _ _ h => h) rfl (by rfl) ?_ (by assumption) ?_
            rotate_left
            · (intro w hSw; (try dsimp only at hSw); go_simp; (try with_reducible rfl))
            try simp only [Act.put, List.setIfInBounds_toArray, List.set_cons_zero, List.set_cons_succ]
            refine take_w (i := 35) (d := some 86) (v := ?_) rfl (by kernel_rfl) (by kernel_rfl) (by kernel_rfl) (fun _ _ _ h => h) rfl (by rfl) ?_ (by assumption) ?_
            rotate_left
            · (intro w hSw; (try dsimp only at hSw); go_simp; (try with_reducible rfl))
            try simp only [Act.put, List.setIfInBounds_toArray, List.set_cons_zero, List.set_cons_succ]
            refine take_w (i := 36) (d := some 87) (v := ?_) rfl (by kernel_rfl) (by kernel_rfl) (by kernel_rfl) (fun _ _ _ h => h) rfl (by rfl) ?_ (by assumption) ?_
            rotate_left
            · (intro w hSw; (try dsimp only at hSw); go_simp; (try with_reducible rfl))
            try simp only [Act.put, List.setIfInBounds_toArray, List.set_cons_zero, List.set_cons_succ]
            refine take_w (i := 37) (d := some 88) (v := ?_) rfl (by kernel_rfl) (by kernel_rfl) (by kernel_rfl) (fun _ _ _ h => h) rfl (by rfl) ?_ (by assumption) ?_
            rotate_left
            · (intro w hSw; (try dsimp only at hSw); go_simp; (try with_reducible rfl))
            try simp only [Act.put, List.setIfInBounds_toArray, List.set_cons_zero, List.set_cons_succ]
            refine take_w (i := 38) (d := some 89) (v := ?_) rfl (by kernel_rfl) (by kernel_rfl) (by kernel_rfl) (fun _ _ _ h => h) rfl (by rfl) ?_ (by assumption) ?_
            rotate_left
            · (intro w hSw; (try dsimp only at hSw); go_simp; (try with_reducible rfl))
            try simp only [Act.put, List.setIfInBounds_toArray, List.set_cons_zero, List.set_cons_succ]
            refine take_w (i := 39) (d := some 90) (v := ?_) rfl (by kernel_rfl) (by kernel_rfl) (by kernel_rfl) (fun _ _ _ h => h) rfl (by rfl) ?_ (by assumption) ?_
            rotate_left
            · (intro w hSw; (try dsimp only at hSw); go_simp; (try with_reducible rfl))
            try simp only [Act.put, List.setIfInBounds_toArray, List.set_cons_zero, List.set_cons_succ]
            refine take_w (i := 40) (d := some 91) (v := ?_) rfl (by kernel_rfl) (by kernel_rfl) (by kernel_rfl) (fun _ _ _ h => h) rfl (by rfl) ?_ (by assumption) ?_
            rotate_left
            · (intro w hSw; (try dsimp only at hSw); go_simp; (try with_reducible rfl))
            try simp only [Act.put, List.setIfInBounds_toArray, List.set_cons_zero, List.set_cons_succ]
            refine take_w (i := 41) (d := some 92) (v := ?_) rfl (by kernel_rfl) (by kernel_rfl) (by kernel_rfl) (fun _ _ _ h => h) rfl (by rfl) ?_ (by assumption) ?_
            rotate_left
            · (intro w hSw; (try dsimp only at hSw); go_simp; (try with_reducible rfl))
            try simp only [Act.put, List.setIfInBounds_toArray, List.set_cons_zero, List.set_cons_succ]
            refine take_w (i := 42) (d := some 93) (v := ?_) rfl (by kernel_rfl) (by kernel_rfl) (by kernel_rfl) (fun _ _ _ h => h) rfl (by rfl) ?_ (by assumption) ?_
            rotate_left
            · (intro w hSw; (try dsimp only at hSw); go_simp; (try with_reducible rfl))
            try simp only [Act.put, List.setIfInBounds_toArray, List.set_cons_zero, List.set_cons_succ]
            refine take_w (i := 43) (d := some 94) (v := ?_) rfl (by kernel_rfl) (by kernel_rfl) (by kernel_rfl) (fun _ _ _ h => h) rfl (by rfl) ?_ (by assumption) ?_
            rotate_left
            · (intro w hSw; (try dsimp only at hSw); go_simp; (try with_reducible rfl))
            try simp only [Act.put, List.setIfInBounds_toArray, List.set_cons_zero, List.set_cons_succ]
            refine take_w (i := 44) (d := some 95) (v := ?_) rfl (by kernel_rfl) (by kernel_rfl) (by kernel_rfl) (fun _ _ _ h => h) rfl (by rfl) ?_ (by assumption) ?_
            rotate_left
            · (intro w hSw; (try dsimp only at hSw); go_simp; (try with_reducible rfl))
            try simp only [Act.put, List.setIfInBounds_toArray, List.set_cons_zero, List.set_cons_succ]
            refine take_w (i := 45) (d := some 96) (v := ?_) rfl (by kernel_rfl) (by kernel_rfl) (by kernel_rfl) (fun _ _ _ h => h) rfl (by rfl) ?_ (by assumption) ?_
            rotate_left
            · (intro w hSw; (try dsimp only at hSw); go_simp; (try with_reducible rfl))
            try simp only [Act.put, List.setIfInBounds_toArray, List.set_cons_zero, List.set_cons_succ]
            refine take_w (i := 46) (d := some 97) (v := ?_) rfl (by kernel_rfl) (by kernel_rfl) (by kernel_rfl) (fun _ _ _ h => h) rfl (by rfl) ?_ (by assumption) ?_
            rotate_left
            · (intro w hSw; (try dsimp only at hSw); go_simp; (try with_reducible rfl))
            try simp only [Act.put, List.setIfInBounds_toArray, List.set_cons_zero, List.set_cons_succ]
            refine take_w (i := 47) (d := some 98) (v := ?_) rfl (by kernel_rfl) (by kernel_rfl) (by kernel_rfl) (fun _ _ _ h => h) rfl (by rfl) ?_ (by assumption) ?_
            rotate_left
            · (intro w hSw; (try dsimp only at hSw); go_simp; (try with_reducible rfl))
            try simp only [Act.put, List.setIfInBounds_toArray, List.set_cons_zero, List.set_cons_succ]
            refine take_w (i := 48) (d := some 99) (v := ?_) rfl (by kernel_rfl) (by kernel_rfl) (by kernel_rfl) (fun _ _ _ h => h) rfl (by rfl) ?_ (by assumption) ?_
            rotate_left
            · (intro w hSw; (try dsimp only at hSw); go_simp; (try with_reducible rfl))
            try simp only [Act.put, List.setIfInBounds_toArray, List.set_cons_zero, List.set_cons_succ]
            refine take_w (i := 49) (d := some 100) (v := ?_) rfl (by kernel_rfl) (by kernel_rfl) (by kernel_rfl) (fun _ _ _ h => h) rfl (by rfl) ?_ (by assumption) ?_
            rotate_left
            · (intro w hSw; (try dsimp only at hSw); go_simp; (try with_reducible rfl))
            try simp only [Act.put, List.setIfInBounds_toArray, List.set_cons_zero, List.set_cons_succ]
            refine take_w (i := 50) (d := some 101) (v := ?_) rfl (by kernel_rfl) (by kernel_rfl) (by kernel_rfl) (fun _ _ _ h => h) rfl (by rfl) ?_ (by assumption) ?_
            rotate_left
            · (intro w hSw; (try dsimp only at hSw); go_simp; (try with_reducible rfl))
            try simp only [Act.put, List.setIfInBounds_toArray, List.set_cons_zero, List.set_cons_succ]
            refine take_w (i := 51) (d := some 102) (v := ?_) rfl (by kernel_rfl) (by kernel_rfl) (by kernel_rfl) (fun _ _ _ h => h) rfl (by rfl) ?_ (by assumption) ?_
            rotate_left
            · (intro w hSw; (try dsimp only at hSw); go_simp; (try with_reducible rfl))
            try simp only [Act.put, List.setIfInBounds_toArray, List.set_cons_zero, List.set_cons_succ]
            refine take_w (i := 52) (d := some 103) (v := ?_) rfl (by kernel_rfl) (by kernel_rfl) (by kernel_rfl) (fun _ _ _ h => h) rfl (by rfl) ?_ (by assumption) ?_
            rotate_left
            · (intro w hSw; (try dsimp only at hSw); go_simp; (try with_reducible rfl))
            try simp only [Act.put, List.setIfInBounds_toArray, List.set_cons_zero, List.set_cons_succ]
            refine take_w (i := 53) (d := some 104) (v := ?_) rfl (by kernel_rfl) (by kernel_rfl) (by kernel_rfl) (fun _ _ _ h => h) rfl (by rfl) ?_ (by assumption) ?_
            rotate_left
            · (intro w hSw; (try dsimp only at hSw); go_simp; (try with_reducible rfl))
            try simp only [Act.put, List.setIfInBounds_toArray, List.set_cons_zero, List.set_cons_succ]
            refine take_w (i := 54) (d := some 105) (v := ?_) rfl (by kernel_rfl) (by kernel_rfl) (by kernel_rfl) (fun _ _ _ h => h) rfl (by rfl) ?_ (by assumption) ?_
            rotate_left
            · (intro w hSw; (try dsimp only at hSw); go_simp; (try with_reducible rfl))
            try simp only [Act.put, List.setIfInBounds_toArray, List.set_cons_zero, List.set_cons_succ]
            refine take_w (i := 55) (d := some 106) (v := ?_) rfl (by kernel_rfl) (by kernel_rfl) (by kernel_rfl) (fun _ _ _ h => h) rfl (by rfl) ?_ (by assumption) ?_
            rotate_left
            · (intro w hSw; (try dsimp only at hSw); go_simp; (try with_reducible rfl))
            try simp only [Act.put, List.setIfInBounds_toArray, List.set_cons_zero, List.set_cons_succ]
            refine wpAnyH_done (by kernel_rfl) ?_ _
            have hl40 : L.length ≤ 40 := HLl.out
            have hl41 : k < L.length := Hhlt.out
            go_wp2_with fail
            go_roundw
            case rel => exact ⟨k + 1, by have := Hhlt.out; omega, by have := Hhlt.out; have := HLl.out; go_num, Lib.hid HQr.out.drew⟩
            case measure => have := Hhlt.out; have := HLl.out; simp [intOf]; omega
          · have d4 : decide ((0 : Int) < (k : Int)) = false := decide_eq_false (by omega)
            have d4n : decide (0 < k) = false := decide_eq_false hk0
            subst hna
            clear hf f2 v0 r0 nb vb hnb hvb HRk HL HR HV hk0 s0 s1 s2 s3 s4 s5 s6 s7
            go_upto_region 14 with fail
            refine wp_region_held_drew (S := fun U' => U'.cell? ⟨V.heap.size, 1, none⟩ = some (.slice (some vad) c.V.length k1) ∧ U'.cell? (nad.add k) = some (.int .i64 (f : Int)) ∧ U'.cell? (vad.add f) = some (.int .i64 (f : Int))) (by kernel_rfl) ?_ (fun hHeld => ?_)
            · exact ALR.out _ (Q.refl wr).drew
            refine take_w (i := 0) (d := some 51) (v := ?_) rfl (by kernel_rfl) (by kernel_rfl) (by kernel_rfl) (fun _ _ _ h => h) rfl (by rfl) ?_ (by assumption) ?_
            rotate_left
            · (intro w hSw; (try dsimp only at hSw); go_simp; (try with_reducible rfl))
            try simp only [Act.put, List.setIfInBounds_toArray, List.set_cons_zero, List.set_cons_succ]
            refine take_w (i := 1) (d := some 52) (v := ?_) rfl (by kernel_rfl) (by kernel_rfl) (by kernel_rfl) (fun _ _ _ h => h) rfl (by rfl) ?_ (by assumption) ?_
            rotate_left
            · (intro w hSw; (try dsimp only at hSw); go_simp; (try with_reducible rfl))
            try simp only [Act.put, List.setIfInBounds_toArray, List.set_cons_zero, List.set_cons_succ]
            refine take_w (i := 2) (d := some 53) (v := ?_) rfl (by kernel_rfl) (by kernel_rfl) (by kernel_rfl) (fun _ _ _ h => h) rfl (by rfl) ?_ (by assumption) ?_
            rotate_left
            · (intro w hSw; (try dsimp only at hSw); go_simp; (try with_reducible rfl))
            try simp only [Act.put, List.setIfInBounds_toArray, List.set_cons_zero, List.set_cons_succ]
            refine take_w (i := 3) (d := some 54) (v := ?_) rfl (by kernel_rfl) (by kernel_rfl) (by kernel_rfl) (fun _ _ _ h => h) rfl (by rfl) ?_ (by assumption) ?_
            rotate_left
            · (intro w hSw; (try dsimp only at hSw); go_simp; (try with_reducible rfl))
            try simp only [Act.put, List.setIfInBounds_toArray, List.set_cons_zero, List.set_cons_succ]
            refine take_w (i := 4) (d := some 55) (v := ?_) rfl (by kernel_rfl) (by kernel_rfl) (by kernel_rfl) (fun _ _ _ h => h) rfl (by rfl) ?_ (by assumption) ?_
            rotate_left
            · (intro w hSw; (try dsimp only at hSw); go_simp; (try with_reducible rfl))
            try simp only [Act.put, List.setIfInBounds_toArray, List.set_cons_zero, List.set_cons_succ]
            refine take_w (i := 5) (d := some 56) (v := ?_) rfl (by kernel_rfl) (by kernel_rfl) (by kernel_rfl) (fun _ _ _ h => h) rfl (by rfl) ?_ (by assumption) ?_
            rotate_left
            · (intro w hSw; (try dsimp only at hSw); go_simp; (try with_reducible rfl))
            try simp only [Act.put, List.setIfInBounds_toArray, List.set_cons_zero, List.set_cons_succ]
            refine take_w (i := 6) (d := some 57) (v := ?_) rfl (by kernel_rfl) (by kernel_rfl) (by kernel_rfl) (fun _ _ _ h => h) rfl (by rfl) ?_ (by assumption) ?_
            rotate_left
            · (intro w hSw; (try dsimp only at hSw); go_simp; (try with_reducible rfl))
            try simp only [Act.put, List.setIfInBounds_toArray, List.set_cons_zero, List.set_cons_succ]
            refine take_w (i := 7) (d := some 58) (v := ?_) rfl (by kernel_rfl) (by kernel_rfl) (by kernel_rfl) (fun _ _ _ h => h) rfl (by rfl) ?_ (by assumption) ?_
            rotate_left
            · (intro w hSw; (try dsimp only at hSw); go_simp; (try with_reducible rfl))
            try simp only [Act.put, List.setIfInBounds_toArray, List.set_cons_zero, List.set_cons_succ]
            refine take_w (i := 8) (d := some 59) (v := ?_) rfl (by kernel_rfl) (by kernel_rfl) (by kernel_rfl) (fun _ _ _ h => h) rfl (by rfl) ?_ (by assumption) ?_
            rotate_left
            · (intro w hSw; (try dsimp only at hSw); go_simp; (try with_reducible rfl))
            try simp only [Act.put, List.setIfInBounds_toArray, List.set_cons_zero, List.set_cons_succ]
            refine take_w (i := 9) (d := some 60) (v := ?_) rfl (by kernel_rfl) (by kernel_rfl) (by kernel_rfl) (fun _ _ _ h => h) rfl (by rfl) ?_ (by assumption) ?_
            rotate_left
            · (intro w hSw; (try dsimp only at hSw); go_simp; (try with_reducible rfl))
            try simp only [Act.put, List.setIfInBounds_toArray, List.set_cons_zero, List.set_cons_succ]
            refine take_w (i := 10) (d := some 61) (v := ?_) rfl (by kernel_rfl) (by kernel_rfl) (by kernel_rfl) (fun _ _ _ h => h) rfl (by rfl) ?_ (by assumption) ?_
            rotate_left
            · (intro w hSw; (try dsimp only at hSw); go_simp; (try with_reducible rfl))
            try simp only [Act.put, List.setIfInBounds_toArray, List.set_cons_zero, List.set_cons_succ]
            refine take_w (i := 11) (d := some 62) (v := ?_) rfl (by kernel_rfl) (by kernel_rfl) (by kernel_rfl) (fun _ _ _ h => h) rfl (by rfl) ?_ (by assumption) ?_
            rotate_left
            · (intro w hSw; (try dsimp only at hSw); go_simp; (try with_reducible rfl))
            try simp only [Act.put, List.setIfInBounds_toArray, List.set_cons_zero, List.set_cons_succ]
            refine take_w (i := 12) (d := some 63) (v := ?_) rfl (by kernel_rfl) (by kernel_rfl) (by kernel_rfl) (fun _ _ _ h => h) rfl (by rfl) ?_ (by assumption) ?_
            rotate_left
            · (intro w hSw; (try dsimp only at hSw); go_simp; (try with_reducible rfl))
            try simp only [Act.put, List.setIfInBounds_toArray, List.set_cons_zero, List.set_cons_succ]
            refine take_w (i := 13) (d := some 64) (v := ?_) rfl (by kernel_rfl) (by kernel_rfl) (by kernel_rfl) (fun _ _ _ h => h) rfl (by rfl) ?_ (by assumption) ?_
            rotate_left
            · (intro w hSw; (try dsimp only at hSw); go_simp; (try with_reducible rfl))
            try simp only [Act.put, List.setIfInBounds_toArray, List.set_cons_zero, List.set_cons_succ]
            refine take_w (i := 14) (d := some 65) (v := ?_) rfl (by kernel_rfl) (by kernel_rfl) (by kernel_rfl) (fun _ _ _ h => h) rfl (by rfl) ?_ (by assumption) ?_
            rotate_left
            · (intro w hSw; (try dsimp only at hSw); go_simp; (try with_reducible rfl))
            try simp only [Act.put, List.setIfInBounds_toArray, List.set_cons_zero, List.set_cons_succ]
            refine take_w (i := 15) (d := some 66) (v := ?_) rfl (by kernel_rfl) (by kernel_rfl) (by kernel_rfl) (fun _ _ _ h => h) rfl (by rfl) ?_ (by assumption) ?_
            rotate_left
            · (intro w hSw; (try dsimp only at hSw); go_simp; (try with_reducible rfl))
            try simp only [Act.put, List.setIfInBounds_toArray, List.set_cons_zero, List.set_cons_succ]
            refine take_w (i := 16) (d := some 67) (v := ?_) rfl (by kernel_rfl) (by kernel_rfl) (by kernel_rfl) (fun _ _ _ h => h) rfl (by rfl) ?_ (by assumption) ?_
            rotate_left
            · (intro w hSw; (try dsimp only at hSw); go_simp; (try with_reducible rfl))
            try simp only [Act.put, List.setIfInBounds_toArray, List.set_cons_zero, List.set_cons_succ]
            refine take_w (i := 17) (d := some 68) (v := ?_) rfl (by kernel_rfl) (by kernel_rfl) (by kernel_rfl) (fun _ _ _ h => h) rfl (by rfl) ?_ (by assumption) ?_
            rotate_left
            · (intro w hSw; (try dsimp only at hSw); go_simp; (try with_reducible rfl))
            try simp only [Act.put, List.setIfInBounds_toArray, List.set_cons_zero, List.set_cons_succ]
            refine take_w (i := 18) (d := some 69) (v := ?_) rfl (by kernel_rfl) (by kernel_rfl) (by kernel_rfl) (fun _ _ _ h => h) rfl (by rfl) ?_ (by assumption) ?_
            rotate_left
            · (intro w hSw; (try dsimp only at hSw); go_simp; (try with_reducible rfl))
            try simp only [Act.put, List.setIfInBounds_toArray, List.set_cons_zero, List.set_cons_succ]
            refine take_w (i := 19) (d := some 70) (v := ?_) rfl (by kernel_rfl) (by kernel_rfl) (by kernel_rfl) (fun _ _ _ h => h) rfl (by rfl) ?_ (by assumption) ?_
            rotate_left
            · (intro w hSw; (try dsimp only at hSw); go_simp; (try with_reducible rfl))
            try simp only [Act.put, List.setIfInBounds_toArray, List.set_cons_zero, List.set_cons_succ]
            refine take_w (i := 20) (d := some 71) (v := ?_) rfl (by kernel_rfl) (by kernel_rfl) (by kernel_rfl) (fun _ _ _ h => h) rfl (by rfl) ?_ (by assumption) ?_
            rotate_left
            · (intro w hSw; (try dsimp only at hSw); go_simp; (try with_reducible rfl))
            try simp only [Act.put, List.setIfInBounds_toArray, List.set_cons_zero, List.set_cons_succ]
            refine take_w (i := 21) (d := some 72) (v := ?_) rfl (by kernel_rfl) (by kernel_rfl) (by kernel_rfl) (fun _ _ _ h => h) rfl (by rfl) ?_ (by assumption) ?_
            rotate_left
            · (intro w hSw; (try dsimp only at hSw); go_simp; (try with_reducible rfl))
            try simp only [Act.put, List.setIfInBounds_toArray, List.set_cons_zero, List.set_cons_succ]
            refine take_w (i := 22) (d := some 73) (v := ?_) rfl (by kernel_rfl) (by kernel_rfl) (by kernel_rfl) (fun _ _ _ h => h) rfl (by rfl) ?_ (by assumption) ?_
            rotate_left
            · (intro w hSw; (try dsimp only at hSw); go_simp; (try with_reducible rfl))
            try simp only [Act.put, List.setIfInBounds_toArray, List.set_cons_zero, List.set_cons_succ]
            refine take_w (i := 23) (d := some 74) (v := ?_) rfl (by kernel_rfl) (by kernel_rfl) (by kernel_rfl) (fun _ _ _ h => h) rfl (by rfl) ?_ (by assumption) ?_
            rotate_left
            · (intro w hSw; (try dsimp only at hSw); go_simp; (try with_reducible rfl))
            try simp only [Act.put, List.setIfInBounds_toArray, List.set_cons_zero, List.set_cons_succ]
            refine take_w (i := 24) (d := some 75) (v := ?_) rfl (by kernel_rfl) (by kernel_rfl) (by kernel_rfl) (fun _ _ _ h => h) rfl (by rfl) ?_ (by assumption) ?_
            rotate_left
            · (intro w hSw; (try dsimp only at hSw); go_simp; (try with_reducible rfl))
            try simp only [Act.put, List.setIfInBounds_toArray, List.set_cons_zero, List.set_cons_succ]
            refine take_w (i := 25) (d := some 76) (v := ?_) rfl (by kernel_rfl) (by kernel_rfl) (by kernel_rfl) (fun _ _ _ h => h) rfl (by rfl) ?_ (by assumption) ?_
            rotate_left
            · (intro w hSw; (try dsimp only at hSw); go_simp; (try with_reducible rfl))
            try simp only [Act.put, List.setIfInBounds_toArray, List.set_cons_zero, List.set_cons_succ]
            refine take_w (i := 26) (d := some 77) (v := ?_) rfl (by kernel_rfl) (by kernel_rfl) (by kernel_rfl) (fun _ _ _ h => h) rfl (by rfl) ?_ (by assumption) ?_
            rotate_left
            · (intro w hSw; (try dsimp only at hSw); go_simp; (try with_reducible rfl))
            try simp only [Act.put, List.setIfInBounds_toArray, List.set_cons_zero, List.set_cons_succ]
            refine take_w (i := 27) (d := some 78) (v := ?_) rfl (by kernel_rfl) (by kernel_rfl) (by kernel_rfl) (fun _ _ _ h => h) rfl (by rfl) ?_ (by assumption) ?_
            rotate_left
            · (intro w hSw; (try dsimp only at hSw); go_simp; (try with_reducible rfl))
            try simp only [Act.put, List.setIfInBounds_toArray, List.set_cons_zero, List.set_cons_succ]
            refine take_w (i := 28) (d := some 79) (v := ?_) rfl (by kernel_rfl) (by kernel_rfl) (by kernel_rfl) (fun _ _ _ h => h) rfl (by rfl) ?_ (by assumption) ?_
            rotate_left
            · (intro w hSw; (try dsimp only at hSw); go_simp; (try with_reducible rfl))
            try simp only [Act.put, List.setIfInBounds_toArray, List.set_cons_zero, List.set_cons_succ]
            refine take_w (i := 29) (d := some 80) (v := ?_) rfl (by kernel_rfl) (by kernel_rfl) (by kernel_rfl) (fun _ _ _ h => h) rfl (by rfl) ?_ (by assumption) ?_
            rotate_left
            · (intro w hSw; (try dsimp only at hSw); go_simp; (try with_reducible rfl))
            try simp only [Act.put, List.setIfInBounds_toArray, List.set_cons_zero, List.set_cons_succ]
            refine take_w (i := 30) (d := some 81) (v := ?_) rfl (by kernel_rfl) (by kernel_rfl) (by kernel_rfl) (fun _ _ _ h => h) rfl (by rfl) ?_ (by assumption) ?_
            rotate_left
            · (intro w hSw; (try dsimp only at hSw); go_simp; (try with_reducible rfl))
            try simp only [Act.put, List.setIfInBounds_toArray, List.set_cons_zero, List.set_cons_succ]
            refine take_w (i := 31) (d := some 82) (v := ?_) rfl (by kernel_rfl) (by kernel_rfl) (by kernel_rfl) (fun _ _ _ h => h) rfl (by rfl) ?_ (by assumption) ?_
            rotate_left
            · (intro w hSw; (try dsimp only at hSw); go_simp; (try with_reducible rfl))
            try simp only [Act.put, List.setIfInBounds_toArray, List.set_cons_zero, List.set_cons_succ]
            refine take_w (i := 32) (d := some 83) (v := ?_) rfl (by kernel_rfl) (by kernel_rfl) (by kernel_rfl) (fun _ _ _ h => h) rfl (by rfl) ?_ (by assumption) ?_
            rotate_left
            · (intro w hSw; (try dsimp only at hSw); go_simp; (try with_reducible rfl))
            try simp only [Act.put, List.setIfInBounds_toArray, List.set_cons_zero, List.set_cons_succ]
            refine take_w (i := 33) (d := some 84) (v := ?_) rfl (by kernel_rfl) (by kernel_rfl) (by kernel_rfl) (fun _ _ _ h => h) rfl (by rfl) ?_ (by assumption) ?_
            rotate_left
            · (intro w hSw; (try dsimp only at hSw); go_simp; (try with_reducible rfl))
            try simp only [Act.put, List.setIfInBounds_toArray, List.set_cons_zero, List.set_cons_succ]
            refine take_w (i := 34) (d := some 85) (v := ?_) rfl (by kernel_rfl) (by kernel_rfl) (by kernel_rfl) (fun _ _ _ h => h) rfl (by rfl) ?_ (by assumption) ?_
            rotate_left
            · (intro w hSw; (try dsimp only at hSw); go_simp; (try with_reducible rfl))
            try simp only [Act.put, List.setIfInBounds_toArray, List.set_cons_zero, List.set_cons_succ]
            refine take_w (i := 35) (d := some 86) (v := ?_) rfl (by kernel_rfl) (by kernel_rfl) (by kernel_rfl) (fun _ _ _ h => h) rfl (by rfl) ?_ (by assumption) ?_
            rotate_left
            · (intro w hSw; (try dsimp only at hSw); go_simp; (try with_reducible rfl))
            try simp only [Act.put, List.setIfInBounds_toArray, List.set_cons_zero, List.set_cons_succ]
            refine take_w (i := 36) (d := some 87) (v := ?_) rfl (by kernel_rfl) (by kernel_rfl) (by kernel_rfl) (fun _ _ _ h => h) rfl (by rfl) ?_ (by assumption) ?_
            rotate_left
            · (intro w hSw; (try dsimp only at hSw); go_simp; (try with_reducible rfl))
            try simp only [Act.put, List.setIfInBounds_toArray, List.set_cons_zero, List.set_cons_succ]
            refine take_w (i := 37) (d := some 88) (v := ?_) rfl (by kernel_rfl) (by kernel_rfl) (by kernel_rfl) (fun _ _ _ h => h) rfl (by rfl) ?_ (by assumption) ?_
            rotate_left
            · (intro w hSw; (try dsimp only at hSw); go_simp; (try with_reducible rfl))
            try simp only [Act.put, List.setIfInBounds_toArray, List.set_cons_zero, List.set_cons_succ]
            refine take_w (i := 38) (d := some 89) (v := ?_) rfl (by kernel_rfl) (by kernel_rfl) (by kernel_rfl) (fun _ _ _ h => h) rfl (by rfl) ?_ (by assumption) ?_
            rotate_left
            · (intro w hSw; (try dsimp only at hSw); go_simp; (try with_reducible rfl))
            try simp only [Act.put, List.setIfInBounds_toArray, List.set_cons_zero, List.set_cons_succ]
            refine take_w (i := 39) (d := some 90) (v := ?_) rfl (by kernel_rfl) (by kernel_rfl) (by kernel_rfl) (fun _ _ _ h => h) rfl (by rfl) ?_ (by assumption) ?_
            rotate_left
            · (intro w hSw; (try dsimp only at hSw); go_simp; (try with_reducible rfl))
            try simp only [Act.put, List.setIfInBounds_toArray, List.set_cons_zero, List.set_cons_succ]
            refine take_w (i := 40) (d := some 91) (v := ?_) rfl (by kernel_rfl) (by kernel_rfl) (by kernel_rfl) (fun _ _ _ h => h) rfl (by rfl) ?_ (by assumption) ?_
            rotate_left
            · (intro w hSw; (try dsimp only at hSw); go_simp; (try with_reducible rfl))
            try simp only [Act.put, List.setIfInBounds_toArray, List.set_cons_zero, List.set_cons_succ]
            refine take_w (i := 41) (d := some 92) (v := ?_) rfl (by kernel_rfl) (by kernel_rfl) (by kernel_rfl) (fun _ _ _ h => h) rfl (by rfl) ?_ (by assumption) ?_
            rotate_left
            · (intro w hSw; (try dsimp only at hSw); go_simp; (try with_reducible rfl))
            try simp only [Act.put, List.setIfInBounds_toArray, List.set_cons_zero, List.set_cons_succ]
            refine take_w (i := 42) (d := some 93) (v := ?_) rfl (by kernel_rfl) (by kernel_rfl) (by kernel_rfl) (fun _ _ _ h => h) rfl (by rfl) ?_ (by assumption) ?_
            rotate_left
            · (intro w hSw; (try dsimp only at hSw); go_simp; (try with_reducible rfl))
            try simp only [Act.put, List.setIfInBounds_toArray, List.set_cons_zero, List.set_cons_succ]
            refine take_w (i := 43) (d := some 94) (v := ?_) rfl (by kernel_rfl) (by kernel_rfl) (by kernel_rfl) (fun _ _ _ h => h) rfl (by rfl) ?_ (by assumption) ?_
            rotate_left
            · (intro w hSw; (try dsimp only at hSw); go_simp; (try with_reducible rfl))
            try simp only [Act.put, List.setIfInBounds_toArray, List.set_cons_zero, List.set_cons_succ]
            refine take_u (i := 44) (d := some 95) rfl (by kernel_rfl) (by kernel_rfl) (by kernel_rfl) (fun _ _ _ h => h) rfl (by rfl) (by assumption) ?_
            try simp only [Act.put, List.setIfInBounds_toArray, List.set_cons_zero, List.set_cons_succ]
            refine take_u (i := 45) (d := some 96) rfl (by kernel_rfl) (by kernel_rfl) (by kernel_rfl) (fun _ _ _ h => h) rfl (by rfl) (by assumption) ?_
            try simp only [Act.put, List.setIfInBounds_toArray, List.set_cons_zero, List.set_cons_succ]
            refine take_u (i := 46) (d := some 97) rfl (by kernel_rfl) (by kernel_rfl) (by kernel_rfl) (fun _ _ _ h => h) rfl (by rfl) (by assumption) ?_
            try simp only [Act.put, List.setIfInBounds_toArray, List.set_cons_zero, List.set_cons_succ]
            refine take_u (i := 47) (d := some 98) rfl (by kernel_rfl) (by kernel_rfl) (by kernel_rfl) (fun _ _ _ h => h) rfl (by rfl) (by assumption) ?_
            try simp only [Act.put, List.setIfInBounds_toArray, List.set_cons_zero, List.set_cons_succ]
            refine take_u (i := 48) (d := some 99) rfl (by kernel_rfl) (by kernel_rfl) (by kernel_rfl) (fun _ _ _ h => h) rfl (by rfl) (by assumption) ?_
            try simp only [Act.put, List.setIfInBounds_toArray, List.set_cons_zero, List.set_cons_succ]
            refine take_u (i := 49) (d := some 100) rfl (by kernel_rfl) (by kernel_rfl) (by kernel_rfl) (fun _ _ _ h => h) rfl (by rfl) (by assumption) ?_
            try simp only [Act.put, List.setIfInBounds_toArray, List.set_cons_zero, List.set_cons_succ]
            refine take_u (i := 50) (d := some 101) rfl (by kernel_rfl) (by kernel_rfl) (by kernel_rfl) (fun _ _ _ h => h) rfl (by rfl) (by assumption) ?_
            try simp only [Act.put, List.setIfInBounds_toArray, List.set_cons_zero, List.set_cons_succ]
            refine take_u (i := 51) (d := some 102) rfl (by kernel_rfl) (by kernel_rfl) (by kernel_rfl) (fun _ _ _ h => h) rfl (by rfl) (by assumption) ?_
            try simp only [Act.put, List.setIfInBounds_toArray, List.set_cons_zero, List.set_cons_succ]
            refine take_u (i := 52) (d := some 103) rfl (by kernel_rfl) (by kernel_rfl) (by kernel_rfl) (fun _ _ _ h => h) rfl (by rfl) (by assumption) ?_
            try simp only [Act.put, List.setIfInBounds_toArray, List.set_cons_zero, List.set_cons_succ]
            refine take_u (i := 53) (d := some 104) rfl (by kernel_rfl) (by kernel_rfl) (by kernel_rfl) (fun _ _ _ h => h) rfl (by rfl) (by assumption) ?_
            try simp only [Act.put, List.setIfInBounds_toArray, List.set_cons_zero, List.set_cons_succ]
            refine take_w (i := 54) (d := some 105) (v := ?_) rfl (by kernel_rfl) (by kernel_rfl) (by kernel_rfl) (fun _ _ _ h => h) rfl (by rfl) ?_ (by assumption) ?_
            rotate_left
            · (intro w hSw; (try dsimp only at hSw); go_simp; (try with_reducible rfl))
            try simp only [Act.put, List.setIfInBounds_toArray, List.set_cons_zero, List.set_cons_succ]
            refine take_w (i := 55) (d := some 106) (v := ?_) rfl (by kernel_rfl) (by kernel_rfl) (by kernel_rfl) (fun _ _ _ h => h) rfl (by rfl) ?_ (by assumption) ?_
            rotate_left
            · (intro w hSw; (try dsimp only at hSw); go_simp; (try with_reducible rfl))
            try simp only [Act.put, List.setIfInBounds_toArray, List.set_cons_zero, List.set_cons_succ]
            refine wpAnyH_done (by kernel_rfl) ?_ _
            have hl40 : L.length ≤ 40 := HLl.out
            have hl41 : k < L.length := Hhlt.out
            go_wp2_with fail
            go_roundw
            case rel => exact ⟨k + 1, by have := Hhlt.out; omega, by have := Hhlt.out; have := HLl.out; go_num, Lib.hid HQr.out.drew⟩
            case measure => have := Hhlt.out; have := HLl.out; simp [intOf]; omega
        · obtain rfl : k = L.length := by omega
          have d0 : decide ((L.length : Int) < (L.length : Int)) = false := decide_eq_false (by omega)
          have d0n : decide (L.length < L.length) = false := decide_eq_false (by omega)
          clear HL HR HV s0 s1 s2 s3 s4 s5 s6 s7
          by_cases hfb : fa = fb
          · obtain rfl : M = L := HNN.out hfb
            have d6 : ((fa : Int) != (fb : Int)) = false := by rw [hfb]; simp
            clear HNN hfb
            obtain ⟨s0, s1, s2, s3, s4, s5, s6, s7⟩ := ALL.out wr (HQ6.out.trans HQr.out)
            go_wp2_with (first
        | (go_at_call 10; refine (CFb.out wr (HQ0.out.trans (HQ6.out.trans HQr.out))).mono ?_; rintro e w8 ⟨rfl, q8⟩; have p8 : Hid (Q wr w8) := Lib.hid q8; clear q8; clear s0 s1 s2 s3 s4 s5 s6 s7; obtain ⟨s0, s1, s2, s3, s4, s5, s6, s7⟩ := ALL.out w8 ((HQ6.out.trans HQr.out).trans p8.out))
        | (go_at_call 12; refine (CNb.out w8 (HQ0.out.trans ((HQ6.out.trans HQr.out).trans p8.out))).mono ?_; rintro e w9 ⟨A9, c9, rfl, -, hR9, q9⟩; have HR9 := Lib.hid hR9; have p9 : Hid (Q wr w9) := Lib.hid (p8.out.trans q9); clear q9 hR9; clear s0 s1 s2 s3 s4 s5 s6 s7; obtain ⟨s0, s1, s2, s3, s4, s5, s6, s7⟩ := ALL.out w9 ((HQ6.out.trans HQr.out).trans p9.out))
        | (go_at_call 11; refine (Hs.refInts_any An A9 _ cn _ c9 M M w9 rfl rfl (ints13 (HRn.out.q ((HQ56.out.trans HQr.out).trans p9.out))) (ints13 HR9.out) (by have := HLl.out; unfold maxLen; omega)).mono ?_; rintro e w10 ⟨rfl, dd, rfl⟩; rw [(Hs.eqL_iff M M).2 rfl]; have p10 : Hid (Q wr (w9.drewN dd)) := Lib.hid (p9.out.drewN dd))
        | fail)
            go_ret
            exact ⟨by first | rfl | simp, HQ0.out.trans ((HQ6.out.trans HQr.out).trans p10.out)⟩
          · have d6 : ((fa : Int) != (fb : Int)) = true := bne_iff_ne.2 (by omega)
            clear HNN hfb
            obtain ⟨s0, s1, s2, s3, s4, s5, s6, s7⟩ := ALL.out wr (HQ6.out.trans HQr.out)
            go_wp2_with (first
        | (go_at_call 10; refine (CFb.out wr (HQ0.out.trans (HQ6.out.trans HQr.out))).mono ?_; rintro e w8 ⟨rfl, q8⟩; have p8 : Hid (Q wr w8) := Lib.hid q8; clear q8; clear s0 s1 s2 s3 s4 s5 s6 s7; obtain ⟨s0, s1, s2, s3, s4, s5, s6, s7⟩ := ALL.out w8 ((HQ6.out.trans HQr.out).trans p8.out))
        | fail)
            go_ret
            exact ⟨by first | rfl | simp, HQ0.out.trans ((HQ6.out.trans HQr.out).trans p8.out)⟩

set_option maxRecDepth 100000 in
theorem lifted (os : Os) (started : os.Started) (H : Type) (enc : TypeId × Value → H) :
    ReturnsInHanded {} Try.checked os 4 .any (Rows.cycNextSpec.pre6 enc Try.prog Try.f4 Rows.cycNextRow.domain false) (Rows.cycNextSpec.post enc Try.prog Try.f4 false true false false) := by
  refine returnsInHanded_of_change_sized (C := Try.checked) own started (by kernel_rfl) Try.func4
    (ChangeSpec.witness6 (enc := enc) (C := Try.checked) false ⟨#[], #[.agg #[.slice none 0 0, .slice none 0 0, .slice none 0 0, .slice none 0 0, .slice none 0 0, .slice none 0 0, .slice none 0 0, .slice none 0 0, .slice none 0 0, .int .i64 0, .int .i64 0]], []⟩ 8 (by kernel_rfl) (by kernel_rfl) (by kernel_rfl) (by kernel_rfl)) ?_
  intro W base args ds gs before hval0 hW hcnd hsz0 _
  have hval : ∀ (j : Nat) t v, Try.f4.params[j]? = some t → args[j]? = some v → Value.okWide Try.prog W .any base t v := hval0
  have hW' := hW
  obtain ⟨p, q, hA0, hV, rfl, hfz, hnd⟩ := hW
  have hA : DataW.TrodAll enc Try.prog W 0 (fun _ => true) true Try.f4.params.toList args.toList ds p := hA0
  rw [Try.params4] at hA hval
  obtain ⟨v0, vs0, d0, ds0, p0, q0, hargs, rfl, rfl, h0, r0⟩ := trodAll_cons hA
  obtain ⟨rfl, rfl, rfl⟩ := trodAll_nil r0
  obtain rfl : args = #[v0] := by cases args; simp_all
  obtain ⟨rfl, rfl⟩ := trodVars_none hV
  have z0 : ∀ n ∈ d0.weights Try.prog 43, n ≤ reachBytes := fun n hn => by
    have := List.all_eq_true.1 hsz0 n (DataW.weights_mem_each (j := 0) (t := 43) (d := d0) (by rw [Try.params4]; rfl) rfl n hn)
    simpa using this
  obtain ⟨L0, A, S, F, Av, D, E, Pa, Ta, nl, cl, n, ca, m, d, cr, k1, k2, k3, kp, kt, l, ks, sl, R, c, P, T, x, y, rfl, hnl, hr, hll, hsz, hn, hm, hk, hSi, hl, hs, hsl, hG⟩ := open_CycNextIn (hval 0 43 v0 rfl rfl) h0 z0
  clear hA0 hval0
  refine (walk L0 A S F Av D E Pa Ta nl cl n ca m d cr k1 k2 k3 kp kt l ks sl R c P T x y _ hnl hr hll hsz hn hm hk hSi hl hs hsl hG).mono fun e W' ⟨he, hg⟩ => ?_
  subst he
  exact ⟨_, rfl, post_law laid (by rw [Try.params4]; decide +kernel) rfl rfl (by kernel_rfl) Try.underlying4 hW' hg⟩

/-- THE STATEMENT -/
theorem proved : Rows.CycNextSaid :=
  OpenClaim.holds_of_wide 4 Try.f4 rfl rfl rfl rfl rfl rfl rfl ⟨rfl, rfl, rfl, rfl, rfl⟩ rfl rfl rfl rfl rfl (by kernel_rfl) Try.func4 (by kernel_rfl)
    (of_decide_eq_true (by kernel_rfl)) (by unfold Func.isWrapper; first | (rw [if_pos (by decide +kernel)]; kernel_rfl) | (rw [if_neg (by decide +kernel)]; exact ⟨rfl, rfl⟩))
    (fun os started H enc _ => lifted os started H enc)
end Go.Proofs.Yteccgjhnifdcfaa.cycNext
