/-
  CycWays holds.
-/
import Derived.Test.YteccgjhnifdcfaaPd
import Derived.Test.YteccgjhnifdcfaaPj
import Derived.Test.YteccgjhnifdcfaaPk
import Derived.Test.YteccgjhnifdcfaaRows
import Derived.OpenShut
import Derived.RegionTactic
import Derived.Deep.CutBlock
namespace Go.Proofs.Yteccgjhnifdcfaa.cycWays
open Go.Proofs.Yteccgjhnifdcfaa.Cy
open Go.ChangeShapes Go.WideShapes Go.ChangeAt Go.RowKit Kit Rw Ex Ig Tr Uf
open Go.Proofs.Yteccgjhnifdcfaa.Sg (Sig Row Sized)
open Go.Proofs.Yteccgjhnifdcfaa.Hs (Ints Keys BoxT layI)
set_option maxRecDepth 100000 in
set_option maxHeartbeats 16000000 in
theorem walk (L0 A S F Av D E Pa Ta : Option Addr) (nl cl n ca m d cr k1 k2 k3 kp kt : Nat) (l : List Sig) (ks : List (List Int)) (sl : List Int) (R : List Int) (c : Cells) (P T : List (List Int)) (x y : Int) (sd : Nat) (w : World) (hnl : nl = l.length) (hr : Row w w.heap.size L0 l) (hll : l.length ≤ maxLen) (hsz : Sized l) (hn : n = ks.length) (hm : m = sl.length) (hk : Keys w w.heap.size A ks) (hSi : Ints w w.heap.size S sl) (hl : ks.length ≤ 1152921504606846976) (hs : ∀ k ∈ ks, k.length ≤ 1152921504606846976) (hsl : sl.length ≤ 1152921504606846976) (hG : GArg w R c P T F Av D E Pa Ta k1 k2 k3) :
    Calls Try.prog 3 #[.agg #[.slice L0 nl cl, .slice A n ca, .slice S m d, .slice F R.length cr, .slice Av c.V.length k1, .slice D c.N.length k2, .slice E c.M.length k3, .slice Pa P.length kp, .slice Ta T.length kt, .int .i64 x, .int .i64 y, .int .u8 (sd : Int)]] w fun e w' => e = .returned (.bool true) ∧ Q w w' := by
  subst hnl hn hm
  have HQ0 := Lib.hid ((((Q.refl w).alloc (Obj.cells #[.slice L0 l.length cl, .slice A ks.length ca, .slice S sl.length d, .slice F R.length cr, .slice Av c.V.length k1, .slice D c.N.length k2, .slice E c.M.length k3, .slice Pa P.length kp, .slice Ta T.length kt, .int .i64 x, .int .i64 y, .int .u8 (sd : Int)] 33)).alloc (Obj.cells #[Value.slice A ks.length ca, Value.slice S sl.length d] 26)).alloc (Obj.cells #[.slice F R.length cr, .slice Av c.V.length k1, .slice D c.N.length k2, .slice E c.M.length k3, .slice Pa P.length kp, .slice Ta T.length kt] 31))
  have HX := Lib.hid (own_new8 w [.slice L0 l.length cl, .slice A ks.length ca, .slice S sl.length d, .slice F R.length cr, .slice Av c.V.length k1, .slice D c.N.length k2, .slice E c.M.length k3, .slice Pa P.length kp, .slice Ta T.length kt, .int .i64 x, .int .i64 y, .int .u8 (sd : Int)] 33)
  have HT := Lib.hid ((BoxT.new (w.alloc (Obj.cells #[.slice L0 l.length cl, .slice A ks.length ca, .slice S sl.length d, .slice F R.length cr, .slice Av c.V.length k1, .slice D c.N.length k2, .slice E c.M.length k3, .slice Pa P.length kp, .slice Ta T.length kt, .int .i64 x, .int .i64 y, .int .u8 (sd : Int)] 33)) (Value.slice A ks.length ca) (Value.slice S sl.length d) 26).q ((Q.refl _).alloc (Obj.cells #[.slice F R.length cr, .slice Av c.V.length k1, .slice D c.N.length k2, .slice E c.M.length k3, .slice Pa P.length kp, .slice Ta T.length kt] 31)))
  have HG6 := Lib.hid (Box6.new ((w.alloc (Obj.cells #[.slice L0 l.length cl, .slice A ks.length ca, .slice S sl.length d, .slice F R.length cr, .slice Av c.V.length k1, .slice D c.N.length k2, .slice E c.M.length k3, .slice Pa P.length kp, .slice Ta T.length kt, .int .i64 x, .int .i64 y, .int .u8 (sd : Int)] 33)).alloc (Obj.cells #[Value.slice A ks.length ca, Value.slice S sl.length d] 26)) (.slice F R.length cr) (.slice Av c.V.length k1) (.slice D c.N.length k2) (.slice E c.M.length k3) (.slice Pa P.length kp) (.slice Ta T.length kt) 31)
  have HRow := Lib.hid hr
  have HKy := Lib.hid hk
  have HSl := Lib.hid hSi
  have HGa := Lib.hid hG
  have CF := Lib.hid (fun (U : World) (p : Q w U) => of13_any L0 A S F Av D E Pa Ta l.length cl ks.length ca sl.length d R.length cr c.V.length k1 c.N.length k2 c.M.length k3 P.length kp T.length kt l ks sl R c P T U rfl ((hr.q (Nat.le_refl _) p).more p.size) rfl rfl ((hk.q (Nat.le_refl _) p).more p.size) ((hSi.q (Nat.le_refl _) p).more p.size) hll hsz hl hs hsl rfl rfl rfl rfl rfl rfl ((hG.r.q p)) (hG.u.q p) ((hG.p.q (Nat.le_refl _) p).more p.size) ((hG.t.q (Nat.le_refl _) p).more p.size) hG.lR hG.lU.1 hG.lU.2.1 hG.lU.2.2 hG.lP hG.lT hG.sP hG.sT)
  clear hr hll hsz hk hSi hl hs hsl hG
  have CT : Hid (∀ (x y : Int) (U : World), Calls Try.prog 8 #[.agg #[.slice F R.length cr, .slice Av c.V.length k1, .slice D c.N.length k2, .slice E c.M.length k3, .slice Pa P.length kp, .slice Ta T.length kt], .slice (some ⟨U.heap.size, 0, none⟩) 2 2] (U.alloc (Obj.cells #[.int .i64 x, .int .i64 y] 3)) fun e w' => e = .returned (.bool (thereL c.V.length [x, y])) ∧ Q U w') := fun x y U => (refThere13_any [x, y] (some ⟨U.heap.size, 0, none⟩) Av 2 2 c.V.length k1 _ _ _ _ _ (U.alloc (Obj.cells #[.int .i64 x, .int .i64 y] 3)) rfl (two_row U x y _) (by simp)).mono (fun e w' h => ⟨h.1, ((Q.refl U).alloc (Obj.cells #[.int .i64 x, .int .i64 y] 3)).trans h.2⟩)
  cases hof : of13B l ks sl R c P T
  · rw [hof] at CF
    clear hof HKy HSl HGa HRow CT
    go_enter Try.func3, Try.ntmps3
    go_upto_region 1 with fail
    generalize hW : w.alloc (Obj.cells #[.slice L0 l.length cl, .slice A ks.length ca, .slice S sl.length d, .slice F R.length cr, .slice Av c.V.length k1, .slice D c.N.length k2, .slice E c.M.length k3, .slice Pa P.length kp, .slice Ta T.length kt, .int .i64 x, .int .i64 y, .int .u8 (sd : Int)] 33) = W at *
    clear hW
    have x0 := (HX.out.2 0 _ rfl).1
    have x1 := (HX.out.2 1 _ rfl).1
    have x2 := (HX.out.2 2 _ rfl).1
    have HX2 := Lib.hid (HX.out.q ((Q.refl W).alloc (Obj.cells #[Value.slice A ks.length ca, Value.slice S sl.length d] 26)))
    go_upto_region 3 with fail
    generalize hV : W.alloc (Obj.cells #[Value.slice A ks.length ca, Value.slice S sl.length d] 26) = V at *
    clear hV x0 x1 x2
    have x3 := (HX2.out.2 3 _ rfl).1
    have x4 := (HX2.out.2 4 _ rfl).1
    have x5 := (HX2.out.2 5 _ rfl).1
    have x6 := (HX2.out.2 6 _ rfl).1
    have x7 := (HX2.out.2 7 _ rfl).1
    have x8 := (HX2.out.2 8 _ rfl).1
    have HX3 := Lib.hid (HX2.out.q ((Q.refl V).alloc (Obj.cells #[.slice F R.length cr, .slice Av c.V.length k1, .slice D c.N.length k2, .slice E c.M.length k3, .slice Pa P.length kp, .slice Ta T.length kt] 31)))
    go_upto_region 4 with fail
    generalize hU : V.alloc (Obj.cells #[.slice F R.length cr, .slice Av c.V.length k1, .slice D c.N.length k2, .slice E c.M.length k3, .slice Pa P.length kp, .slice Ta T.length kt] 31) = U at *
    clear hU x3 x4 x5 x6 x7 x8
    have x9 := (HX3.out.2 9 _ rfl).1
    have x10 := (HX3.out.2 10 _ rfl).1
    have x11 := (HX3.out.2 11 _ rfl).1
    go_upto_region 7 with fail
    clear x9 x10 x11
    have ALL : Hid (∀ U', Q U U' → U'.cell? ⟨W.heap.size, 0, none⟩ = some (.slice A ks.length ca) ∧ U'.cell? ⟨W.heap.size, 1, none⟩ = some (.slice S sl.length d) ∧ U'.cell? ⟨V.heap.size, 0, none⟩ = some (.slice F R.length cr) ∧ U'.cell? ⟨V.heap.size, 1, none⟩ = some (.slice Av c.V.length k1) ∧ U'.cell? ⟨V.heap.size, 2, none⟩ = some (.slice D c.N.length k2) ∧ U'.cell? ⟨V.heap.size, 3, none⟩ = some (.slice E c.M.length k3) ∧ U'.cell? ⟨V.heap.size, 4, none⟩ = some (.slice Pa P.length kp) ∧ U'.cell? ⟨V.heap.size, 5, none⟩ = some (.slice Ta T.length kt)) := fun U' q => by
      have h1 := HT.out.q q
      have h2 := HG6.out.q q
      exact ⟨h1.c0, h1.c1, h2.c0, h2.c1, h2.c2, h2.c3, h2.c4, h2.c5⟩
    obtain ⟨s0, s1, s2, s3, s4, s5, s6, s7⟩ := ALL.out U (Q.refl _)
    have HQ1 : Hid (Q U U) := Lib.hid (Q.refl _)
    go_wp2_with (first
      | (go_at_call 6; (with_reducible refine (shown13_any U).mono ?_); rintro e w2 ⟨rfl, q1⟩; have HQ2 := Lib.hid (HQ1.out.trans q1); clear s0 s1 s2 s3 s4 s5 s6 s7 q1; obtain ⟨s0, s1, s2, s3, s4, s5, s6, s7⟩ := ALL.out w2 HQ2.out)
      | (go_at_call 7; (with_reducible refine (CF.out w2 (HQ0.out.trans HQ2.out)).mono ?_); rintro e w3 ⟨rfl, q2⟩; have HQ3 := Lib.hid (HQ2.out.trans q2); clear s0 s1 s2 s3 s4 s5 s6 s7 q2; obtain ⟨s0, s1, s2, s3, s4, s5, s6, s7⟩ := ALL.out w3 HQ3.out)
      | fail)
    go_ret
    exact ⟨rfl, HQ0.out.trans HQ3.out⟩
  · rw [hof] at CF
    cases hth : thereL c.V.length [x, y]
    · have CT2 := Lib.hid (CT.out x y)
      rw [hth] at CT2
      clear hof hth HKy HSl HGa HRow CT
      go_enter Try.func3, Try.ntmps3
      go_upto_region 1 with fail
      generalize hW : w.alloc (Obj.cells #[.slice L0 l.length cl, .slice A ks.length ca, .slice S sl.length d, .slice F R.length cr, .slice Av c.V.length k1, .slice D c.N.length k2, .slice E c.M.length k3, .slice Pa P.length kp, .slice Ta T.length kt, .int .i64 x, .int .i64 y, .int .u8 (sd : Int)] 33) = W at *
      clear hW
      have x0 := (HX.out.2 0 _ rfl).1
      have x1 := (HX.out.2 1 _ rfl).1
      have x2 := (HX.out.2 2 _ rfl).1
      have HX2 := Lib.hid (HX.out.q ((Q.refl W).alloc (Obj.cells #[Value.slice A ks.length ca, Value.slice S sl.length d] 26)))
      go_upto_region 3 with fail
      generalize hV : W.alloc (Obj.cells #[Value.slice A ks.length ca, Value.slice S sl.length d] 26) = V at *
      clear hV x0 x1 x2
      have x3 := (HX2.out.2 3 _ rfl).1
      have x4 := (HX2.out.2 4 _ rfl).1
      have x5 := (HX2.out.2 5 _ rfl).1
      have x6 := (HX2.out.2 6 _ rfl).1
      have x7 := (HX2.out.2 7 _ rfl).1
      have x8 := (HX2.out.2 8 _ rfl).1
      have HX3 := Lib.hid (HX2.out.q ((Q.refl V).alloc (Obj.cells #[.slice F R.length cr, .slice Av c.V.length k1, .slice D c.N.length k2, .slice E c.M.length k3, .slice Pa P.length kp, .slice Ta T.length kt] 31)))
      go_upto_region 4 with fail
      generalize hU : V.alloc (Obj.cells #[.slice F R.length cr, .slice Av c.V.length k1, .slice D c.N.length k2, .slice E c.M.length k3, .slice Pa P.length kp, .slice Ta T.length kt] 31) = U at *
      clear hU x3 x4 x5 x6 x7 x8
      have x9 := (HX3.out.2 9 _ rfl).1
      have x10 := (HX3.out.2 10 _ rfl).1
      have x11 := (HX3.out.2 11 _ rfl).1
      go_upto_region 7 with fail
      clear x9 x10 x11
      have ALL : Hid (∀ U', Q U U' → U'.cell? ⟨W.heap.size, 0, none⟩ = some (.slice A ks.length ca) ∧ U'.cell? ⟨W.heap.size, 1, none⟩ = some (.slice S sl.length d) ∧ U'.cell? ⟨V.heap.size, 0, none⟩ = some (.slice F R.length cr) ∧ U'.cell? ⟨V.heap.size, 1, none⟩ = some (.slice Av c.V.length k1) ∧ U'.cell? ⟨V.heap.size, 2, none⟩ = some (.slice D c.N.length k2) ∧ U'.cell? ⟨V.heap.size, 3, none⟩ = some (.slice E c.M.length k3) ∧ U'.cell? ⟨V.heap.size, 4, none⟩ = some (.slice Pa P.length kp) ∧ U'.cell? ⟨V.heap.size, 5, none⟩ = some (.slice Ta T.length kt)) := fun U' q => by
        have h1 := HT.out.q q
        have h2 := HG6.out.q q
        exact ⟨h1.c0, h1.c1, h2.c0, h2.c1, h2.c2, h2.c3, h2.c4, h2.c5⟩
      obtain ⟨s0, s1, s2, s3, s4, s5, s6, s7⟩ := ALL.out U (Q.refl _)
      have HQ1 : Hid (Q U U) := Lib.hid (Q.refl _)
      go_wp2_with (first
        | (go_at_call 6; (with_reducible refine (shown13_any U).mono ?_); rintro e w2 ⟨rfl, q1⟩; have HQ2 := Lib.hid (HQ1.out.trans q1); clear s0 s1 s2 s3 s4 s5 s6 s7 q1; obtain ⟨s0, s1, s2, s3, s4, s5, s6, s7⟩ := ALL.out w2 HQ2.out)
        | (go_at_call 7; (with_reducible refine (CF.out w2 (HQ0.out.trans HQ2.out)).mono ?_); rintro e w3 ⟨rfl, q2⟩; have HQ3 := Lib.hid (HQ2.out.trans q2); clear s0 s1 s2 s3 s4 s5 s6 s7 q2; obtain ⟨s0, s1, s2, s3, s4, s5, s6, s7⟩ := ALL.out w3 HQ3.out)
        | (go_at_call 8; refine (CT2.out w3).mono ?_; rintro e w4 ⟨rfl, q3⟩; have HQ4 := Lib.hid (HQ3.out.trans q3); clear s0 s1 s2 s3 s4 s5 s6 s7 q3; obtain ⟨s0, s1, s2, s3, s4, s5, s6, s7⟩ := ALL.out w4 HQ4.out)
        | fail)
      go_ret
      exact ⟨rfl, HQ0.out.trans HQ4.out⟩
    · obtain ⟨h12, hv40⟩ := of13_12 hof
      obtain ⟨hO, hsl, hfew, hC, hp, ht, g6, hA⟩ := of12_plain h12
      clear hof h12 g6
      obtain ⟨a, b, rfl, rfl, ha, hb⟩ := there_two hth
      have CT2 := Lib.hid (CT.out (a : Int) (b : Int))
      rw [hth] at CT2
      clear CT hth
      have hE : (edgesN ks c.V P T).length ≤ 1000000 := by
        have := edges_len ks c.V (B := 1000) hfew.2.2.2.2.1 hfew.2.2.2.2.2
        have := Nat.mul_le_mul_right 2000 hv40
        omega
      have sP6 : ∀ k ∈ P, k.length ≤ 1000000 := fun k hk => Nat.le_trans (hfew.2.2.2.2.1 k hk) (by omega)
      have sT6 : ∀ k ∈ T, k.length ≤ 1000000 := fun k hk => Nat.le_trans (hfew.2.2.2.2.2 k hk) (by omega)
      have hkk : ∀ k ∈ ks, k.length ≤ 100000 := hO.key
      have hkl : ks.length ≤ 1000000 := by have := hO.len; omega
      have CFI : Hid (∀ (n : Nat) (U : World), n < c.V.length → Q w U → Calls Try.prog 10 #[.agg #[.slice Av c.V.length k1, .slice D c.N.length k2, .slice E c.M.length k3], .int .i64 (n : Int)] U fun e w' => e = .returned (.int .i64 (fst c.V n : Int)) ∧ Q U w') := fun n U hn p => refFind_any R c.V n Av c.V.length k1 _ _ U rfl (HGa.out.u.q p).v hC hn (by omega)
      have CNX : Hid (∀ (n : Nat) (U : World), n < c.V.length → Q w U → Calls Try.prog 12 #[.agg #[.slice A ks.length ca, .slice S sl.length d], .agg #[.slice F R.length cr, .slice Av c.V.length k1, .slice D c.N.length k2, .slice E c.M.length k3, .slice Pa P.length kp, .slice Ta T.length kt], .int .i64 (n : Int)] U (RowPost (nextL ks c.V P T (fst c.V n)) U)) := fun n U hn p => next13_any R c P T ks A S F Av D E Pa Ta ca sl.length d R.length cr k1 k2 k3 kp kt n U ((HKy.out.q (Nat.le_refl _) p).more p.size) hkk hkl (HGa.out.u.q p) hC (by omega) ((HGa.out.p.q (Nat.le_refl _) p).more p.size) ((HGa.out.t.q (Nat.le_refl _) p).more p.size) hp ht sP6 sT6 hE hn
      have HV : Hid (∀ f, f < c.V.length → par c.V f = f → ∃ vad : Addr, Av = some vad ∧ vad.block < w.heap.size ∧ w.cell? (vad.add f) = some (.int .i64 (f : Int))) := fun f h1 h2 => by
        obtain ⟨vad, e, hlt, h⟩ := HGa.out.u.v.int_at h1
        exact ⟨vad, e, hlt, by rw [h, hC.at h1, h2]⟩
      obtain ⟨n9, hn9⟩ : ∃ n9 : Nat, n9 = sd % 50 := ⟨_, rfl⟩
      have hn50 : n9 < 50 := by omega
      obtain ⟨fa, hfa⟩ : ∃ fa, fa = fst c.V a := ⟨_, rfl⟩
      obtain ⟨fb, hfb⟩ : ∃ fb, fb = fst c.V b := ⟨_, rfl⟩
      obtain ⟨PL, hPL⟩ : ∃ PL, PL = wayI ks c.V P T fa fb (n9 : Int) := ⟨_, rfl⟩
      obtain ⟨QL, hQL⟩ : ∃ QL, QL = wayI ks c.V P T fa fb ((n9 : Int) + 1) := ⟨_, rfl⟩
      have CPP : Hid (∀ (dep : Int) (U : World), Q w U → Calls Try.prog 9 #[.agg #[.slice A ks.length ca, .slice S sl.length d], .agg #[.slice F R.length cr, .slice Av c.V.length k1, .slice D c.N.length k2, .slice E c.M.length k3, .slice Pa P.length kp, .slice Ta T.length kt], .int .i64 (a : Int), .int .i64 (b : Int), .int .i64 dep] U (RowPost (wayI ks c.V P T (fst c.V a) (fst c.V b) dep) U)) := fun dep U p => path13p_any R c P T ks A S F Av D E Pa Ta ca sl.length d R.length cr k1 k2 k3 kp kt a b dep U ((HKy.out.q (Nat.le_refl _) p).more p.size) hkk hkl (HGa.out.u.q p) hC (by omega) ((HGa.out.p.q (Nat.le_refl _) p).more p.size) ((HGa.out.t.q (Nat.le_refl _) p).more p.size) hp ht sP6 sT6 hE ha hb
      have CFa := Lib.hid (fun U => CFI.out a U ha)
      have CFb := Lib.hid (fun U => CFI.out b U hb)
      have CPn := Lib.hid (CPP.out (n9 : Int))
      have CPq := Lib.hid (CPP.out ((n9 : Int) + 1))
      rw [← hfa] at CFa CPn CPq
      rw [← hfb] at CFb CPn CPq
      rw [← hPL] at CPn
      rw [← hQL] at CPq
      have hway := ways_ok (ks := ks) (P := P) (T := T) (s := fa) (n := n9) (show fb < c.V.length by rw [hfb]; exact (hC.fst_in b hb).1)
      rw [← hPL, ← hQL] at hway
      have hrem : Int.tmod (sd : Int) 50 = (n9 : Int) := by rw [hn9]; exact (Int.ofNat_tmod sd 50).symm
      have hrem2 : (sd : Int) % 50 = (n9 : Int) := by omega
      have Hn9 := Lib.hid hn9
      have Hv40 := Lib.hid hv40
      clear hO hsl hfew hC hp ht hA hE sP6 sT6 hkk hkl CFI CPP ha hb hv40 HKy HSl HGa HRow hfa hfb hPL hQL HV hn9
      rcases hway with ⟨h1, h2⟩ | ⟨hq, kk, hk1, hk2, hk3, hk4, hk5, hk6⟩
      · have e0 : ((PL.length : Int) == 0) = true := by rw [h1]; rfl
        have H1 := Lib.hid h1
        clear h1
        rcases h2 with h2 | h2
        · have e1 : ((QL.length : Int) == 0) = true := by rw [h2]; rfl
          have H2 := Lib.hid h2
          clear h2 CFa CFb CNX
          go_enter Try.func3, Try.ntmps3
          go_upto_region 1 with fail
          generalize hW : w.alloc (Obj.cells #[.slice L0 l.length cl, .slice A ks.length ca, .slice S sl.length d, .slice F R.length cr, .slice Av c.V.length k1, .slice D c.N.length k2, .slice E c.M.length k3, .slice Pa P.length kp, .slice Ta T.length kt, .int .i64 (a : Int), .int .i64 (b : Int), .int .u8 (sd : Int)] 33) = W at *
          clear hW
          have x0 := (HX.out.2 0 _ rfl).1
          have x1 := (HX.out.2 1 _ rfl).1
          have x2 := (HX.out.2 2 _ rfl).1
          have HX2 := Lib.hid (HX.out.q ((Q.refl W).alloc (Obj.cells #[Value.slice A ks.length ca, Value.slice S sl.length d] 26)))
          go_upto_region 3 with fail
          generalize hV : W.alloc (Obj.cells #[Value.slice A ks.length ca, Value.slice S sl.length d] 26) = V at *
          clear hV x0 x1 x2
          have x3 := (HX2.out.2 3 _ rfl).1
          have x4 := (HX2.out.2 4 _ rfl).1
          have x5 := (HX2.out.2 5 _ rfl).1
          have x6 := (HX2.out.2 6 _ rfl).1
          have x7 := (HX2.out.2 7 _ rfl).1
          have x8 := (HX2.out.2 8 _ rfl).1
          have HX3 := Lib.hid (HX2.out.q ((Q.refl V).alloc (Obj.cells #[.slice F R.length cr, .slice Av c.V.length k1, .slice D c.N.length k2, .slice E c.M.length k3, .slice Pa P.length kp, .slice Ta T.length kt] 31)))
          go_upto_region 4 with fail
          generalize hU : V.alloc (Obj.cells #[.slice F R.length cr, .slice Av c.V.length k1, .slice D c.N.length k2, .slice E c.M.length k3, .slice Pa P.length kp, .slice Ta T.length kt] 31) = U at *
          clear hU x3 x4 x5 x6 x7 x8
          have x9 := (HX3.out.2 9 _ rfl).1
          have x10 := (HX3.out.2 10 _ rfl).1
          have x11 := (HX3.out.2 11 _ rfl).1
          go_upto_region 7 with fail
          clear x9 x10 x11
          have ALL : Hid (∀ U', Q U U' → U'.cell? ⟨W.heap.size, 0, none⟩ = some (.slice A ks.length ca) ∧ U'.cell? ⟨W.heap.size, 1, none⟩ = some (.slice S sl.length d) ∧ U'.cell? ⟨V.heap.size, 0, none⟩ = some (.slice F R.length cr) ∧ U'.cell? ⟨V.heap.size, 1, none⟩ = some (.slice Av c.V.length k1) ∧ U'.cell? ⟨V.heap.size, 2, none⟩ = some (.slice D c.N.length k2) ∧ U'.cell? ⟨V.heap.size, 3, none⟩ = some (.slice E c.M.length k3) ∧ U'.cell? ⟨V.heap.size, 4, none⟩ = some (.slice Pa P.length kp) ∧ U'.cell? ⟨V.heap.size, 5, none⟩ = some (.slice Ta T.length kt)) := fun U' q => by
            have h1 := HT.out.q q
            have h2 := HG6.out.q q
            exact ⟨h1.c0, h1.c1, h2.c0, h2.c1, h2.c2, h2.c3, h2.c4, h2.c5⟩
          obtain ⟨s0, s1, s2, s3, s4, s5, s6, s7⟩ := ALL.out U (Q.refl _)
          have HQ1 : Hid (Q U U) := Lib.hid (Q.refl _)
          go_upto_region 10 with (first
            | (go_at_call 6; (with_reducible refine (shown13_any U).mono ?_); rintro e w2 ⟨rfl, q1⟩; have HQ2 := Lib.hid (HQ1.out.trans q1); clear s0 s1 s2 s3 s4 s5 s6 s7 q1; obtain ⟨s0, s1, s2, s3, s4, s5, s6, s7⟩ := ALL.out w2 HQ2.out)
            | (go_at_call 7; (with_reducible refine (CF.out w2 (HQ0.out.trans HQ2.out)).mono ?_); rintro e w3 ⟨rfl, q2⟩; have HQ3 := Lib.hid (HQ2.out.trans q2); clear s0 s1 s2 s3 s4 s5 s6 s7 q2; obtain ⟨s0, s1, s2, s3, s4, s5, s6, s7⟩ := ALL.out w3 HQ3.out)
            | (go_at_call 8; refine (CT2.out w3).mono ?_; rintro e w4 ⟨rfl, q3⟩; have HQ4 := Lib.hid (HQ3.out.trans q3); clear s0 s1 s2 s3 s4 s5 s6 s7 q3; obtain ⟨s0, s1, s2, s3, s4, s5, s6, s7⟩ := ALL.out w4 HQ4.out)
            | fail)
          clear CF CT2
          go_upto_region 11 with fail
          clear hrem hrem2
          have hn51 : n9 < 50 := hn50
          go_upto_region 12 with (go_at_call 9; refine (CPn.out w4 (HQ0.out.trans HQ4.out)).mono ?_; rintro e w5 ⟨Ap, cp, rfl, -, hRp, q4⟩; have HRp := Lib.hid hRp; have HQ5 := Lib.hid (HQ4.out.trans q4); clear hRp q4; clear s0 s1 s2 s3 s4 s5 s6 s7; obtain ⟨s0, s1, s2, s3, s4, s5, s6, s7⟩ := ALL.out w5 HQ5.out)
          go_upto_region 13 with (go_at_call 9; refine (CPq.out w5 (HQ0.out.trans HQ5.out)).mono ?_; rintro e w6 ⟨Aq, cq, rfl, -, hRq, q5⟩; have HRq := Lib.hid hRq; have HQ56 := Lib.hid q5; have HQ6 := Lib.hid (HQ5.out.trans q5); clear hRq q5; clear s0 s1 s2 s3 s4 s5 s6 s7; obtain ⟨s0, s1, s2, s3, s4, s5, s6, s7⟩ := ALL.out w6 HQ6.out)
          clear CPn CPq
          go_wp2_with fail
          go_ret
          exact ⟨by first | rfl | simp, HQ0.out.trans HQ6.out⟩
        · have e1 : ((QL.length : Int) == 0) = false := beq_eq_false_iff_ne.2 (by omega)
          have e2 : ((QL.length : Int) == (n9 : Int) + 2) = true := beq_iff_eq.2 (by omega)
          have H2 := Lib.hid h2
          clear h2 CFa CFb CNX
          go_enter Try.func3, Try.ntmps3
          go_upto_region 1 with fail
          generalize hW : w.alloc (Obj.cells #[.slice L0 l.length cl, .slice A ks.length ca, .slice S sl.length d, .slice F R.length cr, .slice Av c.V.length k1, .slice D c.N.length k2, .slice E c.M.length k3, .slice Pa P.length kp, .slice Ta T.length kt, .int .i64 (a : Int), .int .i64 (b : Int), .int .u8 (sd : Int)] 33) = W at *
          clear hW
          have x0 := (HX.out.2 0 _ rfl).1
          have x1 := (HX.out.2 1 _ rfl).1
          have x2 := (HX.out.2 2 _ rfl).1
          have HX2 := Lib.hid (HX.out.q ((Q.refl W).alloc (Obj.cells #[Value.slice A ks.length ca, Value.slice S sl.length d] 26)))
          go_upto_region 3 with fail
          generalize hV : W.alloc (Obj.cells #[Value.slice A ks.length ca, Value.slice S sl.length d] 26) = V at *
          clear hV x0 x1 x2
          have x3 := (HX2.out.2 3 _ rfl).1
          have x4 := (HX2.out.2 4 _ rfl).1
          have x5 := (HX2.out.2 5 _ rfl).1
          have x6 := (HX2.out.2 6 _ rfl).1
          have x7 := (HX2.out.2 7 _ rfl).1
          have x8 := (HX2.out.2 8 _ rfl).1
          have HX3 := Lib.hid (HX2.out.q ((Q.refl V).alloc (Obj.cells #[.slice F R.length cr, .slice Av c.V.length k1, .slice D c.N.length k2, .slice E c.M.length k3, .slice Pa P.length kp, .slice Ta T.length kt] 31)))
          go_upto_region 4 with fail
          generalize hU : V.alloc (Obj.cells #[.slice F R.length cr, .slice Av c.V.length k1, .slice D c.N.length k2, .slice E c.M.length k3, .slice Pa P.length kp, .slice Ta T.length kt] 31) = U at *
          clear hU x3 x4 x5 x6 x7 x8
          have x9 := (HX3.out.2 9 _ rfl).1
          have x10 := (HX3.out.2 10 _ rfl).1
          have x11 := (HX3.out.2 11 _ rfl).1
          go_upto_region 7 with fail
          clear x9 x10 x11
          have ALL : Hid (∀ U', Q U U' → U'.cell? ⟨W.heap.size, 0, none⟩ = some (.slice A ks.length ca) ∧ U'.cell? ⟨W.heap.size, 1, none⟩ = some (.slice S sl.length d) ∧ U'.cell? ⟨V.heap.size, 0, none⟩ = some (.slice F R.length cr) ∧ U'.cell? ⟨V.heap.size, 1, none⟩ = some (.slice Av c.V.length k1) ∧ U'.cell? ⟨V.heap.size, 2, none⟩ = some (.slice D c.N.length k2) ∧ U'.cell? ⟨V.heap.size, 3, none⟩ = some (.slice E c.M.length k3) ∧ U'.cell? ⟨V.heap.size, 4, none⟩ = some (.slice Pa P.length kp) ∧ U'.cell? ⟨V.heap.size, 5, none⟩ = some (.slice Ta T.length kt)) := fun U' q => by
            have h1 := HT.out.q q
            have h2 := HG6.out.q q
            exact ⟨h1.c0, h1.c1, h2.c0, h2.c1, h2.c2, h2.c3, h2.c4, h2.c5⟩
          obtain ⟨s0, s1, s2, s3, s4, s5, s6, s7⟩ := ALL.out U (Q.refl _)
          have HQ1 : Hid (Q U U) := Lib.hid (Q.refl _)
          go_upto_region 10 with (first
            | (go_at_call 6; (with_reducible refine (shown13_any U).mono ?_); rintro e w2 ⟨rfl, q1⟩; have HQ2 := Lib.hid (HQ1.out.trans q1); clear s0 s1 s2 s3 s4 s5 s6 s7 q1; obtain ⟨s0, s1, s2, s3, s4, s5, s6, s7⟩ := ALL.out w2 HQ2.out)
            | (go_at_call 7; (with_reducible refine (CF.out w2 (HQ0.out.trans HQ2.out)).mono ?_); rintro e w3 ⟨rfl, q2⟩; have HQ3 := Lib.hid (HQ2.out.trans q2); clear s0 s1 s2 s3 s4 s5 s6 s7 q2; obtain ⟨s0, s1, s2, s3, s4, s5, s6, s7⟩ := ALL.out w3 HQ3.out)
            | (go_at_call 8; refine (CT2.out w3).mono ?_; rintro e w4 ⟨rfl, q3⟩; have HQ4 := Lib.hid (HQ3.out.trans q3); clear s0 s1 s2 s3 s4 s5 s6 s7 q3; obtain ⟨s0, s1, s2, s3, s4, s5, s6, s7⟩ := ALL.out w4 HQ4.out)
            | fail)
          clear CF CT2
          go_upto_region 11 with fail
          clear hrem hrem2
          have hn51 : n9 < 50 := hn50
          go_upto_region 12 with (go_at_call 9; refine (CPn.out w4 (HQ0.out.trans HQ4.out)).mono ?_; rintro e w5 ⟨Ap, cp, rfl, -, hRp, q4⟩; have HRp := Lib.hid hRp; have HQ5 := Lib.hid (HQ4.out.trans q4); clear hRp q4; clear s0 s1 s2 s3 s4 s5 s6 s7; obtain ⟨s0, s1, s2, s3, s4, s5, s6, s7⟩ := ALL.out w5 HQ5.out)
          go_upto_region 13 with (go_at_call 9; refine (CPq.out w5 (HQ0.out.trans HQ5.out)).mono ?_; rintro e w6 ⟨Aq, cq, rfl, -, hRq, q5⟩; have HRq := Lib.hid hRq; have HQ56 := Lib.hid q5; have HQ6 := Lib.hid (HQ5.out.trans q5); clear hRq q5; clear s0 s1 s2 s3 s4 s5 s6 s7; obtain ⟨s0, s1, s2, s3, s4, s5, s6, s7⟩ := ALL.out w6 HQ6.out)
          clear CPn CPq
          go_wp2_with fail
          go_ret
          exact ⟨by first | rfl | simp, HQ0.out.trans HQ6.out⟩
      · have e0 : ((PL.length : Int) == 0) = false := beq_eq_false_iff_ne.2 (by omega)
        have hq2 := hq.symm
        subst hq2
        clear hq
        have HPl : Hid (PL.length ≤ 40) := by have := Hv40.out; unfold Hid; omega
        have Hk1 := Lib.hid hk1
        have Hk4 := Lib.hid hk4
        have Hk5 := Lib.hid hk5
        have Hk6 := Lib.hid hk6
        have d1 : decide ((n9 : Int) + 1 < (PL.length : Int)) = false := decide_eq_false (by omega)
        have d1n : decide (n9 + 1 < PL.length) = false := decide_eq_false (by omega)
        have ew0 : IntKind.i64.wrap ((PL.length : Int) - 1) = (kk : Int) := by rw [IntWalk.i64_in _ (by have := HPl.out; omega)]; omega
        have j0 : (0 : Int) ≤ (kk : Int) := Int.natCast_nonneg _
        have j1 : (kk : Int) < (PL.length : Int) := by omega
        have j2 : (0 : Int) < (PL.length : Int) := by omega
        have j2n : 0 < PL.length := by omega
        have j1n : kk < PL.length := by omega
        have ewn : IntKind.i64.wrap ((n9 : Int) + 1) = (n9 : Int) + 1 := IntWalk.i64_in _ (by omega)
        clear hk1 hk2 hk3 hk4 hk5 hk6
        go_enter Try.func3, Try.ntmps3
        go_upto_region 1 with fail
        generalize hW : w.alloc (Obj.cells #[.slice L0 l.length cl, .slice A ks.length ca, .slice S sl.length d, .slice F R.length cr, .slice Av c.V.length k1, .slice D c.N.length k2, .slice E c.M.length k3, .slice Pa P.length kp, .slice Ta T.length kt, .int .i64 (a : Int), .int .i64 (b : Int), .int .u8 (sd : Int)] 33) = W at *
        clear hW
        have x0 := (HX.out.2 0 _ rfl).1
        have x1 := (HX.out.2 1 _ rfl).1
        have x2 := (HX.out.2 2 _ rfl).1
        have HX2 := Lib.hid (HX.out.q ((Q.refl W).alloc (Obj.cells #[Value.slice A ks.length ca, Value.slice S sl.length d] 26)))
        go_upto_region 3 with fail
        generalize hV : W.alloc (Obj.cells #[Value.slice A ks.length ca, Value.slice S sl.length d] 26) = V at *
        clear hV x0 x1 x2
        have x3 := (HX2.out.2 3 _ rfl).1
        have x4 := (HX2.out.2 4 _ rfl).1
        have x5 := (HX2.out.2 5 _ rfl).1
        have x6 := (HX2.out.2 6 _ rfl).1
        have x7 := (HX2.out.2 7 _ rfl).1
        have x8 := (HX2.out.2 8 _ rfl).1
        have HX3 := Lib.hid (HX2.out.q ((Q.refl V).alloc (Obj.cells #[.slice F R.length cr, .slice Av c.V.length k1, .slice D c.N.length k2, .slice E c.M.length k3, .slice Pa P.length kp, .slice Ta T.length kt] 31)))
        go_upto_region 4 with fail
        generalize hU : V.alloc (Obj.cells #[.slice F R.length cr, .slice Av c.V.length k1, .slice D c.N.length k2, .slice E c.M.length k3, .slice Pa P.length kp, .slice Ta T.length kt] 31) = U at *
        clear hU x3 x4 x5 x6 x7 x8
        have x9 := (HX3.out.2 9 _ rfl).1
        have x10 := (HX3.out.2 10 _ rfl).1
        have x11 := (HX3.out.2 11 _ rfl).1
        go_upto_region 7 with fail
        clear x9 x10 x11
        have ALL : Hid (∀ U', Q U U' → U'.cell? ⟨W.heap.size, 0, none⟩ = some (.slice A ks.length ca) ∧ U'.cell? ⟨W.heap.size, 1, none⟩ = some (.slice S sl.length d) ∧ U'.cell? ⟨V.heap.size, 0, none⟩ = some (.slice F R.length cr) ∧ U'.cell? ⟨V.heap.size, 1, none⟩ = some (.slice Av c.V.length k1) ∧ U'.cell? ⟨V.heap.size, 2, none⟩ = some (.slice D c.N.length k2) ∧ U'.cell? ⟨V.heap.size, 3, none⟩ = some (.slice E c.M.length k3) ∧ U'.cell? ⟨V.heap.size, 4, none⟩ = some (.slice Pa P.length kp) ∧ U'.cell? ⟨V.heap.size, 5, none⟩ = some (.slice Ta T.length kt)) := fun U' q => by
          have h1 := HT.out.q q
          have h2 := HG6.out.q q
          exact ⟨h1.c0, h1.c1, h2.c0, h2.c1, h2.c2, h2.c3, h2.c4, h2.c5⟩
        obtain ⟨s0, s1, s2, s3, s4, s5, s6, s7⟩ := ALL.out U (Q.refl _)
        have HQ1 : Hid (Q U U) := Lib.hid (Q.refl _)
        go_upto_region 10 with (first
          | (go_at_call 6; (with_reducible refine (shown13_any U).mono ?_); rintro e w2 ⟨rfl, q1⟩; have HQ2 := Lib.hid (HQ1.out.trans q1); clear s0 s1 s2 s3 s4 s5 s6 s7 q1; obtain ⟨s0, s1, s2, s3, s4, s5, s6, s7⟩ := ALL.out w2 HQ2.out)
          | (go_at_call 7; (with_reducible refine (CF.out w2 (HQ0.out.trans HQ2.out)).mono ?_); rintro e w3 ⟨rfl, q2⟩; have HQ3 := Lib.hid (HQ2.out.trans q2); clear s0 s1 s2 s3 s4 s5 s6 s7 q2; obtain ⟨s0, s1, s2, s3, s4, s5, s6, s7⟩ := ALL.out w3 HQ3.out)
          | (go_at_call 8; refine (CT2.out w3).mono ?_; rintro e w4 ⟨rfl, q3⟩; have HQ4 := Lib.hid (HQ3.out.trans q3); clear s0 s1 s2 s3 s4 s5 s6 s7 q3; obtain ⟨s0, s1, s2, s3, s4, s5, s6, s7⟩ := ALL.out w4 HQ4.out)
          | fail)
        clear CF CT2
        go_upto_region 11 with fail
        clear hrem hrem2
        have hn51 : n9 < 50 := hn50
        go_upto_region 12 with (go_at_call 9; refine (CPn.out w4 (HQ0.out.trans HQ4.out)).mono ?_; rintro e w5 ⟨Ap, cp, rfl, -, hRp, q4⟩; have HRp := Lib.hid hRp; have HQ5 := Lib.hid (HQ4.out.trans q4); clear hRp q4; clear s0 s1 s2 s3 s4 s5 s6 s7; obtain ⟨s0, s1, s2, s3, s4, s5, s6, s7⟩ := ALL.out w5 HQ5.out)
        go_upto_region 13 with (go_at_call 9; refine (CPq.out w5 (HQ0.out.trans HQ5.out)).mono ?_; rintro e w6 ⟨Aq, cq, rfl, -, hRq, q5⟩; have HRq := Lib.hid hRq; have HQ56 := Lib.hid q5; have HQ6 := Lib.hid (HQ5.out.trans q5); clear hRq q5; clear s0 s1 s2 s3 s4 s5 s6 s7; obtain ⟨s0, s1, s2, s3, s4, s5, s6, s7⟩ := ALL.out w6 HQ6.out)
        clear CPn CPq
        obtain ⟨pad, hpad, pb, -⟩ := HRp.out.int_at (show 0 < PL.length by omega)
        have HPC : Hid (∀ (i : Nat) (u : Int), PL[i]? = some u → ∀ U, Q w6 U → U.cell? (pad.add i) = some (.int .i64 u)) := fun i u hu U q => by
          obtain ⟨hi, hv⟩ := List.getElem?_eq_some_iff.1 hu
          obtain ⟨ad, e, hb, h⟩ := HRp.out.int_at hi
          rw [hpad] at e
          injection e with e
          subst e
          rw [hv] at h
          exact ((HQ56.out.trans q).cell (by rw [Tr.add_block]; exact hb)).trans h
        clear pb
        subst hpad
        have ALP : Hid (∀ U', Q w6 U' → U'.cell? ⟨W.heap.size, 0, none⟩ = some (.slice A ks.length ca) ∧ U'.cell? ⟨W.heap.size, 1, none⟩ = some (.slice S sl.length d) ∧ U'.cell? ⟨V.heap.size, 0, none⟩ = some (.slice F R.length cr) ∧ U'.cell? ⟨V.heap.size, 1, none⟩ = some (.slice Av c.V.length k1) ∧ U'.cell? ⟨V.heap.size, 2, none⟩ = some (.slice D c.N.length k2) ∧ U'.cell? ⟨V.heap.size, 3, none⟩ = some (.slice E c.M.length k3) ∧ U'.cell? ⟨V.heap.size, 4, none⟩ = some (.slice Pa P.length kp) ∧ U'.cell? ⟨V.heap.size, 5, none⟩ = some (.slice Ta T.length kt) ∧ U'.cell? pad = some (.int .i64 (fa : Int)) ∧ U'.cell? (pad.add kk) = some (.int .i64 (fb : Int))) := fun U' q => by
          obtain ⟨s0, s1, s2, s3, s4, s5, s6, s7⟩ := ALL.out U' (HQ6.out.trans q)
          exact ⟨s0, s1, s2, s3, s4, s5, s6, s7, by have := HPC.out 0 _ Hk4.out U' q; rwa [show pad.add 0 = pad by simp [Addr.add]] at this, HPC.out kk _ Hk5.out U' q⟩
        go_upto_region 15 with fail
        clear s0 s1 s2 s3 s4 s5 s6 s7 e0
        refine wp_region_held_drew (S := fun U' => U'.cell? ⟨W.heap.size, 0, none⟩ = some (.slice A ks.length ca) ∧ U'.cell? ⟨W.heap.size, 1, none⟩ = some (.slice S sl.length d) ∧ U'.cell? ⟨V.heap.size, 0, none⟩ = some (.slice F R.length cr) ∧ U'.cell? ⟨V.heap.size, 1, none⟩ = some (.slice Av c.V.length k1) ∧ U'.cell? ⟨V.heap.size, 2, none⟩ = some (.slice D c.N.length k2) ∧ U'.cell? ⟨V.heap.size, 3, none⟩ = some (.slice E c.M.length k3) ∧ U'.cell? ⟨V.heap.size, 4, none⟩ = some (.slice Pa P.length kp) ∧ U'.cell? ⟨V.heap.size, 5, none⟩ = some (.slice Ta T.length kt) ∧ U'.cell? pad = some (.int .i64 (fa : Int)) ∧ U'.cell? (pad.add kk) = some (.int .i64 (fb : Int))) (by kernel_rfl) ?_ (fun hHeld => ?_)
        · exact ALP.out _ ((Q.refl w6).drew)
        refine take_w (i := 0) (d := some 77) (v := ?_) rfl (by kernel_rfl) (by kernel_rfl) (by kernel_rfl) (fun _ _ _ h => h) rfl (by rfl) ?_ (by assumption) ?_
        rotate_left
        · (intro w hSw; (try dsimp only at hSw); go_simp; (try with_reducible rfl))
        try simp only [Act.put, List.setIfInBounds_toArray, List.set_cons_zero, List.set_cons_succ]
        refine take_w (i := 1) (d := some 78) (v := ?_) rfl (by kernel_rfl) (by kernel_rfl) (by kernel_rfl) (fun _ _ _ h => h) rfl (by rfl) ?_ (by assumption) ?_
        rotate_left
        · (intro w hSw; (try dsimp only at hSw); go_simp; (try with_reducible rfl))
        try simp only [Act.put, List.setIfInBounds_toArray, List.set_cons_zero, List.set_cons_succ]
        refine take_w (i := 2) (d := some 79) (v := ?_) rfl (by kernel_rfl) (by kernel_rfl) (by kernel_rfl) (fun _ _ _ h => h) rfl (by rfl) ?_ (by assumption) ?_
        rotate_left
        · (intro w hSw; (try dsimp only at hSw); go_simp; (try with_reducible rfl))
        try simp only [Act.put, List.setIfInBounds_toArray, List.set_cons_zero, List.set_cons_succ]
        refine take_w (i := 3) (d := some 80) (v := ?_) rfl (by kernel_rfl) (by kernel_rfl) (by kernel_rfl) (fun _ _ _ h => h) rfl (by rfl) ?_ (by assumption) ?_
        rotate_left
        · (intro w hSw; (try dsimp only at hSw); go_simp; (try with_reducible rfl))
        try simp only [Act.put, List.setIfInBounds_toArray, List.set_cons_zero, List.set_cons_succ]
        refine take_w (i := 4) (d := some 81) (v := ?_) rfl (by kernel_rfl) (by kernel_rfl) (by kernel_rfl) (fun _ _ _ h => h) rfl (by rfl) ?_ (by assumption) ?_
        rotate_left
        · (intro w hSw; (try dsimp only at hSw); go_simp; (try with_reducible rfl))
        try simp only [Act.put, List.setIfInBounds_toArray, List.set_cons_zero, List.set_cons_succ]
        refine take_w (i := 5) (d := some 82) (v := ?_) rfl (by kernel_rfl) (by kernel_rfl) (by kernel_rfl) (fun _ _ _ h => h) rfl (by rfl) ?_ (by assumption) ?_
        rotate_left
        · (intro w hSw; (try dsimp only at hSw); go_simp; (try with_reducible rfl))
        try simp only [Act.put, List.setIfInBounds_toArray, List.set_cons_zero, List.set_cons_succ]
        refine take_w (i := 6) (d := some 83) (v := ?_) rfl (by kernel_rfl) (by kernel_rfl) (by kernel_rfl) (fun _ _ _ h => h) rfl (by rfl) ?_ (by assumption) ?_
        rotate_left
        · (intro w hSw; (try dsimp only at hSw); go_simp; (try with_reducible rfl))
        try simp only [Act.put, List.setIfInBounds_toArray, List.set_cons_zero, List.set_cons_succ]
        refine take_w (i := 7) (d := some 84) (v := ?_) rfl (by kernel_rfl) (by kernel_rfl) (by kernel_rfl) (fun _ _ _ h => h) rfl (by rfl) ?_ (by assumption) ?_
        rotate_left
        · (intro w hSw; (try dsimp only at hSw); go_simp; (try with_reducible rfl))
        try simp only [Act.put, List.setIfInBounds_toArray, List.set_cons_zero, List.set_cons_succ]
        refine take_w (i := 8) (d := some 85) (v := ?_) rfl (by kernel_rfl) (by kernel_rfl) (by kernel_rfl) (fun _ _ _ h => h) rfl (by rfl) ?_ (by assumption) ?_
        rotate_left
        · (intro w hSw; (try dsimp only at hSw); go_simp; (try with_reducible rfl))
        try simp only [Act.put, List.setIfInBounds_toArray, List.set_cons_zero, List.set_cons_succ]
        refine take_w (i := 9) (d := some 86) (v := ?_) rfl (by kernel_rfl) (by kernel_rfl) (by kernel_rfl) (fun _ _ _ h => h) rfl (by rfl) ?_ (by assumption) ?_
        rotate_left
        · (intro w hSw; (try dsimp only at hSw); go_simp; (try with_reducible rfl))
        try simp only [Act.put, List.setIfInBounds_toArray, List.set_cons_zero, List.set_cons_succ]
        refine take_w (i := 10) (d := some 87) (v := ?_) rfl (by kernel_rfl) (by kernel_rfl) (by kernel_rfl) (fun _ _ _ h => h) rfl (by rfl) ?_ (by assumption) ?_
        rotate_left
        · (intro w hSw; (try dsimp only at hSw); go_simp; (try with_reducible rfl))
        try simp only [Act.put, List.setIfInBounds_toArray, List.set_cons_zero, List.set_cons_succ]
        refine take_w (i := 11) (d := some 88) (v := ?_) rfl (by kernel_rfl) (by kernel_rfl) (by kernel_rfl) (fun _ _ _ h => h) rfl (by rfl) ?_ (by assumption) ?_
        rotate_left
        · (intro w hSw; (try dsimp only at hSw); go_simp; (try with_reducible rfl))
        try simp only [Act.put, List.setIfInBounds_toArray, List.set_cons_zero, List.set_cons_succ]
        refine call_w (i := 12) rfl (by kernel_rfl) (by rfl) (fun K hK => ?_)
        go_simp
        go_at_call 10
        refine (CFa.out w6.drew (HQ0.out.trans (HQ6.out.trans (Q.refl w6).drew))).mono ?_
        rintro e w7 ⟨rfl, q7⟩
        have p7 : Hid (Q w6 w7) := Lib.hid ((Q.refl w6).drew.trans q7)
        clear q7
        refine hK.out _ _ ?_ (fun hHeld => ?_)
        · exact ALP.out _ (p7.out)
        clear hK K
        try simp only [Act.put, List.setIfInBounds_toArray, List.set_cons_zero, List.set_cons_succ]
        refine take_w (i := 13) (d := some 90) (v := ?_) rfl (by kernel_rfl) (by kernel_rfl) (by kernel_rfl) (fun _ _ _ h => h) rfl (by rfl) ?_ (by assumption) ?_
        rotate_left
        · (intro w hSw; (try dsimp only at hSw); go_simp; (try with_reducible rfl))
        try simp only [Act.put, List.setIfInBounds_toArray, List.set_cons_zero, List.set_cons_succ]
        refine take_w (i := 14) (d := some 91) (v := ?_) rfl (by kernel_rfl) (by kernel_rfl) (by kernel_rfl) (fun _ _ _ h => h) rfl (by rfl) ?_ (by assumption) ?_
        rotate_left
        · (intro w hSw; (try dsimp only at hSw); go_simp; (try with_reducible rfl))
        try simp only [Act.put, List.setIfInBounds_toArray, List.set_cons_zero, List.set_cons_succ]
        refine take_w (i := 15) (d := some 92) (v := ?_) rfl (by kernel_rfl) (by kernel_rfl) (by kernel_rfl) (fun _ _ _ h => h) rfl (by rfl) ?_ (by assumption) ?_
        rotate_left
        · (intro w hSw; (try dsimp only at hSw); go_simp; (try with_reducible rfl))
        try simp only [Act.put, List.setIfInBounds_toArray, List.set_cons_zero, List.set_cons_succ]
        refine take_w (i := 16) (d := some 93) (v := ?_) rfl (by kernel_rfl) (by kernel_rfl) (by kernel_rfl) (fun _ _ _ h => h) rfl (by rfl) ?_ (by assumption) ?_
        rotate_left
        · (intro w hSw; (try dsimp only at hSw); go_simp; (try with_reducible rfl))
        try simp only [Act.put, List.setIfInBounds_toArray, List.set_cons_zero, List.set_cons_succ]
        refine take_w (i := 17) (d := some 94) (v := ?_) rfl (by kernel_rfl) (by kernel_rfl) (by kernel_rfl) (fun _ _ _ h => h) rfl (by rfl) ?_ (by assumption) ?_
        rotate_left
        · (intro w hSw; (try dsimp only at hSw); go_simp; (try with_reducible rfl))
        try simp only [Act.put, List.setIfInBounds_toArray, List.set_cons_zero, List.set_cons_succ]
        refine take_w (i := 18) (d := some 95) (v := ?_) rfl (by kernel_rfl) (by kernel_rfl) (by kernel_rfl) (fun _ _ _ h => h) rfl (by rfl) ?_ (by assumption) ?_
        rotate_left
        · (intro w hSw; (try dsimp only at hSw); go_simp; (try with_reducible rfl))
        try simp only [Act.put, List.setIfInBounds_toArray, List.set_cons_zero, List.set_cons_succ]
        refine take_w (i := 19) (d := some 96) (v := ?_) rfl (by kernel_rfl) (by kernel_rfl) (by kernel_rfl) (fun _ _ _ h => h) rfl (by rfl) ?_ (by assumption) ?_
        rotate_left
        · (intro w hSw; (try dsimp only at hSw); go_simp; (try with_reducible rfl))
        try simp only [Act.put, List.setIfInBounds_toArray, List.set_cons_zero, List.set_cons_succ]
        refine take_w (i := 20) (d := some 97) (v := ?_) rfl (by kernel_rfl) (by kernel_rfl) (by kernel_rfl) (fun _ _ _ h => h) rfl (by rfl) ?_ (by assumption) ?_
        rotate_left
        · (intro w hSw; (try dsimp only at hSw); go_simp; (try with_reducible rfl))
        try simp only [Act.put, List.setIfInBounds_toArray, List.set_cons_zero, List.set_cons_succ]
        refine take_w (i := 21) (d := some 98) (v := ?_) rfl (by kernel_rfl) (by kernel_rfl) (by kernel_rfl) (fun _ _ _ h => h) rfl (by rfl) ?_ (by assumption) ?_
        rotate_left
        · (intro w hSw; (try dsimp only at hSw); go_simp; (try with_reducible rfl))
        try simp only [Act.put, List.setIfInBounds_toArray, List.set_cons_zero, List.set_cons_succ]
        refine take_w (i := 22) (d := some 99) (v := ?_) rfl (by kernel_rfl) (by kernel_rfl) (by kernel_rfl) (fun _ _ _ h => h) rfl (by rfl) ?_ (by assumption) ?_
        rotate_left
        · (intro w hSw; (try dsimp only at hSw); go_simp; (try with_reducible rfl))
        try simp only [Act.put, List.setIfInBounds_toArray, List.set_cons_zero, List.set_cons_succ]
        refine take_w (i := 23) (d := some 100) (v := ?_) rfl (by kernel_rfl) (by kernel_rfl) (by kernel_rfl) (fun _ _ _ h => h) rfl (by rfl) ?_ (by assumption) ?_
        rotate_left
        · (intro w hSw; (try dsimp only at hSw); go_simp; (try with_reducible rfl))
        try simp only [Act.put, List.setIfInBounds_toArray, List.set_cons_zero, List.set_cons_succ]
        refine take_w (i := 24) (d := some 101) (v := ?_) rfl (by kernel_rfl) (by kernel_rfl) (by kernel_rfl) (fun _ _ _ h => h) rfl (by rfl) ?_ (by assumption) ?_
        rotate_left
        · (intro w hSw; (try dsimp only at hSw); go_simp; (try with_reducible rfl))
        try simp only [Act.put, List.setIfInBounds_toArray, List.set_cons_zero, List.set_cons_succ]
        refine call_w (i := 25) rfl (by kernel_rfl) (by rfl) (fun K hK => ?_)
        go_simp
        go_at_call 10
        refine (CFb.out w7 (HQ0.out.trans (HQ6.out.trans p7.out))).mono ?_
        rintro e w8 ⟨rfl, q8⟩
        have p8 : Hid (Q w6 w8) := Lib.hid (p7.out.trans q8)
        clear q8
        refine hK.out _ _ ?_ (fun hHeld => ?_)
        · exact ALP.out _ (p8.out)
        clear hK K
        try simp only [Act.put, List.setIfInBounds_toArray, List.set_cons_zero, List.set_cons_succ]
        refine take_w (i := 26) (d := some 103) (v := ?_) rfl (by kernel_rfl) (by kernel_rfl) (by kernel_rfl) (fun _ _ _ h => h) rfl (by rfl) ?_ (by assumption) ?_
        rotate_left
        · (intro w hSw; (try dsimp only at hSw); go_simp; (try with_reducible rfl))
        try simp only [Act.put, List.setIfInBounds_toArray, List.set_cons_zero, List.set_cons_succ]
        refine take_w (i := 27) (d := some 104) (v := ?_) rfl (by kernel_rfl) (by kernel_rfl) (by kernel_rfl) (fun _ _ _ h => h) rfl (by rfl) ?_ (by assumption) ?_
        rotate_left
        · (intro w hSw; (try dsimp only at hSw); go_simp; (try with_reducible rfl))
        try simp only [Act.put, List.setIfInBounds_toArray, List.set_cons_zero, List.set_cons_succ]
        refine take_w (i := 28) (d := some 105) (v := ?_) rfl (by kernel_rfl) (by kernel_rfl) (by kernel_rfl) (fun _ _ _ h => h) rfl (by rfl) ?_ (by assumption) ?_
        rotate_left
        · (intro w hSw; (try dsimp only at hSw); go_simp; (try with_reducible rfl))
        try simp only [Act.put, List.setIfInBounds_toArray, List.set_cons_zero, List.set_cons_succ]
        refine take_w (i := 29) (d := some 106) (v := ?_) rfl (by kernel_rfl) (by kernel_rfl) (by kernel_rfl) (fun _ _ _ h => h) rfl (by rfl) ?_ (by assumption) ?_
        rotate_left
        · (intro w hSw; (try dsimp only at hSw); go_simp; (try with_reducible rfl))
        try simp only [Act.put, List.setIfInBounds_toArray, List.set_cons_zero, List.set_cons_succ]
        refine take_w (i := 30) (d := some 107) (v := ?_) rfl (by kernel_rfl) (by kernel_rfl) (by kernel_rfl) (fun _ _ _ h => h) rfl (by rfl) ?_ (by assumption) ?_
        rotate_left
        · (intro w hSw; (try dsimp only at hSw); go_simp; (try with_reducible rfl))
        try simp only [Act.put, List.setIfInBounds_toArray, List.set_cons_zero, List.set_cons_succ]
        refine call_w (i := 31) rfl (by kernel_rfl) (by rfl) (fun K hK => ?_)
        go_simp
        go_at_call 11
        refine (Hs.refInts_any (some pad) Aq _ cp _ cq PL PL w8 rfl rfl (ints13 (HRp.out.q (HQ56.out.trans p8.out))) (ints13 (HRq.out.q p8.out)) (by have := HPl.out;unfold maxLen;omega)).mono ?_
        rintro e w9 ⟨rfl, dd, rfl⟩
        rw [(Hs.eqL_iff PL PL).2 rfl]
        have p9 : Hid (Q w6 (w8.drewN dd)) := Lib.hid (p8.out.drewN dd)
        refine hK.out _ _ ?_ (fun hHeld => ?_)
        · exact ALP.out _ (p9.out)
        clear hK K
        try simp only [Act.put, List.setIfInBounds_toArray, List.set_cons_zero, List.set_cons_succ]
        refine take_w (i := 32) (d := some 109) (v := ?_) rfl (by kernel_rfl) (by kernel_rfl) (by kernel_rfl) (fun _ _ _ h => h) rfl (by rfl) ?_ (by assumption) ?_
        rotate_left
        · (intro w hSw; (try dsimp only at hSw); go_simp; (try with_reducible rfl))
        try simp only [Act.put, List.setIfInBounds_toArray, List.set_cons_zero, List.set_cons_succ]
        refine take_w (i := 33) (d := some 110) (v := ?_) rfl (by kernel_rfl) (by kernel_rfl) (by kernel_rfl) (fun _ _ _ h => h) rfl (by rfl) ?_ (by assumption) ?_
        rotate_left
        · (intro w hSw; (try dsimp only at hSw); go_simp; (try with_reducible rfl))
        try simp only [Act.put, List.setIfInBounds_toArray, List.set_cons_zero, List.set_cons_succ]
        refine wpAnyH_done (by kernel_rfl) ?_ _
        clear d1 d1n ew0 j0 j1
        generalize w8.drewN dd = w9 at *
        have hl40 : PL.length ≤ 40 := HPl.out
        go_wp2_with fail
        go_loopw [13, 14, 15, 16, 17] (fun iv _ _ _ _ wr => ∃ i : Nat, 1 ≤ i ∧ i ≤ PL.length ∧ iv = .int .i64 i ∧ Hid (Q w6 wr)) (fun iv _ _ _ _ _ => PL.length - (intOf iv).toNat)
        case atStart => exact ⟨1, Nat.le_refl _, by omega, rfl, Lib.hid p9.out⟩
        case round =>
          obtain ⟨i, hi1, hil, rfl, HQr⟩ := hrel
          by_cases hlt : i < PL.length
          · have d0 : decide ((i : Int) < (PL.length : Int)) = true := decide_eq_true (by omega)
            have d0n : decide (i < PL.length) = true := decide_eq_true hlt
            obtain ⟨u, hu1, hu2, hu3, hu4⟩ := Hk6.out i (by have := Hk1.out; omega)
            obtain ⟨x, hx, hx1, hx2⟩ := hu4 (by omega)
            obtain ⟨j, hj⟩ : ∃ j, i = j + 1 := ⟨i - 1, by omega⟩
            have hx1' : PL[j]? = some (x : Int) := by rw [← hx1]; congr 1; omega
            have ewi : IntKind.i64.wrap ((i : Int) - 1) = (j : Int) := by rw [IntWalk.i64_in _ (by omega)]; omega
            have ALX : Hid (∀ U', Q wr U' → U'.cell? ⟨W.heap.size, 0, none⟩ = some (.slice A ks.length ca) ∧ U'.cell? ⟨W.heap.size, 1, none⟩ = some (.slice S sl.length d) ∧ U'.cell? ⟨V.heap.size, 0, none⟩ = some (.slice F R.length cr) ∧ U'.cell? ⟨V.heap.size, 1, none⟩ = some (.slice Av c.V.length k1) ∧ U'.cell? ⟨V.heap.size, 2, none⟩ = some (.slice D c.N.length k2) ∧ U'.cell? ⟨V.heap.size, 3, none⟩ = some (.slice E c.M.length k3) ∧ U'.cell? ⟨V.heap.size, 4, none⟩ = some (.slice Pa P.length kp) ∧ U'.cell? ⟨V.heap.size, 5, none⟩ = some (.slice Ta T.length kt) ∧ U'.cell? (pad.add j) = some (.int .i64 (x : Int))) := fun U' q => by
              obtain ⟨s0, s1, s2, s3, s4, s5, s6, s7⟩ := ALL.out U' (HQ6.out.trans (HQr.out.trans q))
              exact ⟨s0, s1, s2, s3, s4, s5, s6, s7, HPC.out j _ hx1' U' (HQr.out.trans q)⟩
            have Hu1 := Lib.hid hu1
            have Hu3 := Lib.hid hu3
            have Hx2 := Lib.hid hx2
            have Hi1 := Lib.hid hi1
            have Hlt := Lib.hid hlt
            have j3 : (0 : Int) ≤ (j : Int) := Int.natCast_nonneg _
            have j4 : (j : Int) < (PL.length : Int) := by omega
            have j5 : (0 : Int) ≤ (i : Int) := Int.natCast_nonneg _
            have j6 : (i : Int) < (PL.length : Int) := by omega
            clear hu1 hu3 hu4 hx1 hx2 hx1' hj hil
            go_upto_region 20 with fail
            refine wp_region_held_drew (S := fun U' => U'.cell? ⟨W.heap.size, 0, none⟩ = some (.slice A ks.length ca) ∧ U'.cell? ⟨W.heap.size, 1, none⟩ = some (.slice S sl.length d) ∧ U'.cell? ⟨V.heap.size, 0, none⟩ = some (.slice F R.length cr) ∧ U'.cell? ⟨V.heap.size, 1, none⟩ = some (.slice Av c.V.length k1) ∧ U'.cell? ⟨V.heap.size, 2, none⟩ = some (.slice D c.N.length k2) ∧ U'.cell? ⟨V.heap.size, 3, none⟩ = some (.slice E c.M.length k3) ∧ U'.cell? ⟨V.heap.size, 4, none⟩ = some (.slice Pa P.length kp) ∧ U'.cell? ⟨V.heap.size, 5, none⟩ = some (.slice Ta T.length kt) ∧ U'.cell? (pad.add j) = some (.int .i64 (x : Int))) (by kernel_rfl) ?_ (fun hHeld => ?_)
            · exact ALX.out _ (Q.refl wr).drew
            refine take_w (i := 0) (d := some 117) (v := ?_) rfl (by kernel_rfl) (by kernel_rfl) (by kernel_rfl) (fun _ _ _ h => h) rfl (by rfl) ?_ (by assumption) ?_
            rotate_left
            · (intro w hSw; (try dsimp only at hSw); go_simp; (try with_reducible rfl))
            try simp only [Act.put, List.setIfInBounds_toArray, List.set_cons_zero, List.set_cons_succ]
            refine take_w (i := 1) (d := some 118) (v := ?_) rfl (by kernel_rfl) (by kernel_rfl) (by kernel_rfl) (fun _ _ _ h => h) rfl (by rfl) ?_ (by assumption) ?_
            rotate_left
            · (intro w hSw; (try dsimp only at hSw); go_simp; (try with_reducible rfl))
            try simp only [Act.put, List.setIfInBounds_toArray, List.set_cons_zero, List.set_cons_succ]
            refine take_w (i := 2) (d := some 119) (v := ?_) rfl (by kernel_rfl) (by kernel_rfl) (by kernel_rfl) (fun _ _ _ h => h) rfl (by rfl) ?_ (by assumption) ?_
            rotate_left
            · (intro w hSw; (try dsimp only at hSw); go_simp; (try with_reducible rfl))
            try simp only [Act.put, List.setIfInBounds_toArray, List.set_cons_zero, List.set_cons_succ]
            refine take_w (i := 3) (d := some 120) (v := ?_) rfl (by kernel_rfl) (by kernel_rfl) (by kernel_rfl) (fun _ _ _ h => h) rfl (by rfl) ?_ (by assumption) ?_
            rotate_left
            · (intro w hSw; (try dsimp only at hSw); go_simp; (try with_reducible rfl))
            try simp only [Act.put, List.setIfInBounds_toArray, List.set_cons_zero, List.set_cons_succ]
            refine take_w (i := 4) (d := some 121) (v := ?_) rfl (by kernel_rfl) (by kernel_rfl) (by kernel_rfl) (fun _ _ _ h => h) rfl (by rfl) ?_ (by assumption) ?_
            rotate_left
            · (intro w hSw; (try dsimp only at hSw); go_simp; (try with_reducible rfl))
            try simp only [Act.put, List.setIfInBounds_toArray, List.set_cons_zero, List.set_cons_succ]
            refine take_w (i := 5) (d := some 122) (v := ?_) rfl (by kernel_rfl) (by kernel_rfl) (by kernel_rfl) (fun _ _ _ h => h) rfl (by rfl) ?_ (by assumption) ?_
            rotate_left
            · (intro w hSw; (try dsimp only at hSw); go_simp; (try with_reducible rfl))
            try simp only [Act.put, List.setIfInBounds_toArray, List.set_cons_zero, List.set_cons_succ]
            refine take_w (i := 6) (d := some 123) (v := ?_) rfl (by kernel_rfl) (by kernel_rfl) (by kernel_rfl) (fun _ _ _ h => h) rfl (by rfl) ?_ (by assumption) ?_
            rotate_left
            · (intro w hSw; (try dsimp only at hSw); go_simp; (try with_reducible rfl))
            try simp only [Act.put, List.setIfInBounds_toArray, List.set_cons_zero, List.set_cons_succ]
            refine call_w (i := 7) rfl (by kernel_rfl) (by rfl) (fun K hK => ?_)
            go_simp
            go_at_call 12
            refine (CNX.out x wr.drew hx (HQ0.out.trans ((HQ6.out.trans HQr.out).trans (Q.refl wr).drew))).mono ?_
            rintro e w10 ⟨An, cn, rfl, -, hRn, q10⟩
            have HRn := Lib.hid hRn
            have p10 : Hid (Q wr w10) := Lib.hid ((Q.refl wr).drew.trans q10)
            clear q10 hRn
            refine hK.out _ _ ?_ (fun hHeld => ?_)
            · exact ALX.out _ p10.out
            clear hK K
            try simp only [Act.put, List.setIfInBounds_toArray, List.set_cons_zero, List.set_cons_succ]
            refine take_w (i := 8) (d := some 14) (v := ?_) rfl (by kernel_rfl) (by kernel_rfl) (by kernel_rfl) (fun _ _ _ h => h) rfl (by rfl) ?_ (by assumption) ?_
            rotate_left
            · (intro w hSw; (try dsimp only at hSw); go_simp; (try with_reducible rfl))
            try simp only [Act.put, List.setIfInBounds_toArray, List.set_cons_zero, List.set_cons_succ]
            refine wpAnyH_done (by kernel_rfl) ?_ _
            clear d0 d0n ewi j3 j4
            obtain ⟨NL, hNL⟩ : ∃ NL, NL = nextL ks c.V P T (fst c.V x) := ⟨_, rfl⟩
            have HNl : Hid (NL.length ≤ 40) := by rw [hNL]; exact Nat.le_trans (next_len ks c.V P T _) Hv40.out
            have HRn2 : Hid (Tr.Rds w10 w10.heap.size An (Tr.cellsI NL)) := by rw [hNL]; exact HRn.out
            have HMem : Hid ((u : Int) ∈ NL) := by rw [hNL]; exact Hx2.out
            rw [← hNL]
            clear HRn Hx2 hNL
            have HQ10 : Hid (Q w6 w10) := Lib.hid (HQr.out.trans p10.out)
            clear ALX HQr
            have hn40 : NL.length ≤ 40 := HNl.out
            go_wp2_with fail
            go_loopw [15, 16] (fun fd kv wr2 => ∃ k : Nat, k ≤ NL.length ∧ kv = .int .i64 k ∧ fd = .bool (decide ((u : Int) ∈ NL.take k)) ∧ Hid (Q w10 wr2)) (fun _ kv _ => NL.length - (intOf kv).toNat)
            case atStart => exact ⟨0, Nat.zero_le _, rfl, by simp, Lib.hid (Q.refl _)⟩
            case round =>
              obtain ⟨k, hkl, rfl, rfl, HQr2⟩ := hrel
              by_cases hlt2 : k < NL.length
              · obtain ⟨nad, hna, nb, r0⟩ := HRn2.out.int_at hlt2
                obtain ⟨z, hz⟩ : ∃ z, z = NL[k] := ⟨_, rfl⟩
                rw [← hz] at r0
                have HT : Hid (decide ((u : Int) ∈ NL.take (k + 1)) = (decide ((u : Int) ∈ NL.take k) || (z == (u : Int)))) := by
                  unfold Hid
                  rw [List.take_succ_eq_append_getElem hlt2, ← hz]
                  by_cases h1 : (u : Int) ∈ NL.take k
                  · simp [h1]
                  · by_cases h2 : z = (u : Int)
                    · simp [h2]
                    · have h3 : ¬ (u : Int) = z := fun h => h2 h.symm
                      simp [h1, h2, h3]
                have ALN : Hid (∀ U', Q wr U' → U'.cell? (pad.add i) = some (.int .i64 (u : Int)) ∧ U'.cell? (nad.add k) = some (.int .i64 z)) := fun U' q => ⟨HPC.out i _ Hu1.out U' (HQ10.out.trans (HQr2.out.trans q)), ((HQr2.out.trans q).cell (by rw [Tr.add_block]; exact nb)).trans r0⟩
                have d2 : decide ((k : Int) < (NL.length : Int)) = true := decide_eq_true (by omega)
                have d2n : decide (k < NL.length) = true := decide_eq_true hlt2
                have j7 : (0 : Int) ≤ (k : Int) := Int.natCast_nonneg _
                have j8 : (k : Int) < (NL.length : Int) := by omega
                have Hlt2 := Lib.hid hlt2
                subst hna
                clear hkl nb r0 hz
                generalize hbv : decide ((u : Int) ∈ NL.take k) = bv at *
                have Hbv := Lib.hid hbv
                clear hbv
                cases bv
                · go_upto_region 25 with fail
                  refine wp_region_held_drew (S := fun U' => U'.cell? (pad.add i) = some (.int .i64 (u : Int)) ∧ U'.cell? (nad.add k) = some (.int .i64 z)) (by kernel_rfl) ?_ (fun hHeld => ?_)
                  · exact ALN.out _ (Q.refl wr).drew
                  refine take_w (i := 0) (d := some 131) (v := ?_) rfl (by kernel_rfl) (by kernel_rfl) (by kernel_rfl) (fun _ _ _ h => h) rfl (by rfl) ?_ (by assumption) ?_
                  rotate_left
                  · (intro w hSw; (try dsimp only at hSw); go_simp; (try with_reducible rfl))
                  try simp only [Act.put, List.setIfInBounds_toArray, List.set_cons_zero, List.set_cons_succ]
                  refine take_w (i := 1) (d := some 132) (v := ?_) rfl (by kernel_rfl) (by kernel_rfl) (by kernel_rfl) (fun _ _ _ h => h) rfl (by rfl) ?_ (by assumption) ?_
                  rotate_left
                  · (intro w hSw; (try dsimp only at hSw); go_simp; (try with_reducible rfl))
                  try simp only [Act.put, List.setIfInBounds_toArray, List.set_cons_zero, List.set_cons_succ]
                  refine take_w (i := 2) (d := some 133) (v := ?_) rfl (by kernel_rfl) (by kernel_rfl) (by kernel_rfl) (fun _ _ _ h => h) rfl (by rfl) ?_ (by assumption) ?_
                  rotate_left
                  · (intro w hSw; (try dsimp only at hSw); go_simp; (try with_reducible rfl))
                  try simp only [Act.put, List.setIfInBounds_toArray, List.set_cons_zero, List.set_cons_succ]
                  refine take_w (i := 3) (d := some 134) (v := ?_) rfl (by kernel_rfl) (by kernel_rfl) (by kernel_rfl) (fun _ _ _ h => h) rfl (by rfl) ?_ (by assumption) ?_
                  rotate_left
                  · (intro w hSw; (try dsimp only at hSw); go_simp; (try with_reducible rfl))
                  try simp only [Act.put, List.setIfInBounds_toArray, List.set_cons_zero, List.set_cons_succ]
                  refine take_w (i := 4) (d := some 135) (v := ?_) rfl (by kernel_rfl) (by kernel_rfl) (by kernel_rfl) (fun _ _ _ h => h) rfl (by rfl) ?_ (by assumption) ?_
                  rotate_left
                  · (intro w hSw; (try dsimp only at hSw); go_simp; (try with_reducible rfl))
                  try simp only [Act.put, List.setIfInBounds_toArray, List.set_cons_zero, List.set_cons_succ]
                  refine take_w (i := 5) (d := some 136) (v := ?_) rfl (by kernel_rfl) (by kernel_rfl) (by kernel_rfl) (fun _ _ _ h => h) rfl (by rfl) ?_ (by assumption) ?_
                  rotate_left
                  · (intro w hSw; (try dsimp only at hSw); go_simp; (try with_reducible rfl))
                  try simp only [Act.put, List.setIfInBounds_toArray, List.set_cons_zero, List.set_cons_succ]
                  refine take_w (i := 6) (d := some 137) (v := ?_) rfl (by kernel_rfl) (by kernel_rfl) (by kernel_rfl) (fun _ _ _ h => h) rfl (by rfl) ?_ (by assumption) ?_
                  rotate_left
                  · (intro w hSw; (try dsimp only at hSw); go_simp; (try with_reducible rfl))
                  try simp only [Act.put, List.setIfInBounds_toArray, List.set_cons_zero, List.set_cons_succ]
                  refine take_w (i := 7) (d := some 138) (v := ?_) rfl (by kernel_rfl) (by kernel_rfl) (by kernel_rfl) (fun _ _ _ h => h) rfl (by rfl) ?_ (by assumption) ?_
                  rotate_left
                  · (intro w hSw; (try dsimp only at hSw); go_simp; (try with_reducible rfl))
                  try simp only [Act.put, List.setIfInBounds_toArray, List.set_cons_zero, List.set_cons_succ]
                  refine take_w (i := 8) (d := some 139) (v := ?_) rfl (by kernel_rfl) (by kernel_rfl) (by kernel_rfl) (fun _ _ _ h => h) rfl (by rfl) ?_ (by assumption) ?_
                  rotate_left
                  · (intro w hSw; (try dsimp only at hSw); go_simp; (try with_reducible rfl))
                  try simp only [Act.put, List.setIfInBounds_toArray, List.set_cons_zero, List.set_cons_succ]
                  refine take_w (i := 9) (d := some 140) (v := ?_) rfl (by kernel_rfl) (by kernel_rfl) (by kernel_rfl) (fun _ _ _ h => h) rfl (by rfl) ?_ (by assumption) ?_
                  rotate_left
                  · (intro w hSw; (try dsimp only at hSw); go_simp; (try with_reducible rfl))
                  try simp only [Act.put, List.setIfInBounds_toArray, List.set_cons_zero, List.set_cons_succ]
                  refine take_w (i := 10) (d := some 141) (v := ?_) rfl (by kernel_rfl) (by kernel_rfl) (by kernel_rfl) (fun _ _ _ h => h) rfl (by rfl) ?_ (by assumption) ?_
                  rotate_left
                  · (intro w hSw; (try dsimp only at hSw); go_simp; (try with_reducible rfl))
                  try simp only [Act.put, List.setIfInBounds_toArray, List.set_cons_zero, List.set_cons_succ]
                  refine take_w (i := 11) (d := some 142) (v := ?_) rfl (by kernel_rfl) (by kernel_rfl) (by kernel_rfl) (fun _ _ _ h => h) rfl (by rfl) ?_ (by assumption) ?_
                  rotate_left
                  · (intro w hSw; (try dsimp only at hSw); go_simp; (try with_reducible rfl))
                  try simp only [Act.put, List.setIfInBounds_toArray, List.set_cons_zero, List.set_cons_succ]
                  refine take_w (i := 12) (d := some 15) (v := ?_) rfl (by kernel_rfl) (by kernel_rfl) (by kernel_rfl) (fun _ _ _ h => h) rfl (by rfl) ?_ (by assumption) ?_
                  rotate_left
                  · (intro w hSw; (try dsimp only at hSw); go_simp; (try with_reducible rfl))
                  try simp only [Act.put, List.setIfInBounds_toArray, List.set_cons_zero, List.set_cons_succ]
                  refine wpAnyH_done (by kernel_rfl) ?_ _
                  have hn40 : NL.length ≤ 40 := HNl.out
                  have hn41 : k < NL.length := Hlt2.out
                  go_wp2_with fail
                  go_roundw
                  case rel => exact ⟨k + 1, by have := Hlt2.out; omega, by have := Hlt2.out; have := HNl.out; go_num, by rw [HT.out]; simp, Lib.hid HQr2.out.drew⟩
                  case measure => have := Hlt2.out; have := HNl.out; simp [intOf]; omega
                · go_upto_region 25 with fail
                  refine wp_region_held_drew (S := fun U' => U'.cell? (pad.add i) = some (.int .i64 (u : Int)) ∧ U'.cell? (nad.add k) = some (.int .i64 z)) (by kernel_rfl) ?_ (fun hHeld => ?_)
                  · exact ALN.out _ (Q.refl wr).drew
                  refine take_w (i := 0) (d := some 131) (v := ?_) rfl (by kernel_rfl) (by kernel_rfl) (by kernel_rfl) (fun _ _ _ h => h) rfl (by rfl) ?_ (by assumption) ?_
                  rotate_left
                  · (intro w hSw; (try dsimp only at hSw); go_simp; (try with_reducible rfl))
                  try simp only [Act.put, List.setIfInBounds_toArray, List.set_cons_zero, List.set_cons_succ]
                  refine take_w (i := 1) (d := some 132) (v := ?_) rfl (by kernel_rfl) (by kernel_rfl) (by kernel_rfl) (fun _ _ _ h => h) rfl (by rfl) ?_ (by assumption) ?_
                  rotate_left
                  · (intro w hSw; (try dsimp only at hSw); go_simp; (try with_reducible rfl))
                  try simp only [Act.put, List.setIfInBounds_toArray, List.set_cons_zero, List.set_cons_succ]
                  refine take_u (i := 2) (d := some 133) rfl (by kernel_rfl) (by kernel_rfl) (by kernel_rfl) (fun _ _ _ h => h) rfl (by rfl) (by assumption) ?_
                  try simp only [Act.put, List.setIfInBounds_toArray, List.set_cons_zero, List.set_cons_succ]
                  refine take_u (i := 3) (d := some 134) rfl (by kernel_rfl) (by kernel_rfl) (by kernel_rfl) (fun _ _ _ h => h) rfl (by rfl) (by assumption) ?_
                  try simp only [Act.put, List.setIfInBounds_toArray, List.set_cons_zero, List.set_cons_succ]
                  refine take_u (i := 4) (d := some 135) rfl (by kernel_rfl) (by kernel_rfl) (by kernel_rfl) (fun _ _ _ h => h) rfl (by rfl) (by assumption) ?_
                  try simp only [Act.put, List.setIfInBounds_toArray, List.set_cons_zero, List.set_cons_succ]
                  refine take_u (i := 5) (d := some 136) rfl (by kernel_rfl) (by kernel_rfl) (by kernel_rfl) (fun _ _ _ h => h) rfl (by rfl) (by assumption) ?_
                  try simp only [Act.put, List.setIfInBounds_toArray, List.set_cons_zero, List.set_cons_succ]
                  refine take_u (i := 6) (d := some 137) rfl (by kernel_rfl) (by kernel_rfl) (by kernel_rfl) (fun _ _ _ h => h) rfl (by rfl) (by assumption) ?_
                  try simp only [Act.put, List.setIfInBounds_toArray, List.set_cons_zero, List.set_cons_succ]
                  refine take_u (i := 7) (d := some 138) rfl (by kernel_rfl) (by kernel_rfl) (by kernel_rfl) (fun _ _ _ h => h) rfl (by rfl) (by assumption) ?_
                  try simp only [Act.put, List.setIfInBounds_toArray, List.set_cons_zero, List.set_cons_succ]
                  refine take_u (i := 8) (d := some 139) rfl (by kernel_rfl) (by kernel_rfl) (by kernel_rfl) (fun _ _ _ h => h) rfl (by rfl) (by assumption) ?_
                  try simp only [Act.put, List.setIfInBounds_toArray, List.set_cons_zero, List.set_cons_succ]
                  refine take_u (i := 9) (d := some 140) rfl (by kernel_rfl) (by kernel_rfl) (by kernel_rfl) (fun _ _ _ h => h) rfl (by rfl) (by assumption) ?_
                  try simp only [Act.put, List.setIfInBounds_toArray, List.set_cons_zero, List.set_cons_succ]
                  refine take_u (i := 10) (d := some 141) rfl (by kernel_rfl) (by kernel_rfl) (by kernel_rfl) (fun _ _ _ h => h) rfl (by rfl) (by assumption) ?_
                  try simp only [Act.put, List.setIfInBounds_toArray, List.set_cons_zero, List.set_cons_succ]
                  refine take_w (i := 11) (d := some 142) (v := ?_) rfl (by kernel_rfl) (by kernel_rfl) (by kernel_rfl) (fun _ _ _ h => h) rfl (by rfl) ?_ (by assumption) ?_
                  rotate_left
                  · (intro w hSw; (try dsimp only at hSw); go_simp; (try with_reducible rfl))
                  try simp only [Act.put, List.setIfInBounds_toArray, List.set_cons_zero, List.set_cons_succ]
                  refine take_w (i := 12) (d := some 15) (v := ?_) rfl (by kernel_rfl) (by kernel_rfl) (by kernel_rfl) (fun _ _ _ h => h) rfl (by rfl) ?_ (by assumption) ?_
                  rotate_left
                  · (intro w hSw; (try dsimp only at hSw); go_simp; (try with_reducible rfl))
                  try simp only [Act.put, List.setIfInBounds_toArray, List.set_cons_zero, List.set_cons_succ]
                  refine wpAnyH_done (by kernel_rfl) ?_ _
                  have hn40 : NL.length ≤ 40 := HNl.out
                  have hn41 : k < NL.length := Hlt2.out
                  go_wp2_with fail
                  go_roundw
                  case rel => exact ⟨k + 1, by have := Hlt2.out; omega, by have := Hlt2.out; have := HNl.out; go_num, by rw [HT.out]; simp, Lib.hid HQr2.out.drew⟩
                  case measure => have := Hlt2.out; have := HNl.out; simp [intOf]; omega
              · obtain rfl : k = NL.length := by omega
                have hin : decide ((u : Int) ∈ NL.take NL.length) = true := decide_eq_true (by rw [List.take_length]; exact HMem.out)
                rw [hin]
                have d2 : decide ((NL.length : Int) < (NL.length : Int)) = false := decide_eq_false (by omega)
                have d2n : decide (NL.length < NL.length) = false := decide_eq_false (by omega)
                have HQ11 : Hid (Q w6 wr) := Lib.hid (HQ10.out.trans HQr2.out)
                clear hin hkl hlt2 HQr2 HMem HRn2 HNl
                go_wp2_with fail
                go_loopw [15, 17] (fun fd kv wr2 => ∃ k : Nat, k ≤ i ∧ kv = .int .i64 k ∧ fd = .bool true ∧ Hid (Q w6 wr2)) (fun _ kv _ => i - (intOf kv).toNat)
                case atStart => exact ⟨0, Nat.zero_le _, rfl, rfl, HQ11⟩
                case round =>
                  obtain ⟨k, hkl, rfl, rfl, HQr3⟩ := hrel
                  by_cases hlt3 : k < i
                  · have hkP : k < PL.length := by have := Hlt.out; omega
                    obtain ⟨z, hz⟩ : ∃ z, z = PL[k] := ⟨_, rfl⟩
                    have hz2 : PL[k]? = some z := by rw [List.getElem?_eq_getElem hkP, hz]
                    have hne : (z != (u : Int)) = true := bne_iff_ne.2 (fun h => Hu3.out k hlt3 (by rw [hz2, h]))
                    have ALN : Hid (∀ U', Q wr U' → U'.cell? (pad.add i) = some (.int .i64 (u : Int)) ∧ U'.cell? (pad.add k) = some (.int .i64 z)) := fun U' q => ⟨HPC.out i _ Hu1.out U' (HQr3.out.trans q), HPC.out k _ hz2 U' (HQr3.out.trans q)⟩
                    have d3 : decide ((k : Int) < (i : Int)) = true := decide_eq_true (by omega)
                    have d3n : decide (k < i) = true := decide_eq_true hlt3
                    have j9 : (0 : Int) ≤ (k : Int) := Int.natCast_nonneg _
                    have ja : (k : Int) < (PL.length : Int) := by omega
                    have Hlt3 := Lib.hid hlt3
                    clear hkl hz hz2
                    go_upto_region 29 with fail
                    refine wp_region_held_drew (S := fun U' => U'.cell? (pad.add i) = some (.int .i64 (u : Int)) ∧ U'.cell? (pad.add k) = some (.int .i64 z)) (by kernel_rfl) ?_ (fun hHeld => ?_)
                    · exact ALN.out _ (Q.refl wr).drew
                    refine take_w (i := 0) (d := some 148) (v := ?_) rfl (by kernel_rfl) (by kernel_rfl) (by kernel_rfl) (fun _ _ _ h => h) rfl (by rfl) ?_ (by assumption) ?_
                    rotate_left
                    · (intro w hSw; (try dsimp only at hSw); go_simp; (try with_reducible rfl))
                    try simp only [Act.put, List.setIfInBounds_toArray, List.set_cons_zero, List.set_cons_succ]
                    refine take_w (i := 1) (d := some 149) (v := ?_) rfl (by kernel_rfl) (by kernel_rfl) (by kernel_rfl) (fun _ _ _ h => h) rfl (by rfl) ?_ (by assumption) ?_
                    rotate_left
                    · (intro w hSw; (try dsimp only at hSw); go_simp; (try with_reducible rfl))
                    try simp only [Act.put, List.setIfInBounds_toArray, List.set_cons_zero, List.set_cons_succ]
                    refine take_w (i := 2) (d := some 150) (v := ?_) rfl (by kernel_rfl) (by kernel_rfl) (by kernel_rfl) (fun _ _ _ h => h) rfl (by rfl) ?_ (by assumption) ?_
                    rotate_left
                    · (intro w hSw; (try dsimp only at hSw); go_simp; (try with_reducible rfl))
                    try simp only [Act.put, List.setIfInBounds_toArray, List.set_cons_zero, List.set_cons_succ]
                    refine take_w (i := 3) (d := some 151) (v := ?_) rfl (by kernel_rfl) (by kernel_rfl) (by kernel_rfl) (fun _ _ _ h => h) rfl (by rfl) ?_ (by assumption) ?_
                    rotate_left
                    · (intro w hSw; (try dsimp only at hSw); go_simp; (try with_reducible rfl))
                    try simp only [Act.put, List.setIfInBounds_toArray, List.set_cons_zero, List.set_cons_succ]
                    refine take_w (i := 4) (d := some 152) (v := ?_) rfl (by kernel_rfl) (by kernel_rfl) (by kernel_rfl) (fun _ _ _ h => h) rfl (by rfl) ?_ (by assumption) ?_
                    rotate_left
                    · (intro w hSw; (try dsimp only at hSw); go_simp; (try with_reducible rfl))
                    try simp only [Act.put, List.setIfInBounds_toArray, List.set_cons_zero, List.set_cons_succ]
                    refine take_w (i := 5) (d := some 153) (v := ?_) rfl (by kernel_rfl) (by kernel_rfl) (by kernel_rfl) (fun _ _ _ h => h) rfl (by rfl) ?_ (by assumption) ?_
                    rotate_left
                    · (intro w hSw; (try dsimp only at hSw); go_simp; (try with_reducible rfl))
                    try simp only [Act.put, List.setIfInBounds_toArray, List.set_cons_zero, List.set_cons_succ]
                    refine take_w (i := 6) (d := some 154) (v := ?_) rfl (by kernel_rfl) (by kernel_rfl) (by kernel_rfl) (fun _ _ _ h => h) rfl (by rfl) ?_ (by assumption) ?_
                    rotate_left
                    · (intro w hSw; (try dsimp only at hSw); go_simp; (try with_reducible rfl))
                    try simp only [Act.put, List.setIfInBounds_toArray, List.set_cons_zero, List.set_cons_succ]
                    refine take_w (i := 7) (d := some 155) (v := ?_) rfl (by kernel_rfl) (by kernel_rfl) (by kernel_rfl) (fun _ _ _ h => h) rfl (by rfl) ?_ (by assumption) ?_
                    rotate_left
                    · (intro w hSw; (try dsimp only at hSw); go_simp; (try with_reducible rfl))
                    try simp only [Act.put, List.setIfInBounds_toArray, List.set_cons_zero, List.set_cons_succ]
                    refine take_w (i := 8) (d := some 156) (v := ?_) rfl (by kernel_rfl) (by kernel_rfl) (by kernel_rfl) (fun _ _ _ h => h) rfl (by rfl) ?_ (by assumption) ?_
                    rotate_left
                    · (intro w hSw; (try dsimp only at hSw); go_simp; (try with_reducible rfl))
                    try simp only [Act.put, List.setIfInBounds_toArray, List.set_cons_zero, List.set_cons_succ]
                    refine take_w (i := 9) (d := some 157) (v := ?_) rfl (by kernel_rfl) (by kernel_rfl) (by kernel_rfl) (fun _ _ _ h => h) rfl (by rfl) ?_ (by assumption) ?_
                    rotate_left
                    · (intro w hSw; (try dsimp only at hSw); go_simp; (try with_reducible rfl))
                    try simp only [Act.put, List.setIfInBounds_toArray, List.set_cons_zero, List.set_cons_succ]
                    refine take_w (i := 10) (d := some 158) (v := ?_) rfl (by kernel_rfl) (by kernel_rfl) (by kernel_rfl) (fun _ _ _ h => h) rfl (by rfl) ?_ (by assumption) ?_
                    rotate_left
                    · (intro w hSw; (try dsimp only at hSw); go_simp; (try with_reducible rfl))
                    try simp only [Act.put, List.setIfInBounds_toArray, List.set_cons_zero, List.set_cons_succ]
                    refine take_w (i := 11) (d := some 159) (v := ?_) rfl (by kernel_rfl) (by kernel_rfl) (by kernel_rfl) (fun _ _ _ h => h) rfl (by rfl) ?_ (by assumption) ?_
                    rotate_left
                    · (intro w hSw; (try dsimp only at hSw); go_simp; (try with_reducible rfl))
                    try simp only [Act.put, List.setIfInBounds_toArray, List.set_cons_zero, List.set_cons_succ]
                    refine take_w (i := 12) (d := some 15) (v := ?_) rfl (by kernel_rfl) (by kernel_rfl) (by kernel_rfl) (fun _ _ _ h => h) rfl (by rfl) ?_ (by assumption) ?_
                    rotate_left
                    · (intro w hSw; (try dsimp only at hSw); go_simp; (try with_reducible rfl))
                    try simp only [Act.put, List.setIfInBounds_toArray, List.set_cons_zero, List.set_cons_succ]
                    refine wpAnyH_done (by kernel_rfl) ?_ _
                    have hl40 : PL.length ≤ 40 := HPl.out
                    have hl41 : k < i := Hlt3.out
                    have hl42 : i < PL.length := Hlt.out
                    go_wp2_with fail
                    go_roundw
                    case rel => exact ⟨k + 1, by have := Hlt3.out; omega, by have := Hlt3.out; have := Hlt.out; have := HPl.out; go_num, by simp, Lib.hid HQr3.out.drew⟩
                    case measure => have := Hlt3.out; have := Hlt.out; have := HPl.out; simp [intOf]; omega
                  · obtain rfl : k = i := by omega
                    have d3 : decide ((k : Int) < (k : Int)) = false := decide_eq_false (by omega)
                    have d3n : decide (k < k) = false := decide_eq_false (by omega)
                    have hl40 : PL.length ≤ 40 := HPl.out
                    have hl42 : k < PL.length := Hlt.out
                    go_wp2_with fail
                    go_roundw
                    case rel => exact ⟨k + 1, by omega, by omega, by have := Hlt.out; have := HPl.out; go_num, HQr3⟩
                    case measure => have := Hlt.out; have := HPl.out; simp [intOf]; omega
          · obtain rfl : i = PL.length := by omega
            have d0 : decide ((PL.length : Int) < (PL.length : Int)) = false := decide_eq_false (by omega)
            have d0n : decide (PL.length < PL.length) = false := decide_eq_false (by omega)
            go_wp2_with fail
            go_ret
            exact ⟨by first | rfl | simp, HQ0.out.trans (HQ6.out.trans HQr.out)⟩

set_option maxRecDepth 100000 in
theorem lifted (os : Os) (started : os.Started) (H : Type) (enc : TypeId × Value → H) :
    ReturnsInHanded {} Try.checked os 3 .any (Rows.cycWaysSpec.pre6 enc Try.prog Try.f3 Rows.cycWaysRow.domain false) (Rows.cycWaysSpec.post enc Try.prog Try.f3 false true false false) := by
  refine returnsInHanded_of_change_sized (C := Try.checked) own started (by kernel_rfl) Try.func3
    (ChangeSpec.witness6 (enc := enc) (C := Try.checked) false ⟨#[], #[.agg #[.slice none 0 0, .slice none 0 0, .slice none 0 0, .slice none 0 0, .slice none 0 0, .slice none 0 0, .slice none 0 0, .slice none 0 0, .slice none 0 0, .int .i64 0, .int .i64 0, .int .u8 0]], []⟩ 8 (by kernel_rfl) (by kernel_rfl) (by kernel_rfl) (by kernel_rfl)) ?_
  intro W base args ds gs before hval0 hW hcnd hsz0 _
  have hval : ∀ (j : Nat) t v, Try.f3.params[j]? = some t → args[j]? = some v → Value.okWide Try.prog W .any base t v := hval0
  have hW' := hW
  obtain ⟨p, q, hA0, hV, rfl, hfz, hnd⟩ := hW
  have hA : DataW.TrodAll enc Try.prog W 0 (fun _ => true) true Try.f3.params.toList args.toList ds p := hA0
  rw [Try.params3] at hA hval
  obtain ⟨v0, vs0, d0, ds0, p0, q0, hargs, rfl, rfl, h0, r0⟩ := trodAll_cons hA
  obtain ⟨rfl, rfl, rfl⟩ := trodAll_nil r0
  obtain rfl : args = #[v0] := by cases args; simp_all
  obtain ⟨rfl, rfl⟩ := trodVars_none hV
  have z0 : ∀ n ∈ d0.weights Try.prog 33, n ≤ reachBytes := fun n hn => by
    have := List.all_eq_true.1 hsz0 n (DataW.weights_mem_each (j := 0) (t := 33) (d := d0) (by rw [Try.params3]; rfl) rfl n hn)
    simpa using this
  obtain ⟨L0, A, S, F, Av, D, E, Pa, Ta, nl, cl, n, ca, m, d, cr, k1, k2, k3, kp, kt, l, ks, sl, R, c, P, T, x, y, sd, rfl, hnl, hr, hll, hsz, hn, hm, hk, hSi, hl, hs, hsl, hG⟩ := open_CycWaysIn (hval 0 33 v0 rfl rfl) h0 z0
  clear hA0 hval0
  refine (walk L0 A S F Av D E Pa Ta nl cl n ca m d cr k1 k2 k3 kp kt l ks sl R c P T x y sd.toNat _ hnl hr hll hsz hn hm hk hSi hl hs hsl hG).mono fun e W' ⟨he, hg⟩ => ?_
  subst he
  exact ⟨_, rfl, post_law laid (by rw [Try.params3]; decide +kernel) rfl rfl (by kernel_rfl) Try.underlying4 hW' hg⟩

/-- THE STATEMENT -/
theorem proved : Rows.CycWaysSaid :=
  OpenClaim.holds_of_wide 3 Try.f3 rfl rfl rfl rfl rfl rfl rfl ⟨rfl, rfl, rfl, rfl, rfl⟩ rfl rfl rfl rfl rfl (by kernel_rfl) Try.func3 (by kernel_rfl)
    (of_decide_eq_true (by kernel_rfl)) (by unfold Func.isWrapper; first | (rw [if_pos (by decide +kernel)]; kernel_rfl) | (rw [if_neg (by decide +kernel)]; exact ⟨rfl, rfl⟩))
    (fun os started H enc _ => lifted os started H enc)
end Go.Proofs.Yteccgjhnifdcfaa.cycWays
