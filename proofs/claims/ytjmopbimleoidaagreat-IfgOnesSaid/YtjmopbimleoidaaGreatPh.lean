/-
  What the proofs lean on, part 8 of 17.
-/
import Derived.Test.YtjmopbimleoidaaGreatPb
import Derived.Test.YtjmopbimleoidaaGreatPc
import Derived.Test.YtjmopbimleoidaaGreatPd
import Derived.Test.YtjmopbimleoidaaGreatPf
import Derived.Test.YtjmopbimleoidaaGreatPg
import Derived.Laws.Cover1
import Derived.Outline
import Derived.Laws.Append
import Derived.Laws.MakeOwn
import Derived.Laws.CopyOwn
import Derived.Laws.OwnMore
import Derived.OwnWalk
import Derived.Deep.RegionHeld
import Derived.Deep.Slices
import Derived.Deep.Fields
import Derived.ChangeSame
import Derived.SizedLaws
import Derived.OpenShut
import Derived.Lib.SmallJoins
namespace Go.Proofs.YtjmopbimleoidaaGreat.Ig
open Go.RowKit Kit Tr Uf
open Go.Proofs.YtjmopbimleoidaaGreat.Hs (Keys Ints BoxT layI fewB refFew_any few_sum mem_len)
open Go.Proofs.YtjmopbimleoidaaGreat.Tm (storeB refRight3_any)
def of12B (l : List Sg.Sig) (ks : List (List Int)) (sl : List Int) (R : List Int) (c : Cells) (P T : List (List Int)) : Bool :=
  decide (l.length ≤ 64) && Sg.rightB l && fewB ks sl.length && storeB l ks sl && few12B R c P T && rightG R ks c P T && allV ks c.V.length

set_option maxRecDepth 100000 in
set_option maxHeartbeats 8000000 in
theorem of12_any (L A S F Av D E Pa Ta : Option Addr) (nl cl n ca m d nr cr n1 k1 n2 k2 n3 k3 np kp nt kt : Nat) (l : List Sg.Sig) (ks : List (List Int)) (sl : List Int) (R : List Int) (c : Cells) (P T : List (List Int)) (w : World) (hnl : nl = l.length) (hr : Sg.Row w w.heap.size L l) (hn : n = ks.length) (hm : m = sl.length) (hk : Keys w w.heap.size A ks) (hS : Ints w w.heap.size S sl)
    (hll : l.length ≤ maxLen) (hsz : Sg.Sized l) (hl : ks.length ≤ 1152921504606846976) (hs : ∀ k ∈ ks, k.length ≤ 1152921504606846976) (hsl : sl.length ≤ 1152921504606846976)
    (hnr : nr = R.length) (h1 : n1 = c.V.length) (h2 : n2 = c.N.length) (h3 : n3 = c.M.length) (hp : np = P.length) (ht : nt = T.length)
    (hR : Tr.Rds w w.heap.size F (cellsI R)) (h : Rd w c Av k1 D k2 E k3) (hP : Keys w w.heap.size Pa P) (hT : Keys w w.heap.size Ta T) (lR : R.length ≤ 1152921504606846976) (lV : c.V.length ≤ 1152921504606846976) (lN : c.N.length ≤ 1152921504606846976) (lM : c.M.length ≤ 1152921504606846976) (lP : P.length ≤ 1152921504606846976) (lT : T.length ≤ 1152921504606846976)
    (sP : ∀ k ∈ P, k.length ≤ 1152921504606846976) (sT : ∀ k ∈ T, k.length ≤ 1152921504606846976) :
    Calls Tryz.prog 9 #[.slice L nl cl, .agg #[.slice A n ca, .slice S m d], .agg #[.slice F nr cr, .slice Av n1 k1, .slice D n2 k2, .slice E n3 k3, .slice Pa np kp, .slice Ta nt kt]] w fun e w' => e = .returned (.bool (of12B l ks sl R c P T)) ∧ Q w w' := by
  subst hnl hn hm hnr h1 h2 h3 hp ht
  have q0 := ((Q.refl w).alloc (Obj.cells #[.slice A ks.length ca, .slice S sl.length d] 26)).alloc (Obj.cells #[.slice F R.length cr, .slice Av c.V.length k1, .slice D c.N.length k2, .slice E c.M.length k3, .slice Pa P.length kp, .slice Ta T.length kt] 31)
  have HBa := Lib.hid ((BoxT.new w (.slice A ks.length ca) (.slice S sl.length d) 26).q ((Q.refl _).alloc (Obj.cells #[.slice F R.length cr, .slice Av c.V.length k1, .slice D c.N.length k2, .slice E c.M.length k3, .slice Pa P.length kp, .slice Ta T.length kt] 31)))
  have X := Box6.new (w.alloc (Obj.cells #[.slice A ks.length ca, .slice S sl.length d] 26)) (.slice F R.length cr) (.slice Av c.V.length k1) (.slice D c.N.length k2) (.slice E c.M.length k3) (.slice Pa P.length kp) (.slice Ta T.length kt) 31
  rw [World.size_alloc] at X
  have HBg := Lib.hid X
  have HQ0 := Lib.hid q0
  have HD : Hid (of12B l ks sl R c P T = (decide (l.length ≤ 64) && Sg.rightB l && fewB ks sl.length && storeB l ks sl && few12B R c P T && rightG R ks c P T && allV ks c.V.length)) := rfl
  have C2 : Hid (∀ U, Q w U → Calls Tryz.prog 32 #[.slice L l.length cl] U fun e w' => e = .returned (.bool (Sg.rightB l)) ∧ Q U w') := fun U q => (Sg.refRight_any _ _ _ l U rfl ((hr.q (Nat.le_refl _) q).more q.size) hll hsz).mono (by rintro e w' ⟨rfl, rfl⟩; exact ⟨rfl, Q.refl _⟩)
  have C3 : Hid (∀ U, Q w U → Calls Tryz.prog 33 #[.agg #[.slice A ks.length ca, .slice S sl.length d]] U fun e w' => e = .returned (.bool (fewB ks sl.length)) ∧ Q U w') := fun U q => refFew_any _ _ _ _ _ _ ks U rfl ((hk.q (Nat.le_refl _) q).more q.size) hl hs hsl
  have C4 : Hid (fewB ks sl.length = true → ∀ U, Q w U → Calls Tryz.prog 34 #[.slice L l.length cl, .agg #[.slice A ks.length ca, .slice S sl.length d]] U fun e w' => e = .returned (.bool (storeB l ks sl)) ∧ Q U w') := fun hf U q => by
    have hsum := few_sum hf
    exact refRight3_any _ _ _ _ _ _ _ _ _ l ks sl U rfl ((hr.q (Nat.le_refl _) q).more q.size) rfl rfl ((hk.q (Nat.le_refl _) q).more q.size) ((hS.q (Nat.le_refl _) q).more q.size) (fun k hk => by have := mem_len hk; unfold maxLen; omega) (by omega) (by unfold maxLen; omega)
  have C5 : Hid (∀ U, Q w U → Calls Tryz.prog 35 #[.agg #[.slice F R.length cr, .slice Av c.V.length k1, .slice D c.N.length k2, .slice E c.M.length k3, .slice Pa P.length kp, .slice Ta T.length kt]] U fun e w' => e = .returned (.bool (few12B R c P T)) ∧ Q U w') := fun U q => refFew12_any R c P T F Av D E Pa Ta _ cr _ k1 _ k2 _ k3 _ kp _ kt U rfl rfl rfl rfl rfl rfl ((hP.q (Nat.le_refl _) q).more q.size) ((hT.q (Nat.le_refl _) q).more q.size) lR lV lN lM lP lT sP sT
  have C6 : Hid (few12B R c P T = true → ∀ U, Q w U → Calls Tryz.prog 15 #[.agg #[.slice A ks.length ca, .slice S sl.length d], .agg #[.slice F R.length cr, .slice Av c.V.length k1, .slice D c.N.length k2, .slice E c.M.length k3, .slice Pa P.length kp, .slice Ta T.length kt]] U fun e w' => e = .returned (.bool (rightG R ks c P T)) ∧ Q U w') := fun hf U q => by
    obtain ⟨f1, f2, f3, f4, f5, f6⟩ := few12_ok hf
    exact refRightG_any R c A S F Av D E Pa Ta _ ca _ d _ cr _ k1 _ k2 _ k3 _ kp _ kt ks P T U rfl ((hk.q (Nat.le_refl _) q).more q.size) rfl (hR.q q) rfl rfl rfl (h.q q) ⟨by have := f2.1; omega, by have := f2.2.1; omega, by have := f2.2.2; omega⟩ rfl ((hP.q (Nat.le_refl _) q).more q.size) rfl ((hT.q (Nat.le_refl _) q).more q.size) (fun x hx => Nat.le_trans (f5 x hx) (by omega)) (fun x hx => Nat.le_trans (f6 x hx) (by omega))
  have C7 : Hid (fewB ks sl.length = true → few12B R c P T = true → ∀ U, Q w U → Calls Tryz.prog 36 #[.agg #[.slice A ks.length ca, .slice S sl.length d], .agg #[.slice F R.length cr, .slice Av c.V.length k1, .slice D c.N.length k2, .slice E c.M.length k3, .slice Pa P.length kp, .slice Ta T.length kt]] U fun e w' => e = .returned (.bool (allV ks c.V.length)) ∧ Q U w') := fun hf hg U q => by
    have hsum := few_sum hf
    obtain ⟨f1, f2, _⟩ := few12_ok hg
    exact refAllV_any A S Av _ ca _ d _ k1 (.slice F R.length cr) (.slice D c.N.length k2) (.slice E c.M.length k3) (.slice Pa P.length kp) (.slice Ta T.length kt) ks U rfl ((hk.q (Nat.le_refl _) q).more q.size) (by unfold maxLen; omega) (fun k hk => by have := mem_len hk; unfold maxLen; omega) (by have := f2.1; omega)
  clear X q0 hr hk hS hll hsz hl hs hsl hR h hP hT lR lV lN lM lP lT sP sT
  cases h0 : decide (l.length ≤ 64)
  · have HR : Hid (of12B l ks sl R c P T = false) := by unfold Hid; rw [HD.out]; simp [h0]
    have CC2 := Lib.hid (C2.out)
    have d64 : decide ((l.length : Int) ≤ 64) = false := decide_eq_false (by have := of_decide_eq_false h0; omega)
    clear CC2 C2 C3 C4 C5 C6 C7 h0 
    go_enter Tryz.func9, Tryz.ntmps9
    go_upto_region 1 with fail
    generalize (w.alloc (Obj.cells #[.slice A ks.length ca, .slice S sl.length d] 26)).alloc (Obj.cells #[.slice F R.length cr, .slice Av c.V.length k1, .slice D c.N.length k2, .slice E c.M.length k3, .slice Pa P.length kp, .slice Ta T.length kt] 31) = W0 at *
    have ALL : Hid (∀ U, Q W0 U → U.cell? ⟨w.heap.size, 0, none⟩ = some (.slice A ks.length ca) ∧ U.cell? ⟨w.heap.size, 1, none⟩ = some (.slice S sl.length d) ∧ U.cell? ⟨w.heap.size + 1, 0, none⟩ = some (.slice F R.length cr) ∧ U.cell? ⟨w.heap.size + 1, 1, none⟩ = some (.slice Av c.V.length k1) ∧ U.cell? ⟨w.heap.size + 1, 2, none⟩ = some (.slice D c.N.length k2) ∧ U.cell? ⟨w.heap.size + 1, 3, none⟩ = some (.slice E c.M.length k3) ∧ U.cell? ⟨w.heap.size + 1, 4, none⟩ = some (.slice Pa P.length kp) ∧ U.cell? ⟨w.heap.size + 1, 5, none⟩ = some (.slice Ta T.length kt)) := fun U q => by
      have h1 := HBa.out.q q
      have h2 := HBg.out.q q
      exact ⟨h1.c0, h1.c1, h2.c0, h2.c1, h2.c2, h2.c3, h2.c4, h2.c5⟩
    obtain ⟨s0, s1, s2, s3, s4, s5, s6, s7⟩ := ALL.out W0 (Q.refl _)
    have HQ1 : Hid (Q W0 W0) := Lib.hid (Q.refl _)
    go_wp2_with fail
    go_ret
    exact ⟨by rw [HR.out]; rfl, HQ0.out.trans HQ1.out⟩
  · cases h1 : Sg.rightB l
    · have HR : Hid (of12B l ks sl R c P T = false) := by unfold Hid; rw [HD.out]; simp [h0, h1]
      have CC2 := Lib.hid (C2.out)
      have D1 := Lib.hid C2.out
      unfold Hid at D1
      rw [h1] at D1
      have E1 := Lib.hid D1
      have d64 : decide ((l.length : Int) ≤ 64) = true := decide_eq_true (by have := of_decide_eq_true h0; omega)
      clear CC2 C2 C3 C4 C5 C6 C7 h0 h1 D1
      go_enter Tryz.func9, Tryz.ntmps9
      go_upto_region 1 with fail
      generalize (w.alloc (Obj.cells #[.slice A ks.length ca, .slice S sl.length d] 26)).alloc (Obj.cells #[.slice F R.length cr, .slice Av c.V.length k1, .slice D c.N.length k2, .slice E c.M.length k3, .slice Pa P.length kp, .slice Ta T.length kt] 31) = W0 at *
      have ALL : Hid (∀ U, Q W0 U → U.cell? ⟨w.heap.size, 0, none⟩ = some (.slice A ks.length ca) ∧ U.cell? ⟨w.heap.size, 1, none⟩ = some (.slice S sl.length d) ∧ U.cell? ⟨w.heap.size + 1, 0, none⟩ = some (.slice F R.length cr) ∧ U.cell? ⟨w.heap.size + 1, 1, none⟩ = some (.slice Av c.V.length k1) ∧ U.cell? ⟨w.heap.size + 1, 2, none⟩ = some (.slice D c.N.length k2) ∧ U.cell? ⟨w.heap.size + 1, 3, none⟩ = some (.slice E c.M.length k3) ∧ U.cell? ⟨w.heap.size + 1, 4, none⟩ = some (.slice Pa P.length kp) ∧ U.cell? ⟨w.heap.size + 1, 5, none⟩ = some (.slice Ta T.length kt)) := fun U q => by
        have h1 := HBa.out.q q
        have h2 := HBg.out.q q
        exact ⟨h1.c0, h1.c1, h2.c0, h2.c1, h2.c2, h2.c3, h2.c4, h2.c5⟩
      obtain ⟨s0, s1, s2, s3, s4, s5, s6, s7⟩ := ALL.out W0 (Q.refl _)
      have HQ1 : Hid (Q W0 W0) := Lib.hid (Q.refl _)
      go_wp2_with (first
        | (go_at_call 32; refine (E1.out W0 (HQ0.out.trans HQ1.out)).mono ?_; rintro e w2 ⟨rfl, q1⟩; have HQ2 := Lib.hid (HQ1.out.trans q1); clear s0 s1 s2 s3 s4 s5 s6 s7 q1; obtain ⟨s0, s1, s2, s3, s4, s5, s6, s7⟩ := ALL.out w2 HQ2.out)
        | fail)
      go_ret
      exact ⟨by rw [HR.out]; rfl, HQ0.out.trans HQ2.out⟩
    · cases h2 : fewB ks sl.length
      · have HR : Hid (of12B l ks sl R c P T = false) := by unfold Hid; rw [HD.out]; simp [h0, h1, h2]
        have CC2 := Lib.hid (C2.out)
        have D1 := Lib.hid C2.out
        unfold Hid at D1
        rw [h1] at D1
        have E1 := Lib.hid D1
        have D2 := Lib.hid C3.out
        unfold Hid at D2
        rw [h2] at D2
        have E2 := Lib.hid D2
        have d64 : decide ((l.length : Int) ≤ 64) = true := decide_eq_true (by have := of_decide_eq_true h0; omega)
        clear CC2 C2 C3 C4 C5 C6 C7 h0 h1 h2 D1 D2
        go_enter Tryz.func9, Tryz.ntmps9
        go_upto_region 1 with fail
        generalize (w.alloc (Obj.cells #[.slice A ks.length ca, .slice S sl.length d] 26)).alloc (Obj.cells #[.slice F R.length cr, .slice Av c.V.length k1, .slice D c.N.length k2, .slice E c.M.length k3, .slice Pa P.length kp, .slice Ta T.length kt] 31) = W0 at *
        have ALL : Hid (∀ U, Q W0 U → U.cell? ⟨w.heap.size, 0, none⟩ = some (.slice A ks.length ca) ∧ U.cell? ⟨w.heap.size, 1, none⟩ = some (.slice S sl.length d) ∧ U.cell? ⟨w.heap.size + 1, 0, none⟩ = some (.slice F R.length cr) ∧ U.cell? ⟨w.heap.size + 1, 1, none⟩ = some (.slice Av c.V.length k1) ∧ U.cell? ⟨w.heap.size + 1, 2, none⟩ = some (.slice D c.N.length k2) ∧ U.cell? ⟨w.heap.size + 1, 3, none⟩ = some (.slice E c.M.length k3) ∧ U.cell? ⟨w.heap.size + 1, 4, none⟩ = some (.slice Pa P.length kp) ∧ U.cell? ⟨w.heap.size + 1, 5, none⟩ = some (.slice Ta T.length kt)) := fun U q => by
          have h1 := HBa.out.q q
          have h2 := HBg.out.q q
          exact ⟨h1.c0, h1.c1, h2.c0, h2.c1, h2.c2, h2.c3, h2.c4, h2.c5⟩
        obtain ⟨s0, s1, s2, s3, s4, s5, s6, s7⟩ := ALL.out W0 (Q.refl _)
        have HQ1 : Hid (Q W0 W0) := Lib.hid (Q.refl _)
        go_wp2_with (first
          | (go_at_call 32; refine (E1.out W0 (HQ0.out.trans HQ1.out)).mono ?_; rintro e w2 ⟨rfl, q1⟩; have HQ2 := Lib.hid (HQ1.out.trans q1); clear s0 s1 s2 s3 s4 s5 s6 s7 q1; obtain ⟨s0, s1, s2, s3, s4, s5, s6, s7⟩ := ALL.out w2 HQ2.out)
          | (go_at_call 33; refine (E2.out w2 (HQ0.out.trans HQ2.out)).mono ?_; rintro e w3 ⟨rfl, q2⟩; have HQ3 := Lib.hid (HQ2.out.trans q2); clear s0 s1 s2 s3 s4 s5 s6 s7 q2; obtain ⟨s0, s1, s2, s3, s4, s5, s6, s7⟩ := ALL.out w3 HQ3.out)
          | fail)
        go_ret
        exact ⟨by rw [HR.out]; rfl, HQ0.out.trans HQ3.out⟩
      · cases h3 : storeB l ks sl
        · have HR : Hid (of12B l ks sl R c P T = false) := by unfold Hid; rw [HD.out]; simp [h0, h1, h2, h3]
          have CC2 := Lib.hid (C2.out)
          have D1 := Lib.hid C2.out
          unfold Hid at D1
          rw [h1] at D1
          have E1 := Lib.hid D1
          have D2 := Lib.hid C3.out
          unfold Hid at D2
          rw [h2] at D2
          have E2 := Lib.hid D2
          have D3 := Lib.hid (C4.out h2)
          unfold Hid at D3
          rw [h3] at D3
          have E3 := Lib.hid D3
          have d64 : decide ((l.length : Int) ≤ 64) = true := decide_eq_true (by have := of_decide_eq_true h0; omega)
          clear CC2 C2 C3 C4 C5 C6 C7 h0 h1 h2 h3 D1 D2 D3
          go_enter Tryz.func9, Tryz.ntmps9
          go_upto_region 1 with fail
          generalize (w.alloc (Obj.cells #[.slice A ks.length ca, .slice S sl.length d] 26)).alloc (Obj.cells #[.slice F R.length cr, .slice Av c.V.length k1, .slice D c.N.length k2, .slice E c.M.length k3, .slice Pa P.length kp, .slice Ta T.length kt] 31) = W0 at *
          have ALL : Hid (∀ U, Q W0 U → U.cell? ⟨w.heap.size, 0, none⟩ = some (.slice A ks.length ca) ∧ U.cell? ⟨w.heap.size, 1, none⟩ = some (.slice S sl.length d) ∧ U.cell? ⟨w.heap.size + 1, 0, none⟩ = some (.slice F R.length cr) ∧ U.cell? ⟨w.heap.size + 1, 1, none⟩ = some (.slice Av c.V.length k1) ∧ U.cell? ⟨w.heap.size + 1, 2, none⟩ = some (.slice D c.N.length k2) ∧ U.cell? ⟨w.heap.size + 1, 3, none⟩ = some (.slice E c.M.length k3) ∧ U.cell? ⟨w.heap.size + 1, 4, none⟩ = some (.slice Pa P.length kp) ∧ U.cell? ⟨w.heap.size + 1, 5, none⟩ = some (.slice Ta T.length kt)) := fun U q => by
            have h1 := HBa.out.q q
            have h2 := HBg.out.q q
            exact ⟨h1.c0, h1.c1, h2.c0, h2.c1, h2.c2, h2.c3, h2.c4, h2.c5⟩
          obtain ⟨s0, s1, s2, s3, s4, s5, s6, s7⟩ := ALL.out W0 (Q.refl _)
          have HQ1 : Hid (Q W0 W0) := Lib.hid (Q.refl _)
          go_wp2_with (first
            | (go_at_call 32; refine (E1.out W0 (HQ0.out.trans HQ1.out)).mono ?_; rintro e w2 ⟨rfl, q1⟩; have HQ2 := Lib.hid (HQ1.out.trans q1); clear s0 s1 s2 s3 s4 s5 s6 s7 q1; obtain ⟨s0, s1, s2, s3, s4, s5, s6, s7⟩ := ALL.out w2 HQ2.out)
            | (go_at_call 33; refine (E2.out w2 (HQ0.out.trans HQ2.out)).mono ?_; rintro e w3 ⟨rfl, q2⟩; have HQ3 := Lib.hid (HQ2.out.trans q2); clear s0 s1 s2 s3 s4 s5 s6 s7 q2; obtain ⟨s0, s1, s2, s3, s4, s5, s6, s7⟩ := ALL.out w3 HQ3.out)
            | (go_at_call 34; refine (E3.out w3 (HQ0.out.trans HQ3.out)).mono ?_; rintro e w4 ⟨rfl, q3⟩; have HQ4 := Lib.hid (HQ3.out.trans q3); clear s0 s1 s2 s3 s4 s5 s6 s7 q3; obtain ⟨s0, s1, s2, s3, s4, s5, s6, s7⟩ := ALL.out w4 HQ4.out)
            | fail)
          go_ret
          exact ⟨by rw [HR.out]; rfl, HQ0.out.trans HQ4.out⟩
        · cases h4 : few12B R c P T
          · have HR : Hid (of12B l ks sl R c P T = false) := by unfold Hid; rw [HD.out]; simp [h0, h1, h2, h3, h4]
            have CC2 := Lib.hid (C2.out)
            have D1 := Lib.hid C2.out
            unfold Hid at D1
            rw [h1] at D1
            have E1 := Lib.hid D1
            have D2 := Lib.hid C3.out
            unfold Hid at D2
            rw [h2] at D2
            have E2 := Lib.hid D2
            have D3 := Lib.hid (C4.out h2)
            unfold Hid at D3
            rw [h3] at D3
            have E3 := Lib.hid D3
            have D4 := Lib.hid C5.out
            unfold Hid at D4
            rw [h4] at D4
            have E4 := Lib.hid D4
            have d64 : decide ((l.length : Int) ≤ 64) = true := decide_eq_true (by have := of_decide_eq_true h0; omega)
            clear CC2 C2 C3 C4 C5 C6 C7 h0 h1 h2 h3 h4 D1 D2 D3 D4
            go_enter Tryz.func9, Tryz.ntmps9
            go_upto_region 1 with fail
            generalize (w.alloc (Obj.cells #[.slice A ks.length ca, .slice S sl.length d] 26)).alloc (Obj.cells #[.slice F R.length cr, .slice Av c.V.length k1, .slice D c.N.length k2, .slice E c.M.length k3, .slice Pa P.length kp, .slice Ta T.length kt] 31) = W0 at *
            have ALL : Hid (∀ U, Q W0 U → U.cell? ⟨w.heap.size, 0, none⟩ = some (.slice A ks.length ca) ∧ U.cell? ⟨w.heap.size, 1, none⟩ = some (.slice S sl.length d) ∧ U.cell? ⟨w.heap.size + 1, 0, none⟩ = some (.slice F R.length cr) ∧ U.cell? ⟨w.heap.size + 1, 1, none⟩ = some (.slice Av c.V.length k1) ∧ U.cell? ⟨w.heap.size + 1, 2, none⟩ = some (.slice D c.N.length k2) ∧ U.cell? ⟨w.heap.size + 1, 3, none⟩ = some (.slice E c.M.length k3) ∧ U.cell? ⟨w.heap.size + 1, 4, none⟩ = some (.slice Pa P.length kp) ∧ U.cell? ⟨w.heap.size + 1, 5, none⟩ = some (.slice Ta T.length kt)) := fun U q => by
              have h1 := HBa.out.q q
              have h2 := HBg.out.q q
              exact ⟨h1.c0, h1.c1, h2.c0, h2.c1, h2.c2, h2.c3, h2.c4, h2.c5⟩
            obtain ⟨s0, s1, s2, s3, s4, s5, s6, s7⟩ := ALL.out W0 (Q.refl _)
            have HQ1 : Hid (Q W0 W0) := Lib.hid (Q.refl _)
            go_wp2_with (first
              | (go_at_call 32; refine (E1.out W0 (HQ0.out.trans HQ1.out)).mono ?_; rintro e w2 ⟨rfl, q1⟩; have HQ2 := Lib.hid (HQ1.out.trans q1); clear s0 s1 s2 s3 s4 s5 s6 s7 q1; obtain ⟨s0, s1, s2, s3, s4, s5, s6, s7⟩ := ALL.out w2 HQ2.out)
              | (go_at_call 33; refine (E2.out w2 (HQ0.out.trans HQ2.out)).mono ?_; rintro e w3 ⟨rfl, q2⟩; have HQ3 := Lib.hid (HQ2.out.trans q2); clear s0 s1 s2 s3 s4 s5 s6 s7 q2; obtain ⟨s0, s1, s2, s3, s4, s5, s6, s7⟩ := ALL.out w3 HQ3.out)
              | (go_at_call 34; refine (E3.out w3 (HQ0.out.trans HQ3.out)).mono ?_; rintro e w4 ⟨rfl, q3⟩; have HQ4 := Lib.hid (HQ3.out.trans q3); clear s0 s1 s2 s3 s4 s5 s6 s7 q3; obtain ⟨s0, s1, s2, s3, s4, s5, s6, s7⟩ := ALL.out w4 HQ4.out)
              | (go_at_call 35; refine (E4.out w4 (HQ0.out.trans HQ4.out)).mono ?_; rintro e w5 ⟨rfl, q4⟩; have HQ5 := Lib.hid (HQ4.out.trans q4); clear s0 s1 s2 s3 s4 s5 s6 s7 q4; obtain ⟨s0, s1, s2, s3, s4, s5, s6, s7⟩ := ALL.out w5 HQ5.out)
              | fail)
            go_ret
            exact ⟨by rw [HR.out]; rfl, HQ0.out.trans HQ5.out⟩
          · cases h5 : rightG R ks c P T
            · have HR : Hid (of12B l ks sl R c P T = false) := by unfold Hid; rw [HD.out]; simp [h0, h1, h2, h3, h4, h5]
              have CC2 := Lib.hid (C2.out)
              have D1 := Lib.hid C2.out
              unfold Hid at D1
              rw [h1] at D1
              have E1 := Lib.hid D1
              have D2 := Lib.hid C3.out
              unfold Hid at D2
              rw [h2] at D2
              have E2 := Lib.hid D2
              have D3 := Lib.hid (C4.out h2)
              unfold Hid at D3
              rw [h3] at D3
              have E3 := Lib.hid D3
              have D4 := Lib.hid C5.out
              unfold Hid at D4
              rw [h4] at D4
              have E4 := Lib.hid D4
              have D5 := Lib.hid (C6.out h4)
              unfold Hid at D5
              rw [h5] at D5
              have E5 := Lib.hid D5
              have d64 : decide ((l.length : Int) ≤ 64) = true := decide_eq_true (by have := of_decide_eq_true h0; omega)
              clear CC2 C2 C3 C4 C5 C6 C7 h0 h1 h2 h3 h4 h5 D1 D2 D3 D4 D5
              go_enter Tryz.func9, Tryz.ntmps9
              go_upto_region 1 with fail
              generalize (w.alloc (Obj.cells #[.slice A ks.length ca, .slice S sl.length d] 26)).alloc (Obj.cells #[.slice F R.length cr, .slice Av c.V.length k1, .slice D c.N.length k2, .slice E c.M.length k3, .slice Pa P.length kp, .slice Ta T.length kt] 31) = W0 at *
              have ALL : Hid (∀ U, Q W0 U → U.cell? ⟨w.heap.size, 0, none⟩ = some (.slice A ks.length ca) ∧ U.cell? ⟨w.heap.size, 1, none⟩ = some (.slice S sl.length d) ∧ U.cell? ⟨w.heap.size + 1, 0, none⟩ = some (.slice F R.length cr) ∧ U.cell? ⟨w.heap.size + 1, 1, none⟩ = some (.slice Av c.V.length k1) ∧ U.cell? ⟨w.heap.size + 1, 2, none⟩ = some (.slice D c.N.length k2) ∧ U.cell? ⟨w.heap.size + 1, 3, none⟩ = some (.slice E c.M.length k3) ∧ U.cell? ⟨w.heap.size + 1, 4, none⟩ = some (.slice Pa P.length kp) ∧ U.cell? ⟨w.heap.size + 1, 5, none⟩ = some (.slice Ta T.length kt)) := fun U q => by
                have h1 := HBa.out.q q
                have h2 := HBg.out.q q
                exact ⟨h1.c0, h1.c1, h2.c0, h2.c1, h2.c2, h2.c3, h2.c4, h2.c5⟩
              obtain ⟨s0, s1, s2, s3, s4, s5, s6, s7⟩ := ALL.out W0 (Q.refl _)
              have HQ1 : Hid (Q W0 W0) := Lib.hid (Q.refl _)
              go_wp2_with (first
                | (go_at_call 32; refine (E1.out W0 (HQ0.out.trans HQ1.out)).mono ?_; rintro e w2 ⟨rfl, q1⟩; have HQ2 := Lib.hid (HQ1.out.trans q1); clear s0 s1 s2 s3 s4 s5 s6 s7 q1; obtain ⟨s0, s1, s2, s3, s4, s5, s6, s7⟩ := ALL.out w2 HQ2.out)
                | (go_at_call 33; refine (E2.out w2 (HQ0.out.trans HQ2.out)).mono ?_; rintro e w3 ⟨rfl, q2⟩; have HQ3 := Lib.hid (HQ2.out.trans q2); clear s0 s1 s2 s3 s4 s5 s6 s7 q2; obtain ⟨s0, s1, s2, s3, s4, s5, s6, s7⟩ := ALL.out w3 HQ3.out)
                | (go_at_call 34; refine (E3.out w3 (HQ0.out.trans HQ3.out)).mono ?_; rintro e w4 ⟨rfl, q3⟩; have HQ4 := Lib.hid (HQ3.out.trans q3); clear s0 s1 s2 s3 s4 s5 s6 s7 q3; obtain ⟨s0, s1, s2, s3, s4, s5, s6, s7⟩ := ALL.out w4 HQ4.out)
                | (go_at_call 35; refine (E4.out w4 (HQ0.out.trans HQ4.out)).mono ?_; rintro e w5 ⟨rfl, q4⟩; have HQ5 := Lib.hid (HQ4.out.trans q4); clear s0 s1 s2 s3 s4 s5 s6 s7 q4; obtain ⟨s0, s1, s2, s3, s4, s5, s6, s7⟩ := ALL.out w5 HQ5.out)
                | (go_at_call 15; refine (E5.out w5 (HQ0.out.trans HQ5.out)).mono ?_; rintro e w6 ⟨rfl, q5⟩; have HQ6 := Lib.hid (HQ5.out.trans q5); clear s0 s1 s2 s3 s4 s5 s6 s7 q5; obtain ⟨s0, s1, s2, s3, s4, s5, s6, s7⟩ := ALL.out w6 HQ6.out)
                | fail)
              go_ret
              exact ⟨by rw [HR.out]; rfl, HQ0.out.trans HQ6.out⟩
            · cases h6 : allV ks c.V.length
              · have HR : Hid (of12B l ks sl R c P T = false) := by unfold Hid; rw [HD.out]; simp [h0, h1, h2, h3, h4, h5, h6]
                have CC2 := Lib.hid (C2.out)
                have D1 := Lib.hid C2.out
                unfold Hid at D1
                rw [h1] at D1
                have E1 := Lib.hid D1
                have D2 := Lib.hid C3.out
                unfold Hid at D2
                rw [h2] at D2
                have E2 := Lib.hid D2
                have D3 := Lib.hid (C4.out h2)
                unfold Hid at D3
                rw [h3] at D3
                have E3 := Lib.hid D3
                have D4 := Lib.hid C5.out
                unfold Hid at D4
                rw [h4] at D4
                have E4 := Lib.hid D4
                have D5 := Lib.hid (C6.out h4)
                unfold Hid at D5
                rw [h5] at D5
                have E5 := Lib.hid D5
                have D6 := Lib.hid (C7.out h2 h4)
                unfold Hid at D6
                rw [h6] at D6
                have E6 := Lib.hid D6
                have d64 : decide ((l.length : Int) ≤ 64) = true := decide_eq_true (by have := of_decide_eq_true h0; omega)
                clear CC2 C2 C3 C4 C5 C6 C7 h0 h1 h2 h3 h4 h5 h6 D1 D2 D3 D4 D5 D6
                go_enter Tryz.func9, Tryz.ntmps9
                go_upto_region 1 with fail
                generalize (w.alloc (Obj.cells #[.slice A ks.length ca, .slice S sl.length d] 26)).alloc (Obj.cells #[.slice F R.length cr, .slice Av c.V.length k1, .slice D c.N.length k2, .slice E c.M.length k3, .slice Pa P.length kp, .slice Ta T.length kt] 31) = W0 at *
                have ALL : Hid (∀ U, Q W0 U → U.cell? ⟨w.heap.size, 0, none⟩ = some (.slice A ks.length ca) ∧ U.cell? ⟨w.heap.size, 1, none⟩ = some (.slice S sl.length d) ∧ U.cell? ⟨w.heap.size + 1, 0, none⟩ = some (.slice F R.length cr) ∧ U.cell? ⟨w.heap.size + 1, 1, none⟩ = some (.slice Av c.V.length k1) ∧ U.cell? ⟨w.heap.size + 1, 2, none⟩ = some (.slice D c.N.length k2) ∧ U.cell? ⟨w.heap.size + 1, 3, none⟩ = some (.slice E c.M.length k3) ∧ U.cell? ⟨w.heap.size + 1, 4, none⟩ = some (.slice Pa P.length kp) ∧ U.cell? ⟨w.heap.size + 1, 5, none⟩ = some (.slice Ta T.length kt)) := fun U q => by
                  have h1 := HBa.out.q q
                  have h2 := HBg.out.q q
                  exact ⟨h1.c0, h1.c1, h2.c0, h2.c1, h2.c2, h2.c3, h2.c4, h2.c5⟩
                obtain ⟨s0, s1, s2, s3, s4, s5, s6, s7⟩ := ALL.out W0 (Q.refl _)
                have HQ1 : Hid (Q W0 W0) := Lib.hid (Q.refl _)
                go_wp2_with (first
                  | (go_at_call 32; refine (E1.out W0 (HQ0.out.trans HQ1.out)).mono ?_; rintro e w2 ⟨rfl, q1⟩; have HQ2 := Lib.hid (HQ1.out.trans q1); clear s0 s1 s2 s3 s4 s5 s6 s7 q1; obtain ⟨s0, s1, s2, s3, s4, s5, s6, s7⟩ := ALL.out w2 HQ2.out)
                  | (go_at_call 33; refine (E2.out w2 (HQ0.out.trans HQ2.out)).mono ?_; rintro e w3 ⟨rfl, q2⟩; have HQ3 := Lib.hid (HQ2.out.trans q2); clear s0 s1 s2 s3 s4 s5 s6 s7 q2; obtain ⟨s0, s1, s2, s3, s4, s5, s6, s7⟩ := ALL.out w3 HQ3.out)
                  | (go_at_call 34; refine (E3.out w3 (HQ0.out.trans HQ3.out)).mono ?_; rintro e w4 ⟨rfl, q3⟩; have HQ4 := Lib.hid (HQ3.out.trans q3); clear s0 s1 s2 s3 s4 s5 s6 s7 q3; obtain ⟨s0, s1, s2, s3, s4, s5, s6, s7⟩ := ALL.out w4 HQ4.out)
                  | (go_at_call 35; refine (E4.out w4 (HQ0.out.trans HQ4.out)).mono ?_; rintro e w5 ⟨rfl, q4⟩; have HQ5 := Lib.hid (HQ4.out.trans q4); clear s0 s1 s2 s3 s4 s5 s6 s7 q4; obtain ⟨s0, s1, s2, s3, s4, s5, s6, s7⟩ := ALL.out w5 HQ5.out)
                  | (go_at_call 15; refine (E5.out w5 (HQ0.out.trans HQ5.out)).mono ?_; rintro e w6 ⟨rfl, q5⟩; have HQ6 := Lib.hid (HQ5.out.trans q5); clear s0 s1 s2 s3 s4 s5 s6 s7 q5; obtain ⟨s0, s1, s2, s3, s4, s5, s6, s7⟩ := ALL.out w6 HQ6.out)
                  | (go_at_call 36; refine (E6.out w6 (HQ0.out.trans HQ6.out)).mono ?_; rintro e w7 ⟨rfl, q6⟩; have HQ7 := Lib.hid (HQ6.out.trans q6); clear s0 s1 s2 s3 s4 s5 s6 s7 q6; obtain ⟨s0, s1, s2, s3, s4, s5, s6, s7⟩ := ALL.out w7 HQ7.out)
                  | fail)
                go_ret
                exact ⟨by rw [HR.out]; rfl, HQ0.out.trans HQ7.out⟩
              · have HR : Hid (of12B l ks sl R c P T = true) := by unfold Hid; rw [HD.out]; simp [h0, h1, h2, h3, h4, h5, h6]
                have CC2 := Lib.hid (C2.out)
                have D1 := Lib.hid C2.out
                unfold Hid at D1
                rw [h1] at D1
                have E1 := Lib.hid D1
                have D2 := Lib.hid C3.out
                unfold Hid at D2
                rw [h2] at D2
                have E2 := Lib.hid D2
                have D3 := Lib.hid (C4.out h2)
                unfold Hid at D3
                rw [h3] at D3
                have E3 := Lib.hid D3
                have D4 := Lib.hid C5.out
                unfold Hid at D4
                rw [h4] at D4
                have E4 := Lib.hid D4
                have D5 := Lib.hid (C6.out h4)
                unfold Hid at D5
                rw [h5] at D5
                have E5 := Lib.hid D5
                have D6 := Lib.hid (C7.out h2 h4)
                unfold Hid at D6
                rw [h6] at D6
                have E6 := Lib.hid D6
                have d64 : decide ((l.length : Int) ≤ 64) = true := decide_eq_true (by have := of_decide_eq_true h0; omega)
                clear CC2 C2 C3 C4 C5 C6 C7 h0 h1 h2 h3 h4 h5 h6 D1 D2 D3 D4 D5 D6
                go_enter Tryz.func9, Tryz.ntmps9
                go_upto_region 1 with fail
                generalize (w.alloc (Obj.cells #[.slice A ks.length ca, .slice S sl.length d] 26)).alloc (Obj.cells #[.slice F R.length cr, .slice Av c.V.length k1, .slice D c.N.length k2, .slice E c.M.length k3, .slice Pa P.length kp, .slice Ta T.length kt] 31) = W0 at *
                have ALL : Hid (∀ U, Q W0 U → U.cell? ⟨w.heap.size, 0, none⟩ = some (.slice A ks.length ca) ∧ U.cell? ⟨w.heap.size, 1, none⟩ = some (.slice S sl.length d) ∧ U.cell? ⟨w.heap.size + 1, 0, none⟩ = some (.slice F R.length cr) ∧ U.cell? ⟨w.heap.size + 1, 1, none⟩ = some (.slice Av c.V.length k1) ∧ U.cell? ⟨w.heap.size + 1, 2, none⟩ = some (.slice D c.N.length k2) ∧ U.cell? ⟨w.heap.size + 1, 3, none⟩ = some (.slice E c.M.length k3) ∧ U.cell? ⟨w.heap.size + 1, 4, none⟩ = some (.slice Pa P.length kp) ∧ U.cell? ⟨w.heap.size + 1, 5, none⟩ = some (.slice Ta T.length kt)) := fun U q => by
                  have h1 := HBa.out.q q
                  have h2 := HBg.out.q q
                  exact ⟨h1.c0, h1.c1, h2.c0, h2.c1, h2.c2, h2.c3, h2.c4, h2.c5⟩
                obtain ⟨s0, s1, s2, s3, s4, s5, s6, s7⟩ := ALL.out W0 (Q.refl _)
                have HQ1 : Hid (Q W0 W0) := Lib.hid (Q.refl _)
                go_wp2_with (first
                  | (go_at_call 32; refine (E1.out W0 (HQ0.out.trans HQ1.out)).mono ?_; rintro e w2 ⟨rfl, q1⟩; have HQ2 := Lib.hid (HQ1.out.trans q1); clear s0 s1 s2 s3 s4 s5 s6 s7 q1; obtain ⟨s0, s1, s2, s3, s4, s5, s6, s7⟩ := ALL.out w2 HQ2.out)
                  | (go_at_call 33; refine (E2.out w2 (HQ0.out.trans HQ2.out)).mono ?_; rintro e w3 ⟨rfl, q2⟩; have HQ3 := Lib.hid (HQ2.out.trans q2); clear s0 s1 s2 s3 s4 s5 s6 s7 q2; obtain ⟨s0, s1, s2, s3, s4, s5, s6, s7⟩ := ALL.out w3 HQ3.out)
                  | (go_at_call 34; refine (E3.out w3 (HQ0.out.trans HQ3.out)).mono ?_; rintro e w4 ⟨rfl, q3⟩; have HQ4 := Lib.hid (HQ3.out.trans q3); clear s0 s1 s2 s3 s4 s5 s6 s7 q3; obtain ⟨s0, s1, s2, s3, s4, s5, s6, s7⟩ := ALL.out w4 HQ4.out)
                  | (go_at_call 35; refine (E4.out w4 (HQ0.out.trans HQ4.out)).mono ?_; rintro e w5 ⟨rfl, q4⟩; have HQ5 := Lib.hid (HQ4.out.trans q4); clear s0 s1 s2 s3 s4 s5 s6 s7 q4; obtain ⟨s0, s1, s2, s3, s4, s5, s6, s7⟩ := ALL.out w5 HQ5.out)
                  | (go_at_call 15; refine (E5.out w5 (HQ0.out.trans HQ5.out)).mono ?_; rintro e w6 ⟨rfl, q5⟩; have HQ6 := Lib.hid (HQ5.out.trans q5); clear s0 s1 s2 s3 s4 s5 s6 s7 q5; obtain ⟨s0, s1, s2, s3, s4, s5, s6, s7⟩ := ALL.out w6 HQ6.out)
                  | (go_at_call 36; refine (E6.out w6 (HQ0.out.trans HQ6.out)).mono ?_; rintro e w7 ⟨rfl, q6⟩; have HQ7 := Lib.hid (HQ6.out.trans q6); clear s0 s1 s2 s3 s4 s5 s6 s7 q6; obtain ⟨s0, s1, s2, s3, s4, s5, s6, s7⟩ := ALL.out w7 HQ7.out)
                  | fail)
                go_ret
                exact ⟨by rw [HR.out]; rfl, HQ0.out.trans HQ7.out⟩
theorem of12_ok {L : List Sg.Sig} {ks : List (List Int)} {sl R : List Int} {c : Cells} {P T : List (List Int)} (h : of12B L ks sl R c P T = true) : (Sg.rightB L = true ∧ fewB ks sl.length = true ∧ storeB L ks sl = true) ∧ few12B R c P T = true ∧ rightG R ks c P T = true ∧ allV ks c.V.length = true := by
  unfold of12B at h
  simp only [Bool.and_eq_true] at h
  exact ⟨⟨h.1.1.1.1.1.2, h.1.1.1.1.2, h.1.1.1.2⟩, h.1.1.2, h.1.2, h.2⟩
end Go.Proofs.YtjmopbimleoidaaGreat.Ig

namespace Go.Proofs.YtjmopbimleoidaaGreat.Ig
open Go.RowKit Kit Tr Uf
open Go.Proofs.YtjmopbimleoidaaGreat.Hs (Keys Ints BoxT layI Dist findR_any)
open Go.Proofs.YtjmopbimleoidaaGreat.Tm (Tm termAt of_any key_any KeyPost Box4 LookPost)
set_option maxHeartbeats 400000 in
theorem place12 (a m : Int) (w : World) : Calls Tryz.prog 84 #[.int .i64 a, .int .i64 m] w fun e w' => e = .returned (.bool (decide (0 ≤ a) && decide (a < m))) ∧ w = w' := by
  by_cases h : 0 ≤ a
  · have hd : decide (0 ≤ a) = true := decide_eq_true h
    rw [hd]
    go_enter Tryz.func84, Tryz.ntmps84
    go_wp2_with fail
    go_ret
    exact ⟨rfl, rfl⟩
  · have hd : decide (0 ≤ a) = false := decide_eq_false h
    rw [hd]
    go_enter Tryz.func84, Tryz.ntmps84
    go_wp2_with fail
    go_ret
    exact ⟨rfl, rfl⟩

set_option maxRecDepth 100000 in
set_option maxHeartbeats 1000000 in
theorem there12 (m : Nat) (r b2 b3 : Value) (Av Pa Ta : Option Addr) (cv cp ct : Nat) (v : Int) (w : World) :
    Calls Tryz.prog 39 #[.agg #[r, .slice Av m cv, b2, b3, .slice Pa m cp, .slice Ta m ct], .int .i64 v] w fun e w' => e = .returned (.bool (decide (0 ≤ v) && decide (v < (m : Int)))) ∧ Q w w' := by
  have q0 := (Q.refl w).alloc (Obj.cells #[r, .slice Av m cv, b2, b3, .slice Pa m cp, .slice Ta m ct] 31)
  have hm : (if (m : Int) < (if (m : Int) < (m : Int) then (m : Int) else (m : Int)) then (m : Int) else (if (m : Int) < (m : Int) then (m : Int) else (m : Int))) = (m : Int) := by simp
  go_enter Tryz.func39, Tryz.ntmps39
  go_wp2_with (go_at_call 84; refine (place12 v m _).mono ?_; rintro e w1 ⟨rfl, rfl⟩)
  go_ret
  exact ⟨rfl, q0⟩

/-- what the laws ask of a store -/
structure OkS (ks : List (List Int)) : Prop where
  dist : Dist ks
  len : ks.length ≤ 5000
  key : ∀ k ∈ ks, k.length ≤ 100000
  var : ∀ id t, termAt ks id = some t → t.k = 2 → 0 ≤ t.s
theorem numV_def (ks : List (List Int)) (m : Nat) (id : Int) : numV ks m id = if (termAt ks id).isSome = true ∧ ((termAt ks id).getD Tm.none).k = 2 ∧ ((termAt ks id).getD Tm.none).s < (m : Int) then ((termAt ks id).getD Tm.none).s else -1 := rfl
/-- a place's variable, or nought -/
def varN (ks : List (List Int)) (m : Nat) (id : Int) : Int := if 0 ≤ numV ks m id then numV ks m id else 0

set_option maxRecDepth 100000 in
set_option maxHeartbeats 4000000 in
theorem variable12 (A S Av Pa Ta : Option Addr) (n c ms d m cv cp ct : Nat) (r b2 b3 : Value) (ks : List (List Int)) (id : Int) (w : World) (hn : n = ks.length) (hk : Keys w w.heap.size A ks) (hO : OkS ks) :
    Calls Tryz.prog 67 #[.agg #[.slice A n c, .slice S ms d], .agg #[r, .slice Av m cv, b2, b3, .slice Pa m cp, .slice Ta m ct], .int .i64 id] w fun e w' => e = .returned (.tuple #[.int .i64 (varN ks m id), .bool (decide (0 ≤ numV ks m id))]) ∧ Q w w' := by
  subst hn
  have q0 := ((Q.refl w).alloc (Obj.cells #[Value.slice A ks.length c, Value.slice S ms d] 26)).alloc (Obj.cells #[r, .slice Av m cv, b2, b3, .slice Pa m cp, .slice Ta m ct] 31)
  have HB := Lib.hid ((BoxT.new w (Value.slice A ks.length c) (Value.slice S ms d) 26).q ((Q.refl _).alloc (Obj.cells #[r, .slice Av m cv, b2, b3, .slice Pa m cp, .slice Ta m ct] 31)))
  have X := Box6.new (w.alloc (Obj.cells #[Value.slice A ks.length c, Value.slice S ms d] 26)) r (.slice Av m cv) b2 b3 (.slice Pa m cp) (.slice Ta m ct) 31
  rw [World.size_alloc] at X
  have HG := Lib.hid X
  have Hk := Lib.hid ((hk.q (Nat.le_refl _) q0).more q0.size)
  have HV := Lib.hid hO.var
  have HN := Lib.hid (numV_def ks m id)
  have HW : Hid (varN ks m id = if 0 ≤ numV ks m id then numV ks m id else 0) := rfl
  have hkey := hO.key
  clear hk X hO
  go_enter Tryz.func67, Tryz.ntmps67
  go_upto_region 1 with fail
  generalize (w.alloc (Obj.cells #[Value.slice A ks.length c, Value.slice S ms d] 26)).alloc (Obj.cells #[r, .slice Av m cv, b2, b3, .slice Pa m cp, .slice Ta m ct] 31) = W0 at *
  have b0 := HB.out.c0
  have b1' := HB.out.c1
  have C := Lib.hid (of_any A S _ c ms d ks id W0 rfl Hk.out hkey)
  clear hkey
  go_upto_region 2 with (go_at_call 111; refine C.out.mono ?_; rintro e w2 ⟨At, nt, ct', rfl, rfl, _, q1⟩)
  have HV2 : Hid ((termAt ks id).isSome = true → ((termAt ks id).getD Tm.none).k = 2 → 0 ≤ ((termAt ks id).getD Tm.none).s) := fun h => by
    cases e : termAt ks id with
    | none => rw [e] at h; cases h
    | some t => exact HV.out id t e
  clear HV
  generalize (termAt ks id).isSome = is at *
  generalize (termAt ks id).getD Tm.none = t at *
  have qt := q1.alloc (Obj.cells #[.int .i64 t.k, .int .i64 t.s, .int .i64 t.p, .slice At t.xs.length ct'] 107)
  have HGq := Lib.hid (HG.out.q qt)
  have g0 := HGq.out.c0
  have g1 := HGq.out.c1
  have g2 := HGq.out.c2
  have g3 := HGq.out.c3
  have g4 := HGq.out.c4
  have g5 := HGq.out.c5
  have X := Box4.new w2 (.int .i64 t.k) (.int .i64 t.s) (.int .i64 t.p) (.slice At t.xs.length ct') 107
  have x0 := X.c0
  have HQt := Lib.hid qt
  have x1 := X.c1
  clear X C b0 b1' q1
  have no : numV ks m id = -1 → varN ks m id = 0 ∧ decide (0 ≤ numV ks m id) = false := fun h => by rw [HW.out, h]; exact ⟨rfl, rfl⟩
  cases is
  · obtain ⟨e1, e2⟩ := no (by rw [HN.out, if_neg (fun h => by cases h.1)])
    have E1 := Lib.hid e1
    have E2 := Lib.hid e2
    clear e1 e2 no
    go_wp2_with fail
    go_ret2
    exact ⟨by rw [E1.out, E2.out]; rfl, q0.trans qt⟩
  · by_cases h2 : t.k = 2
    · have d2 : (t.k != 2) = false := by simp [h2]
      have hs0 : 0 ≤ t.s := HV2.out rfl h2
      have d3 : decide (0 ≤ t.s) = true := decide_eq_true hs0
      have HC : Hid (Calls Tryz.prog 39 #[.agg #[r, .slice Av m cv, b2, b3, .slice Pa m cp, .slice Ta m ct], .int .i64 t.s] (w2.alloc (Obj.cells #[.int .i64 t.k, .int .i64 t.s, .int .i64 t.p, .slice At t.xs.length ct'] 107)) fun e w' => e = .returned (.bool (decide (0 ≤ t.s) && decide (t.s < (m : Int)))) ∧ Q (w2.alloc (Obj.cells #[.int .i64 t.k, .int .i64 t.s, .int .i64 t.p, .slice At t.xs.length ct'] 107)) w') := there12 m r b2 b3 Av Pa Ta cv cp ct t.s _
      rw [d3, Bool.true_and] at HC
      have HB4 := Lib.hid (Box4.new w2 (.int .i64 t.k) (.int .i64 t.s) (.int .i64 t.p) (.slice At t.xs.length ct') 107)
      by_cases hs : t.s < (m : Int)
      · have d4 : decide (t.s < (m : Int)) = true := decide_eq_true hs
        rw [d4] at HC
        have E1 : Hid (numV ks m id = t.s) := by unfold Hid; rw [HN.out, if_pos ⟨rfl, h2, hs⟩]
        have E2 : Hid (varN ks m id = t.s) := by unfold Hid; rw [HW.out, E1.out, if_pos hs0]
        have E3 := Lib.hid d3
        clear h2 hs hs0 no d3 d4
        generalize w2.alloc (Obj.cells #[.int .i64 t.k, .int .i64 t.s, .int .i64 t.p, .slice At t.xs.length ct'] 107) = W2 at *
        go_wp2_with (go_at_call 39; refine HC.out.mono ?_; rintro e w3 ⟨rfl, q3⟩; have y1 := (HB4.out.q q3).c1)
        go_ret2
        exact ⟨by rw [E1.out, E2.out, E3.out]; rfl, q0.trans (HQt.out.trans q3)⟩
      · have d4 : decide (t.s < (m : Int)) = false := decide_eq_false hs
        rw [d4] at HC
        obtain ⟨e1, e2⟩ := no (by rw [HN.out, if_neg (fun h => hs h.2.2)])
        have E1 := Lib.hid e1
        have E2 := Lib.hid e2
        clear h2 hs hs0 no d3 d4 e1 e2
        generalize w2.alloc (Obj.cells #[.int .i64 t.k, .int .i64 t.s, .int .i64 t.p, .slice At t.xs.length ct'] 107) = W2 at *
        go_wp2_with (go_at_call 39; refine HC.out.mono ?_; rintro e w3 ⟨rfl, q3⟩)
        go_ret2
        exact ⟨by rw [E1.out, E2.out]; rfl, q0.trans (HQt.out.trans q3)⟩
    · have d2 : (t.k != 2) = true := by simpa using h2
      obtain ⟨e1, e2⟩ := no (by rw [HN.out, if_neg (fun h => h2 h.2.1)])
      have E1 := Lib.hid e1
      have E2 := Lib.hid e2
      clear h2 e1 e2 no
      go_wp2_with fail
      go_ret2
      exact ⟨by rw [E1.out, E2.out]; rfl, q0.trans qt⟩

set_option maxRecDepth 100000 in
set_option maxHeartbeats 2000000 in
theorem placeOf12 (A S : Option Addr) (n c m d : Nat) (ks : List (List Int)) (v : Int) (w : World) (hn : n = ks.length) (hm : m = (layI ks).length) (hk : Keys w w.heap.size A ks) (hS : Ints w w.heap.size S (layI ks)) (hO : OkS ks) :
    Calls Tryz.prog 42 #[.agg #[.slice A n c, .slice S m d], .int .i64 v] w fun e w' => e = .returned (.int .i64 (atV ks v)) ∧ Q w w' := by
  subst hn hm
  have q0 := (Q.refl w).alloc (Obj.cells #[Value.slice A ks.length c, Value.slice S (layI ks).length d] 26)
  have HB := Lib.hid (BoxT.new w (Value.slice A ks.length c) (Value.slice S (layI ks).length d) 26)
  have Hk := Lib.hid ((hk.q (Nat.le_refl _) q0).more q0.size)
  have HS := Lib.hid ((hS.q (Nat.le_refl _) q0).more q0.size)
  have HO := Lib.hid hO
  clear hk hS hO
  go_enter Tryz.func42, Tryz.ntmps42
  go_upto_region 1 with fail
  generalize w.alloc (Obj.cells #[Value.slice A ks.length c, Value.slice S (layI ks).length d] 26) = W0 at *
  have b0 := HB.out.c0
  have b1 := HB.out.c1
  have hlt := HB.out.lt
  have CK : Hid (∀ W, Calls Tryz.prog 90 #[.agg #[.int .i64 2, .int .i64 v, .int .i64 0, .slice none 0 0]] W (KeyPost [2, v, 0] W)) := fun W => key_any none 0 0 2 v 0 [] W rfl (fun h => absurd h (by simp)) (by simp)
  have CF : Hid (∀ W g cc, Q W0 W → Hs.OwnI W g [2, v, 0] → Calls Tryz.prog 89 #[.agg #[.slice A ks.length c, .slice S (layI ks).length d], .slice (some ⟨g, 0, none⟩) 3 cc] W fun e w' => e = .returned (.int .i64 (atV ks v)) ∧ Q W w') := fun W g cc q ho =>
    findR_any A S _ _ c _ d 3 cc ks [2, v, 0] W rfl rfl rfl ((Hk.out.q (Nat.le_refl _) q).more q.size) ((HS.out.q (Nat.le_refl _) q).more q.size) ho.ints HO.out.dist (fun k h => Nat.le_trans (HO.out.key k h) (by unfold maxLen; omega)) (by unfold maxLen; simp) HO.out.len
  go_region_held3 (fun w' => w'.cell? ⟨w.heap.size, 0, none⟩ = some (.slice A ks.length c) ∧ w'.cell? ⟨w.heap.size, 1, none⟩ = some (.slice S (layI ks).length d))
    (first
      | go_keep
      | exact ⟨(p2.cell (p := ⟨w.heap.size, 0, none⟩) hlt).trans b0, (p2.cell (p := ⟨w.heap.size, 1, none⟩) hlt).trans b1⟩
      | exact ⟨(p1.cell (p := ⟨w.heap.size, 0, none⟩) hlt).trans b0, (p1.cell (p := ⟨w.heap.size, 1, none⟩) hlt).trans b1⟩)
    (first
      | (go_at_call 90; (with_reducible refine (CK.out _).mono ?_); rintro e w1 ⟨g1, c1, rfl, -, -, o1, q1⟩; have O1 := Lib.hid o1; clear o1; have p1 : Q W0 w1 := (Q.refl W0).drew.trans q1)
      | (go_at_call 89; (with_reducible refine (CF.out _ _ _ p1 O1.out).mono ?_); rintro e w2 ⟨rfl, q2⟩; have p2 : Q W0 w2 := p1.trans q2))
  go_wp2_with fail
  go_ret
  exact ⟨rfl, q0.trans p2⟩

set_option maxRecDepth 100000 in
set_option maxHeartbeats 4000000 in
theorem rep12 (R V : List Int) (A S Av D E Pa Ta : Option Addr) (N : List Note) (M : List Int) (n c ms d nv cv n2 k2 n3 k3 cp ct np nt : Nat) (r : Value) (ks : List (List Int)) (id : Int) (w : World) (hn : n = ks.length) (hm : ms = (layI ks).length) (hk : Keys w w.heap.size A ks) (hS : Ints w w.heap.size S (layI ks)) (hO : OkS ks)
    (hnv : nv = V.length) (hv : Rd w ⟨V, N, M⟩ Av cv D k2 E k3) (h2 : n2 = N.length) (h3 : n3 = M.length) (hC : Cl R V) (hlv : V.length ≤ 1000000) (hp : np = V.length) (ht : nt = V.length) (hA : allV ks V.length = true) :
    Calls Tryz.prog 30 #[.agg #[.slice A n c, .slice S ms d], .agg #[r, .slice Av nv cv, .slice D n2 k2, .slice E n3 k3, .slice Pa np cp, .slice Ta nt ct], .int .i64 id] w fun e w' => e = .returned (.int .i64 (repV ks V id)) ∧ Q w w' := by
  subst hn hm hnv h2 h3 hp ht
  have q0 := ((Q.refl w).alloc (Obj.cells #[Value.slice A ks.length c, Value.slice S (layI ks).length d] 26)).alloc (Obj.cells #[r, Value.slice Av V.length cv, .slice D N.length k2, .slice E M.length k3, .slice Pa V.length cp, .slice Ta V.length ct] 31)
  have HB := Lib.hid ((BoxT.new w (Value.slice A ks.length c) (Value.slice S (layI ks).length d) 26).q ((Q.refl _).alloc (Obj.cells #[r, Value.slice Av V.length cv, .slice D N.length k2, .slice E M.length k3, .slice Pa V.length cp, .slice Ta V.length ct] 31)))
  have X := Box6.new (w.alloc (Obj.cells #[Value.slice A ks.length c, Value.slice S (layI ks).length d] 26)) r (Value.slice Av V.length cv) (.slice D N.length k2) (.slice E M.length k3) (.slice Pa V.length cp) (.slice Ta V.length ct) 31
  rw [World.size_alloc] at X
  have HG := Lib.hid X
  have Hk := Lib.hid ((hk.q (Nat.le_refl _) q0).more q0.size)
  have HS := Lib.hid ((hS.q (Nat.le_refl _) q0).more q0.size)
  have Hv := Lib.hid (hv.q q0)
  have HO := Lib.hid hO
  have HP : Hid (repV ks V id = if numV ks V.length id < 0 then id else atV ks (fst V (numV ks V.length id).toNat : Int)) := rfl
  have HL := fun h => numV_lt (ks := ks) (m := V.length) (id := id) h
  have HW : Hid (varN ks V.length id = if 0 ≤ numV ks V.length id then numV ks V.length id else 0) := rfl
  have HA : Hid (∀ v : Nat, v < V.length → 0 ≤ atV ks v) := Lib.hid (of_decide_eq_true hA)
  clear hk hS hv X hO hA
  go_enter Tryz.func30, Tryz.ntmps30
  go_upto_region 1 with fail
  generalize (w.alloc (Obj.cells #[Value.slice A ks.length c, Value.slice S (layI ks).length d] 26)).alloc (Obj.cells #[r, Value.slice Av V.length cv, .slice D N.length k2, .slice E M.length k3, .slice Pa V.length cp, .slice Ta V.length ct] 31) = W0 at *
  have b0 := HB.out.c0
  have b1' := HB.out.c1
  have g0 := HG.out.c0
  have g1 := HG.out.c1
  have g2 := HG.out.c2
  have g3 := HG.out.c3
  have g4 := HG.out.c4
  have g5 := HG.out.c5
  have C := Lib.hid (variable12 A S Av Pa Ta _ c (layI ks).length d V.length cv cp ct r (.slice D N.length k2) (.slice E M.length k3) ks id W0 rfl Hk.out HO.out)
  go_upto_region 2 with (go_at_call 67; refine C.out.mono ?_; rintro e w2 ⟨rfl, q1⟩)
  generalize varN ks V.length id = y at *
  generalize numV ks V.length id = x at *
  clear b0 b1' g0 g1 g2 g3 g4 g5 C
  by_cases hx : x < 0
  · have d0 : decide (0 ≤ x) = false := decide_eq_false (by omega)
    have HF : Hid (repV ks V id = id) := by unfold Hid; rw [HP.out, if_pos hx]
    rw [d0]
    clear hx HL d0
    go_wp2_with fail
    go_ret
    exact ⟨by rw [HF.out]; rfl, q0.trans q1⟩
  · have d0 : decide (0 ≤ x) = true := decide_eq_true (by omega)
    have hy : y = x := by rw [HW.out, if_pos (by omega)]
    have HF : Hid (repV ks V id = atV ks (fst V x.toNat : Int)) := by unfold Hid; rw [HP.out, if_neg hx]
    have hm := HL (by omega)
    subst hy
    obtain ⟨z, rfl⟩ : ∃ z : Nat, y = (z : Int) := ⟨y.toNat, by omega⟩
    rw [Int.toNat_natCast] at HF hm
    rw [d0]
    have hfz := (hC.fst_in z hm).1
    have HF0 := Lib.hid (HA.out _ hfz)
    have HBq := Lib.hid (HB.out.q q1)
    have HGq := Lib.hid (HG.out.q q1)
    have Hkq := Lib.hid ((Hk.out.q (Nat.le_refl _) q1).more q1.size)
    have HSq := Lib.hid ((HS.out.q (Nat.le_refl _) q1).more q1.size)
    have Hvq := Lib.hid (Hv.out.q q1)
    have b0 := HBq.out.c0
    have b1' := HBq.out.c1
    have g1 := HGq.out.c1
    have g2 := HGq.out.c2
    have g3 := HGq.out.c3
    have l0 := HBq.out.lt
    have l1 := HGq.out.lt
    have CF : Hid (∀ W, Q w2 W → Calls Tryz.prog 38 #[.agg #[.slice Av V.length cv, .slice D N.length k2, .slice E M.length k3], .int .i64 (z : Int)] W fun e W' => e = .returned (.int .i64 (fst V z : Int)) ∧ Q W W') := fun W q => find_any R ⟨V, N, M⟩ z Av D E V.length cv N.length k2 M.length k3 W rfl rfl rfl (Hvq.out.q q) hC hm hlv
    have CA : Hid (∀ W, Q w2 W → Calls Tryz.prog 42 #[.agg #[.slice A ks.length c, .slice S (layI ks).length d], .int .i64 (fst V z : Int)] W fun e W' => e = .returned (.int .i64 (atV ks (fst V z : Int))) ∧ Q W W') := fun W q => placeOf12 A S _ c _ d ks _ W rfl rfl ((Hkq.out.q (Nat.le_refl _) q).more q.size) ((HSq.out.q (Nat.le_refl _) q).more q.size) HO.out
    clear hx HL hm hC hlv hfz d0 HW HA HP
    go_upto_region 4 with fail
    go_region_held3 (fun w' => w'.cell? ⟨w.heap.size, 0, none⟩ = some (.slice A ks.length c) ∧ w'.cell? ⟨w.heap.size, 1, none⟩ = some (.slice S (layI ks).length d) ∧ w'.cell? ⟨w.heap.size + 1, 1, none⟩ = some (.slice Av V.length cv) ∧ w'.cell? ⟨w.heap.size + 1, 2, none⟩ = some (.slice D N.length k2) ∧ w'.cell? ⟨w.heap.size + 1, 3, none⟩ = some (.slice E M.length k3))
      (first
        | go_keep
        | exact ⟨(p3.cell (p := ⟨w.heap.size, 0, none⟩) l0).trans b0, (p3.cell (p := ⟨w.heap.size, 1, none⟩) l0).trans b1', (p3.cell (p := ⟨w.heap.size + 1, 1, none⟩) l1).trans g1, (p3.cell (p := ⟨w.heap.size + 1, 2, none⟩) l1).trans g2, (p3.cell (p := ⟨w.heap.size + 1, 3, none⟩) l1).trans g3⟩
        | exact ⟨(p2.cell (p := ⟨w.heap.size, 0, none⟩) l0).trans b0, (p2.cell (p := ⟨w.heap.size, 1, none⟩) l0).trans b1', (p2.cell (p := ⟨w.heap.size + 1, 1, none⟩) l1).trans g1, (p2.cell (p := ⟨w.heap.size + 1, 2, none⟩) l1).trans g2, (p2.cell (p := ⟨w.heap.size + 1, 3, none⟩) l1).trans g3⟩)
      (first
        | (go_at_call 38; (with_reducible refine (CF.out _ (Q.refl w2).drew).mono ?_); rintro e w3 ⟨rfl, q2⟩; have p2 : Q w2 w3 := (Q.refl w2).drew.trans q2)
        | (go_at_call 42; (with_reducible refine (CA.out _ p2).mono ?_); rintro e w4 ⟨rfl, q3⟩; have p3 : Q w2 w4 := p2.trans q3))
    have d5 : decide (0 ≤ atV ks (fst V z : Int)) = true := decide_eq_true HF0.out
    have d6 : decide (atV ks (fst V z : Int) < 0) = false := decide_eq_false (by have := HF0.out; omega)
    generalize atV ks (fst V z : Int) = a at *
    go_wp2_with fail
    go_ret
    exact ⟨by rw [HF.out]; rfl, (q0.trans q1).trans p3⟩
end Go.Proofs.YtjmopbimleoidaaGreat.Ig

namespace Go.Proofs.YtjmopbimleoidaaGreat.Ig
open Go.RowKit Kit Tr Uf
open Go.Proofs.YtjmopbimleoidaaGreat.Hs (Keys Ints layI atI atI_cases Dist few_sum mem_len fewB)
open Go.Proofs.YtjmopbimleoidaaGreat.Tm (Tm Store termAt termAt_at termAt_out ofKey isPl isPl_iff keyOk storeB store_iff mayB standB)
theorem termAt_key {ks : List (List Int)} {i : Nat} {key : List Int} (h : ks[i]? = some key) (h3 : 3 ≤ key.length) : termAt ks (i : Int) = some (ofKey key) := by
  obtain ⟨hi, e⟩ := List.getElem?_eq_some_iff.1 h
  subst e
  exact termAt_at hi h3
theorem okS_of {L : List Sg.Sig} {ks : List (List Int)} (hS : Store L ks) (hl : ks.length ≤ 5000) (hk : ∀ k ∈ ks, k.length ≤ 100000) : OkS ks := by
  refine ⟨hS.dist, hl, hk, fun id t ht h2 => ?_⟩
  cases hp : isPl id ks.length with
  | false => rw [termAt_out hp] at ht; cases ht
  | true =>
    obtain ⟨h0, h4⟩ := (isPl_iff _ _).1 hp
    obtain ⟨i, rfl⟩ := Int.eq_ofNat_of_zero_le h0
    have hi : i < ks.length := by omega
    have hok := hS.ok i ks[i] (List.getElem?_eq_getElem hi)
    by_cases h3 : 3 ≤ ks[i].length
    · rw [termAt_at hi h3] at ht
      injection ht with ht
      subst ht
      unfold keyOk at hok
      simp only [Bool.and_eq_true] at hok
      have hm := hok.1.2
      unfold mayB at hm
      simp only [Bool.and_eq_true] at hm
      have hst := hm.1.1
      unfold standB at hst
      rw [if_pos h2, Bool.and_eq_true] at hst
      exact of_decide_eq_true hst.1
    · rw [Tm.termAt_short hi (by omega)] at ht; cases ht
theorem of12_plain {L : List Sg.Sig} {ks : List (List Int)} {sl R : List Int} {c : Cells} {P T : List (List Int)} (h : of12B L ks sl R c P T = true) : OkS ks ∧ sl = layI ks ∧ (R.length ≤ 1000 ∧ Few c 1000 ∧ P.length ≤ 1000 ∧ T.length ≤ 1000 ∧ (∀ k ∈ P, k.length ≤ 1000) ∧ (∀ k ∈ T, k.length ≤ 1000)) ∧ Cl R c.V ∧ P.length = c.V.length ∧ T.length = c.V.length ∧ rightG R ks c P T = true ∧ allV ks c.V.length = true := by
  obtain ⟨⟨_, hf, hst⟩, h4, h5, h6⟩ := of12_ok h
  have hsum := few_sum hf
  obtain ⟨hS, hsl⟩ := (store_iff _ _ _).1 hst
  have hg := h5
  unfold rightG at hg
  simp only [Bool.and_eq_true, decide_eq_true_eq] at hg
  exact ⟨okS_of hS (by omega) (fun k hk => by have := mem_len hk; omega), hsl, few12_ok h4, cl_of hg.1.1.1.1.1, hg.1.1.2, hg.1.2, h5, h6⟩
end Go.Proofs.YtjmopbimleoidaaGreat.Ig

namespace Go.Proofs.YtjmopbimleoidaaGreat.Rw
open Go.RowKit Kit

/-- a slice value that reads these cells, below block B -/
def Rds (w : World) (B : Nat) (A : Option Addr) (cs : List Value) : Prop := 0 < cs.length → ∃ ad, A = some ad ∧ ad.block < B ∧ ∀ j v, cs[j]? = some v → w.cell? (ad.add j) = some v
theorem add_block (a : Addr) (n : Nat) : (a.add n).block = a.block := by unfold Addr.add; split <;> rfl
theorem add_succ (a : Addr) (n : Nat) : a.add (n + 1) = ⟨(a.add n).block, (a.add n).off + 1, none⟩ := by
  unfold Addr.add
  by_cases h : n = 0 <;> simp [h, Nat.add_assoc]
theorem add_zero_head (g j : Nat) : (⟨g, 0, none⟩ : Addr).add j = ⟨g, j, none⟩ := by
  unfold Addr.add
  by_cases h : j = 0 <;> simp [h]
theorem Rds.keep {w w' : World} {B : Nat} {A : Option Addr} {l : List Value} (h : Rds w B A l) (hb : Below B w w') : Rds w' B A l := fun h0 => by
  obtain ⟨ad, e, hlt, hc⟩ := h h0
  exact ⟨ad, e, hlt, fun i s hs => (hb.cell (by rw [add_block]; exact hlt)).trans (hc i s hs)⟩
theorem Rds.more {w : World} {B B' : Nat} {A : Option Addr} {l : List Value} (h : Rds w B A l) (hB : B ≤ B') : Rds w B' A l := fun h0 => by
  obtain ⟨ad, e, hlt, hc⟩ := h h0
  exact ⟨ad, e, by omega, hc⟩
theorem Rds.q {w w' : World} {A : Option Addr} {l : List Value} (h : Rds w w.heap.size A l) (q : Q w w') : Rds w' w'.heap.size A l := (h.keep q).more q.size
theorem Rds.nil (w : World) (B : Nat) (A : Option Addr) : Rds w B A [] := fun h => absurd h (by simp)

theorem Rds.src {w : World} {B : Nat} {A : Option Addr} {l : List Value} (h : Rds w B A l) : Src w A l := fun h0 => by
  obtain ⟨ad, e, _, hc⟩ := h h0
  exact ⟨ad, e, hc⟩

/-- block g holds these cells, from its head on, and may be written -/
def OwnC (w : World) (g : Nat) (cs : List Value) : Prop := g < w.heap.size ∧ ∀ j v, cs[j]? = some v → w.cell? ⟨g, j, none⟩ = some v ∧ w.frozen? ⟨g, j, none⟩ = false
theorem OwnC.rds {w : World} {g : Nat} {cs : List Value} (h : OwnC w g cs) : Rds w w.heap.size (some ⟨g, 0, none⟩) cs := fun _ => ⟨_, rfl, h.1, fun j v hv => by rw [add_zero_head]; exact (h.2 j v hv).1⟩
theorem OwnC.q {w w' : World} {g : Nat} {cs : List Value} (h : OwnC w g cs) (q : Q w w') : OwnC w' g cs :=
  ⟨Nat.lt_of_lt_of_le h.1 q.size, fun i x hx => ⟨(q.cell (p := ⟨g, i, none⟩) h.1).trans (h.2 i x hx).1, (q.frozen (p := ⟨g, i, none⟩) h.1).trans (h.2 i x hx).2⟩⟩
theorem OwnC.far {w : World} {g : Nat} {cs : List Value} (h : OwnC w g cs) {b i : Nat} (hb : b ≠ g) (u : Value) : OwnC (w.setCell ⟨b, i, none⟩ u) g cs :=
  ⟨by simpa [World.setCell] using h.1, fun j v hv => ⟨(World.cell?_setCell_far _ _ _ _ hb).trans (h.2 j v hv).1, by rw [World.frozen?_setCell]; exact (h.2 j v hv).2⟩⟩
theorem OwnC.grown {w w' : World} {g : Nat} {cs : List Value} {row : Option Nat} (h : OwnC w g cs) (hg : w.grownBy w' row) (hr : row ≠ some g) : OwnC w' g cs := by
  have hb := hg.block g h.1 (fun e => hr e.symm)
  exact ⟨Nat.lt_of_lt_of_le h.1 hg.size, fun j v hv => ⟨(World.cell?_of_block (a := ⟨g, j, none⟩) hb).trans (h.2 j v hv).1, (World.frozen?_of_block (a := ⟨g, j, none⟩) hb).trans (h.2 j v hv).2⟩⟩
theorem OwnC.take {w : World} {g : Nat} {cs : List Value} (h : OwnC w g cs) (n : Nat) : OwnC w g (cs.take n) :=
  ⟨h.1, fun j v hv => h.2 j v (by rw [List.getElem?_take] at hv; split at hv; exact hv; cases hv)⟩
theorem setCell_ne {W : World} {B i j : Nat} {v u : Value} (h : i ≠ j) (hc : W.cell? ⟨B, j, none⟩ = some u) : (W.setCell ⟨B, i, none⟩ v).cell? ⟨B, j, none⟩ = some u := by
  have := World.cell?_setCell_other (w := W) (a := ⟨B, i, none⟩) (b := ⟨B, j, none⟩) (v := v) (by intro e; injection e with _ e; exact h e)
  exact this.trans hc
theorem setCell_eq {W : World} {B i : Nat} {v u : Value} (hc : W.cell? ⟨B, i, none⟩ = some u) : (W.setCell ⟨B, i, none⟩ v).cell? ⟨B, i, none⟩ = some v := World.cell?_setCell_same' _ _ _ (by rw [hc]; rfl)
theorem OwnC.set {w : World} {g : Nat} {cs : List Value} (h : OwnC w g cs) {s : Nat} (hs : s < cs.length) (v : Value) : OwnC (w.setCell ⟨g, s, none⟩ v) g (cs.set s v) := by
  refine ⟨by simp [World.setCell]; exact h.1, fun i x hx => ?_⟩
  rw [World.frozen?_setCell]
  by_cases hi : s = i
  · subst hi
    rw [List.getElem?_set_self hs] at hx
    obtain rfl : v = x := by simpa using hx
    have := h.2 s _ (List.getElem?_eq_getElem hs)
    exact ⟨setCell_eq this.1, this.2⟩
  · rw [List.getElem?_set_ne hi] at hx
    exact ⟨setCell_ne hi (h.2 i x hx).1, (h.2 i x hx).2⟩
theorem OwnC.of_row {w : World} {base g n cap size : Nat} {e : TypeId} {cs : List Value} (h : w.ownsRow base e size (.slice (some ⟨g, 0, none⟩) n cap) n cs) : OwnC w g cs := by
  refine ⟨(h.lt g rfl).2, fun j v hv => ⟨?_, h.frozenAt j⟩⟩
  have := h.cells (g := g) rfl j v hv
  rwa [add_zero_head] at this
theorem setCell_grown (w : World) (g j : Nat) (u : Value) : w.grownBy (w.setCell ⟨g, j, none⟩ u) (some g) :=
  ⟨rfl, rfl, rfl, by simp [World.setCell], fun k _ hk => heap_setCell_other w ⟨g, j, none⟩ k u (fun e => hk (by simp [e]))⟩
theorem grown_trans {a b c : World} {row : Option Nat} (h : a.grownBy b row) (k : b.grownBy c row) : a.grownBy c row :=
  ⟨k.os.trans h.os, k.tape.trans h.tape, k.output.trans h.output, Nat.le_trans h.size k.size, fun i hi hr => (k.block i (Nat.lt_of_lt_of_le hi h.size) hr).trans (h.block i hi hr)⟩
theorem grows_q {a b : World} (q : Q a b) (row : Option Nat) : a.grownBy b row := ⟨q.os, q.tape, q.output, q.size, fun i hi _ => q.block i hi⟩
theorem grown_q {a b : World} {g : Nat} (h : a.grownBy b (some g)) {W : World} (hq : Q W a) (hg : W.heap.size ≤ g) : Q W b := Below.grown hq h hq.size (fun k e => by injection e with e; omega)

theorem row_kept {w w' : World} {base base' : Nat} {e : TypeId} {size : Nat} {v : Value} {n : Nat} {xs : List Value} (h : w.ownsRow base e size v n xs) (q : Q w w') (hb : base' ≤ base) : w'.ownsRow base' e size v n xs := by
  have h2 := h.kept (row := none) (grows_q q none) (by cases v.ownBlock <;> simp)
  obtain ⟨a, b⟩ := h2
  refine ⟨a, ?_⟩
  rcases b with b | ⟨g, cap, cur, r1, r2, r⟩
  · exact .inl b
  · exact .inr ⟨g, cap, cur, r1, Nat.le_trans hb r2, r⟩
theorem src_alloc (w : World) (cs : List Value) (t : TypeId) (fr : Nat × Nat) : Src (w.alloc (.cells cs.toArray t fr)) (some ⟨w.heap.size, 0, none⟩) cs := by
  have := src_block (heap_alloc_new w (.cells cs.toArray t fr))
  simpa using this
theorem own_read {w : World} {base size n : Nat} {e : TypeId} {v : Value} {cs : List Value} (h : w.ownsRow base e size v n cs) : ∃ A c, v = .slice A n c ∧ n ≤ c ∧ Rds w w.heap.size A cs := by
  have h2 := h
  obtain ⟨hl, ⟨rfl, h0⟩ | ⟨g, cap, cur, rfl, hg, hh, hc, _⟩⟩ := h
  · subst h0
    exact ⟨none, 0, rfl, by omega, fun h => by omega⟩
  · exact ⟨_, cap, rfl, hc, (OwnC.of_row h2).rds⟩
theorem q_drewN (w : World) {w' : World} (h : ∃ d, w' = w.drewN d) : Q w w' := by
  obtain ⟨d, rfl⟩ := h
  exact (Q.refl w).drewN d
end Go.Proofs.YtjmopbimleoidaaGreat.Rw

namespace Go.Proofs.YtjmopbimleoidaaGreat.Rw
open Go.ChangeShapes Go.WideShapes Go.RowKit Kit Go.Deep Go.Joins

theorem weights_all {H : Type} {P : Program} {e : TypeId} : ∀ {ds : List (DataW H)} {d : DataW H}, d ∈ ds → ∀ n ∈ d.weights P e, n ∈ DataW.weightsAll P e ds
  | x :: l, d, h, n, hn => by
    simp only [DataW.weightsAll, List.mem_append]
    rcases List.mem_cons.1 h with rfl | h
    · exact .inl hn
    · exact .inr (weights_all h n hn)
section
variable {H : Type} {enc : TypeId × Value → H} {P : Program} {w : World} {base : Nat} {spare : Nat → Bool} {held : Bool}
end
end Go.Proofs.YtjmopbimleoidaaGreat.Rw
