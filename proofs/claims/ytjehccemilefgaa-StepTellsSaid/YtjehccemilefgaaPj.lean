/-
  What the proofs lean on, part 10 of 11.
-/
import Derived.Test.YtjehccemilefgaaPb
import Derived.Test.YtjehccemilefgaaPc
import Derived.Test.YtjehccemilefgaaPf
import Derived.Test.YtjehccemilefgaaPh
import Derived.Test.YtjehccemilefgaaPi
import Derived.Deep.CutBlock
import Derived.Deep.SlicePairs
import Derived.Lib.SmallJoins
import Derived.Deep.Slices
import Derived.Deep.Fields
import Derived.ChangeSame
import Derived.SizedLaws
import Derived.OpenShut
namespace Go.Proofs.Ytjehccemilefgaa.St
open Go.RowKit Kit Rw
open Go.Proofs.Ytjehccemilefgaa.Sg (Sig Row)
open Go.Proofs.Ytjehccemilefgaa.Hs (Ints Keys BoxT Dist)
open Go.Proofs.Ytjehccemilefgaa.Tm (Tm Store termAt LookF Box4 isPl isPl_iff ofKey mayB standB hasB keyOk_parts key_of)
open Go.Proofs.Ytjehccemilefgaa.Ld (tmP parts_ahead)
/-- One stands at one place alone -/
theorem one_place {L : List Sig} {ks : List (List Int)} (hS : Store L ks) {i : Nat} (hi : i < ks.length) (h1 : (tmP ks i).k = 1) : (i : Int) = 1 := by
  obtain ⟨h3, hm, _⟩ := parts_ahead hS (List.getElem?_eq_getElem hi)
  rw [← tmP_is hi] at hm
  have hx : (tmP ks i).xs = [] := by
    cases may_tok hm with
    | leaf hx _ => exact hx
    | con _ _ h => omega
    | two _ _ h => omega
    | proj _ _ _ _ h => omega
  have hst : (tmP ks i).s = 0 ∧ (tmP ks i).p = 0 := by
    unfold mayB at hm
    simp only [Bool.and_eq_true] at hm
    have := hm.1.1
    unfold standB at this
    rw [if_neg (by omega), if_neg (by omega), if_neg (by omega)] at this
    simpa using this
  have e1 : ks[i] = [1, 0, 0] := by
    rw [← key_of h3, ← tmP_is hi]
    simp [Tm.key, h1, hst.1, hst.2, hx]
  have hd := hS.dist i 1 [1, 0, 0] (by rw [List.getElem?_eq_getElem hi, e1]) (Store.head hS (i := 1) (by omega))
  omega
set_option maxRecDepth 100000 in
set_option maxHeartbeats 8000000 in
theorem step10_any (R A S : Option Addr) (nl cl n c m d : Nat) (L : List Sig) (ks : List (List Int)) (x y : Int) (w : World) (hnl : nl = L.length) (hr : Row w w.heap.size R L) (hn : n = ks.length) (hk : Keys w w.heap.size A ks) (hS : Store L ks) (hl8 : ∀ s ∈ L, s.2.size ≤ 8) (hs : ∀ k ∈ ks, k.length ≤ 100000) (hcap : ks.length ≤ c) :
    Calls Try.prog 11 #[.slice R nl cl, .agg #[.slice A n c, .slice S m d], .int .i64 x, .int .i64 y] w (WayPost (stepF L ks x y) w) := by
  subst hnl hn
  have q0 := ((Q.refl w).alloc (Obj.cells #[Value.slice A ks.length c, Value.slice S m d] 26)).alloc (Obj.cells #[.int .i64 0, .slice none 0 0] 33)
  have h8 := Ex.own_new8 (w.alloc (Obj.cells #[Value.slice A ks.length c, Value.slice S m d] 26)) [.int .i64 0, .slice none 0 0] 33
  rw [show (w.alloc (Obj.cells #[Value.slice A ks.length c, Value.slice S m d] 26)).heap.size = w.heap.size + 1 by simp] at h8
  have HT := Lib.hid ((BoxT.new w (Value.slice A ks.length c) (Value.slice S m d) 26).q ((Q.refl _).alloc (Obj.cells #[.int .i64 0, .slice none 0 0] 33)))
  have CO : Hid (∀ U z, Q w U → Calls Try.prog 25 #[.slice R L.length cl, .agg #[.slice A ks.length c, .slice S m d], .int .i64 z] U (LookF ks z U)) := fun U z p => look10_any R A S L.length cl ks.length c m d L ks z U rfl ((hr.q (Nat.le_refl _) p).more p.size) rfl ((hk.q (Nat.le_refl _) p).more p.size) hS hs hcap
  have HR8 := Lib.hid h8
  have HQ0 := Lib.hid q0
  have HS := Lib.hid hS
  have H8 := Lib.hid hl8
  have HRow := Lib.hid hr
  clear h8 hk q0 hS hl8 hr hs hcap
  obtain ⟨s, hs⟩ : ∃ s, (termAt ks x).getD .none = s := ⟨_, rfl⟩
  obtain ⟨t, ht⟩ : ∃ t, (termAt ks y).getD .none = t := ⟨_, rfl⟩
  obtain ⟨b1, hb1⟩ : ∃ b, (termAt ks x).isSome = b := ⟨_, rfl⟩
  obtain ⟨b2, hb2⟩ : ∃ b, (termAt ks y).isSome = b := ⟨_, rfl⟩
  have Hs := Lib.hid hs
  have Ht := Lib.hid ht
  have Hb1 := Lib.hid hb1
  have Hb2 := Lib.hid hb2
  clear hs ht hb1 hb2
  go_enter Try.func11, Try.ntmps11
  go_wp2_with fail
  generalize (w.alloc (Obj.cells #[Value.slice A ks.length c, Value.slice S m d] 26)).alloc (Obj.cells #[.int .i64 0, .slice none 0 0] 33) = W0 at *
  refine (CO.out W0 x HQ0.out).mono ?_
  rintro e w1 ⟨A1, n1, c1, rfl, hn1, hi1, q1, _⟩
  rw [Hs.out] at hn1 hi1 ⊢
  rw [Hb1.out]
  subst hn1
  have HI1 := Lib.hid hi1
  have qa := (Q.refl w1).alloc (Obj.cells #[.int .i64 s.k, .int .i64 s.s, .int .i64 s.p, .slice A1 s.xs.length c1] 60)
  have HB9 := Lib.hid (Box4.new w1 (.int .i64 s.k) (.int .i64 s.s) (.int .i64 s.p) (.slice A1 s.xs.length c1) 60)
  have HT1 := (HT.out.q q1).q qa
  have b0 := HT1.c0
  have b01 := HT1.c1
  have HR1 := Lib.hid ((HR8.out.q q1).q qa)
  have HQ1 := Lib.hid ((HQ0.out.trans q1).trans qa)
  have HA1 := Lib.hid ((hi1.q (Nat.le_refl _) qa).more qa.size)
  clear hi1 HT1 HI1 HR8 HT
  go_wp2_with fail
  clear b0 b01 q1 qa
  generalize w1.alloc (Obj.cells #[.int .i64 s.k, .int .i64 s.s, .int .i64 s.p, .slice A1 s.xs.length c1] 60) = W1 at *
  refine (CO.out W1 y HQ1.out).mono ?_
  rintro e w2 ⟨A2, n2, c2, rfl, hn2, hi2, q2, _⟩
  rw [Ht.out] at hn2 hi2 ⊢
  rw [Hb2.out]
  subst hn2
  have qb := (Q.refl w2).alloc (Obj.cells #[.int .i64 t.k, .int .i64 t.s, .int .i64 t.p, .slice A2 t.xs.length c2] 60)
  have HB9b := Lib.hid ((HB9.out.q q2).q qb)
  have HB11 := Lib.hid (Box4.new w2 (.int .i64 t.k) (.int .i64 t.s) (.int .i64 t.p) (.slice A2 t.xs.length c2) 60)
  have HR8 := Lib.hid ((HR1.out.q q2).q qb)
  have HQw := Lib.hid ((HQ1.out.trans q2).trans qb)
  have HE1 := Lib.hid ((HA1.out.q (Nat.le_refl _) (q2.trans qb)).more (q2.trans qb).size)
  have HE2 := Lib.hid ((hi2.q (Nat.le_refl _) qb).more qb.size)
  have HROW := Lib.hid ((HRow.out.q (Nat.le_refl _) HQw.out).more HQw.out.size)
  clear qb q2 hi2 HB9 HA1 HR1 CO HQ1 HRow
  by_cases hpl : isPl x ks.length = true ∧ isPl y ks.length = true
  · obtain ⟨px, py⟩ := hpl
    obtain ⟨x0, x1⟩ := (isPl_iff _ _).1 px
    obtain ⟨i, rfl⟩ := Int.eq_ofNat_of_zero_le x0
    obtain ⟨y0, y1⟩ := (isPl_iff _ _).1 py
    obtain ⟨j, rfl⟩ := Int.eq_ofNat_of_zero_le y0
    have hi : i < ks.length := by omega
    have hj : j < ks.length := by omega
    obtain ⟨hts, hs2⟩ := place_tok HS.out hi
    obtain ⟨htt, ht2⟩ := place_tok HS.out hj
    have es : tmP ks i = s := by have := Hs.out; rw [hs2] at this; exact this
    have et : tmP ks j = t := by have := Ht.out; rw [ht2] at this; exact this
    have eb1 : b1 = true := by have := Hb1.out; rw [hs2] at this; exact this.symm
    have eb2 : b2 = true := by have := Hb2.out; rw [ht2] at this; exact this.symm
    subst eb1 eb2
    have HF := Lib.hid (stepF_at (L := L) HS.out hi hj)
    have hone : s.k = 1 → (i : Int) = 1 := fun h => one_place HS.out hi (by rw [es]; exact h)
    rw [es] at hts HF
    rw [et] at htt HF
    have HTS := Lib.hid hts
    have HTT := Lib.hid htt
    have HONE := Lib.hid hone
    clear es et hs2 ht2 px py x0 x1 y0 y1 Hs Ht Hb1 Hb2 hts htt hone
    generalize (i : Int) = x at *
    generalize (j : Int) = y at *
    go_upto_region 5 with fail
    generalize w2.alloc (Obj.cells #[.int .i64 t.k, .int .i64 t.s, .int .i64 t.p, .slice A2 t.xs.length c2] 60) = W at *
    have p0 := HB9b.out.c0
    have p1 := HB9b.out.c1
    have p2 := HB9b.out.c2
    have p3 := HB9b.out.c3
    have u0 := HB11.out.c0
    have u1 := HB11.out.c1
    have u2 := HB11.out.c2
    have u3 := HB11.out.c3
    have qp := (Q.refl W).alloc (Obj.cells #[.slice R L.length cl, .int .i64 x, .int .i64 y, .int .i64 s.k, .int .i64 s.s, .int .i64 s.p, .slice A1 s.xs.length c1, .int .i64 t.k, .int .i64 t.s, .int .i64 t.p, .slice A2 t.xs.length c2] 65)
    have HPB : Hid (PairB (W.alloc (Obj.cells #[.slice R L.length cl, .int .i64 x, .int .i64 y, .int .i64 s.k, .int .i64 s.s, .int .i64 s.p, .slice A1 s.xs.length c1, .int .i64 t.k, .int .i64 t.s, .int .i64 t.p, .slice A2 t.xs.length c2] 65)) W.heap.size R cl L x y s A1 c1 t A2 c2) := ⟨Ex.own_new8 W [.slice R L.length cl, .int .i64 x, .int .i64 y, .int .i64 s.k, .int .i64 s.s, .int .i64 s.p, .slice A1 s.xs.length c1, .int .i64 t.k, .int .i64 t.s, .int .i64 t.p, .slice A2 t.xs.length c2] 65, (HROW.out.q (Nat.le_refl _) qp).more qp.size, (HE1.out.q (Nat.le_refl _) qp).more qp.size, (HE2.out.q (Nat.le_refl _) qp).more qp.size⟩
    have HR8p := Lib.hid (HR8.out.q qp)
    have HQp := Lib.hid (HQw.out.trans qp)
    clear qp
    go_upto_region 6 with fail
    clear p0 p1 p2 p3 u0 u1 u2 u3
    generalize W.alloc (Obj.cells #[.slice R L.length cl, .int .i64 x, .int .i64 y, .int .i64 s.k, .int .i64 s.s, .int .i64 s.p, .slice A1 s.xs.length c1, .int .i64 t.k, .int .i64 t.s, .int .i64 t.p, .slice A2 t.xs.length c2] 65) = Wp at *
    go_wp2_with fail
    refine (told10_any _ R cl L x y s A1 c1 t A2 c2 Wp HPB.out _ _ HTS.out HTT.out H8.out HONE.out).mono ?_
    rintro e w3 ⟨g, rfl, hg, eg, q3⟩
    have HG := Lib.hid hg
    have HQ3 := Lib.hid q3
    clear hg q3
    go_wp2_with fail
    refine (HG.out w3 HQ3.out).mono ?_
    rintro e w4 ⟨A5, c5, rfl, hr5, q4, hA5⟩
    have HR4 := Lib.hid (HR8p.out.q (HQ3.out.trans q4))
    have HQ4 := Lib.hid ((HQp.out.trans HQ3.out).trans q4)
    have HR5 := Lib.hid hr5
    have HA5 := Lib.hid hA5
    have hsz : w.heap.size + 1 < Wp.heap.size := HR8p.out.1
    have hsz3 := HQ3.out.size
    clear hr5 hA5 q4
    generalize stepT L x y s t = wy at *
    obtain ⟨z00, z01⟩ := HR4.out.2 0 _ rfl
    obtain ⟨z10, z11⟩ := HR4.out.2 1 _ rfl
    go_wp2_with fail
    obtain ⟨⟨y0, y1⟩, hrd, hqw⟩ := way_close (w := w) (l := wy.2) (.int .i64 wy.1) (.slice A5 wy.2.length c5) HR4.out (by omega) HQ4.out HR5.out (fun _ ad ha => by have := HA5.out ad ha; omega)
    exact bodyPost_ret (v := .agg #[.int .i64 wy.1, .slice A5 wy.2.length c5]) (by simp [results, Try.f11, go_sem, y0, y1]) rfl ⟨_, _, by rw [HF.out], by rw [HF.out]; exact hrd, hqw, fun ad ha => by have := HA5.out ad ha; omega⟩
  · have HFz : Hid (stepF L ks x y = (0, [])) := stepF_no hpl
    have ebb : (!b1 || !b2) = true := by
      by_cases px : isPl x ks.length = true
      · have : b2 = false := by rw [← Hb2.out, termAt_no (fun h => hpl ⟨px, h⟩)]; rfl
        rw [this]; simp
      · have : b1 = false := by rw [← Hb1.out, termAt_no px]; rfl
        rw [this]; rfl
    obtain ⟨r00, r01⟩ := HR8.out.2 0 _ rfl
    obtain ⟨r10, r11⟩ := HR8.out.2 1 _ rfl
    clear hpl
    cases b1
    · go_wp2_with fail
      obtain ⟨⟨y0, y1⟩, hrd, hqw⟩ := way_close (w := w) (A := none) (l := []) (.int .i64 0) (.slice none 0 0) HR8.out (by omega) HQw.out (Rds.nil _ _ _) (fun h => absurd h (by simp))
      exact bodyPost_ret (v := .agg #[.int .i64 0, .slice none 0 0]) (by simp [results, Try.f11, go_sem, y0, y1]) rfl ⟨none, 0, by rw [HFz.out]; rfl, by rw [HFz.out]; exact hrd, hqw, fun _ h => by cases h⟩
    · cases b2
      · go_wp2_with fail
        obtain ⟨⟨y0, y1⟩, hrd, hqw⟩ := way_close (w := w) (A := none) (l := []) (.int .i64 0) (.slice none 0 0) HR8.out (by omega) HQw.out (Rds.nil _ _ _) (fun h => absurd h (by simp))
        exact bodyPost_ret (v := .agg #[.int .i64 0, .slice none 0 0]) (by simp [results, Try.f11, go_sem, y0, y1]) rfl ⟨none, 0, by rw [HFz.out]; rfl, by rw [HFz.out]; exact hrd, hqw, fun _ h => by cases h⟩
      · cases ebb
end Go.Proofs.Ytjehccemilefgaa.St

namespace Go.Proofs.Ytjehccemilefgaa.St
open Go.RowKit Kit Rw Go.Maps
open Go.Proofs.Ytjehccemilefgaa.Sg (Sig)
open Go.Proofs.Ytjehccemilefgaa.Tm (Tm Store Wf isPl isPl_iff)
section
variable {W1 wr wr' : World} {cb : Nat} {C : List PI} {u v : Value} {a c : List PI}
end
end Go.Proofs.Ytjehccemilefgaa.St

namespace Go.Proofs.Ytjehccemilefgaa.St
open Go.RowKit Kit Rw Go.Maps
open Go.Proofs.Ytjehccemilefgaa.Sg (Sig Row)
open Go.Proofs.Ytjehccemilefgaa.Hs (Ints Keys BoxT)
open Go.Proofs.Ytjehccemilefgaa.Tm (Tm Store Wf isPl isPl_iff)
end Go.Proofs.Ytjehccemilefgaa.St

namespace Go.Proofs.Ytjehccemilefgaa.Sg
open Go.ChangeShapes Go.WideShapes Go.RowKit Kit Go.Deep Go.Joins

section
variable {H : Type} {enc : TypeId × Value → H} {W : World} {base : Nat}
end
end Go.Proofs.Ytjehccemilefgaa.Sg

namespace Go.Proofs.Ytjehccemilefgaa.Tm
open Go.RowKit Kit Hs

def of10B (l : List Sg.Sig) (ks : List (List Int)) (sl : List Int) : Bool := decide (l.length ≤ 64) && Sg.rightB l && fewB ks sl.length && storeB l ks sl

set_option maxRecDepth 100000 in
set_option maxHeartbeats 1000000 in
theorem of10_any (L A S : Option Addr) (nl cl n c m d : Nat) (l : List Sg.Sig) (ks : List (List Int)) (sl : List Int) (w : World) (hnl : nl = l.length) (hr : Sg.Row w w.heap.size L l) (hn : n = ks.length) (hm : m = sl.length) (hk : Keys w w.heap.size A ks) (hS : Ints w w.heap.size S sl)
    (hll : l.length ≤ maxLen) (hsz : Sg.Sized l) (hl : ks.length ≤ 1152921504606846976) (hs : ∀ k ∈ ks, k.length ≤ 1152921504606846976) (hsl : sl.length ≤ 1152921504606846976) :
    Calls Try.prog 10 #[.slice L nl cl, .agg #[.slice A n c, .slice S m d]] w fun e w' => e = .returned (.bool (of10B l ks sl)) ∧ Q w w' := by
  subst hnl
  subst hn
  subst hm
  have q0 := (Q.refl w).alloc (Obj.cells #[Value.slice A ks.length c, Value.slice S sl.length d] 26)
  have Hr := Lib.hid ((hr.q (Nat.le_refl _) q0).more q0.size)
  have Hk := Lib.hid ((hk.q (Nat.le_refl _) q0).more q0.size)
  have HS := Lib.hid ((hS.q (Nat.le_refl _) q0).more q0.size)
  have HB := Lib.hid (BoxT.new w (Value.slice A ks.length c) (Value.slice S sl.length d) 26)
  have HsM := Lib.hid hs
  have HD : Hid (of10B l ks sl = (decide (l.length ≤ 64) && Sg.rightB l && fewB ks sl.length && storeB l ks sl)) := rfl
  clear hr hk hS hs
  by_cases h64 : l.length ≤ 64
  · have d64 : decide ((l.length : Int) ≤ 64) = true := decide_eq_true (by omega)
    cases hR : Sg.rightB l
    · have HR : Hid (of10B l ks sl = false) := by unfold Hid; rw [HD.out, hR, Bool.and_false]; rfl
      go_enter Try.func10, Try.ntmps10
      go_wp2_with fail
      refine (Sg.refRight_any _ _ _ l _ rfl Hr.out hll hsz).mono ?_
      rintro e w1 ⟨rfl, rfl⟩
      go_wp2_with fail
      go_ret
      exact ⟨by rw [HR.out]; rfl, q0⟩
    · cases hf : fewB ks sl.length
      · have HR : Hid (of10B l ks sl = false) := by unfold Hid; rw [HD.out, hf, Bool.and_false]; rfl
        go_enter Try.func10, Try.ntmps10
        go_wp2_with fail
        refine (Sg.refRight_any _ _ _ l _ rfl Hr.out hll hsz).mono ?_
        rintro e w1 ⟨rfl, rfl⟩
        go_wp2_with fail
        refine (refFew_any _ _ _ _ _ _ ks _ rfl Hk.out hl HsM.out hsl).mono ?_
        rintro e w2 ⟨rfl, q2⟩
        go_wp2_with fail
        go_ret
        exact ⟨by rw [HR.out]; rfl, q0.trans q2⟩
      · have HR : Hid (of10B l ks sl = storeB l ks sl) := by unfold Hid; rw [HD.out, decide_eq_true h64, hR, hf]; rfl
        have hsum := few_sum hf
        go_enter Try.func10, Try.ntmps10
        go_wp2_with fail
        generalize w.alloc (Obj.cells #[Value.slice A ks.length c, Value.slice S sl.length d] 26) = W0 at *
        refine (Sg.refRight_any _ _ _ l _ rfl Hr.out hll hsz).mono ?_
        rintro e w1 ⟨rfl, rfl⟩
        have b0 := HB.out.c0
        have b1 := HB.out.c1
        go_wp2_with fail
        refine (refFew_any _ _ _ _ _ _ ks _ rfl Hk.out hl HsM.out hsl).mono ?_
        rintro e w2 ⟨rfl, q2⟩
        clear b0 b1
        have b0 := (HB.out.q q2).c0
        have b1 := (HB.out.q q2).c1
        go_wp2_with fail
        refine (refRight3_any _ _ _ _ _ _ _ _ _ l ks sl _ rfl ((Hr.out.q (Nat.le_refl _) q2).more q2.size) rfl rfl ((Hk.out.q (Nat.le_refl _) q2).more q2.size) ((HS.out.q (Nat.le_refl _) q2).more q2.size) (fun k hk => by have := mem_len hk; unfold maxLen; omega) (by omega) (by unfold maxLen; omega)).mono ?_
        rintro e w3 ⟨rfl, q3⟩
        go_wp2_with fail
        go_ret
        exact ⟨by rw [HR.out]; rfl, (q0.trans q2).trans q3⟩
  · have d64 : decide ((l.length : Int) ≤ 64) = false := decide_eq_false (by omega)
    have HR : Hid (of10B l ks sl = false) := by unfold Hid; rw [HD.out, decide_eq_false h64]; rfl
    go_enter Try.func10, Try.ntmps10
    go_wp2_with fail
    go_ret
    exact ⟨by rw [HR.out]; rfl, q0⟩

end Go.Proofs.Ytjehccemilefgaa.Tm

namespace Go.Proofs.Ytjehccemilefgaa.Rw
open Go.ChangeShapes Go.WideShapes Go.RowKit Kit Go.Deep Go.Joins

theorem weights_all {H : Type} {P : Program} {e : TypeId} : ∀ {ds : List (DataW H)} {d : DataW H}, d ∈ ds → ∀ n ∈ d.weights P e, n ∈ DataW.weightsAll P e ds
  | x :: l, d, h, n, hn => by
    simp only [DataW.weightsAll, List.mem_append]
    rcases List.mem_cons.1 h with rfl | h
    · exact .inl hn
    · exact .inr (weights_all h n hn)
section
variable {H : Type} {enc : TypeId × Value → H} {P : Program} {w : World} {base : Nat} {spare : Nat → Bool} {held : Bool}
end
end Go.Proofs.Ytjehccemilefgaa.Rw

namespace Go.Proofs.Ytjehccemilefgaa.Sg
open Go.ChangeShapes Go.WideShapes Go.RowKit Kit Go.Deep Go.Joins
section
variable {H : Type} {enc : TypeId × Value → H} {W : World}
theorem open_sigs_cells10 {fuel : Nat} {v : Value} {y : DataW H × List MemPlace} (hf : DataW.trod enc Try.prog W 0 (fun _ => true) true fuel 22 [v] = some y) :
    ∃ A n c l, v = .slice A n c ∧ n = l.length ∧ Row W W.heap.size A l ∧ l.length ≤ maxLen ∧ Sized l ∧ n ≤ c := by
  rcases open_slice_pairs Try.underlying22 Try.underlying55 (by kernel_rfl) rfl rfl (by kernel_rfl) (by kernel_rfl) hf with ⟨h0, _⟩ | ⟨ad, len', cap', m, n, V0, V1, D0, D1, P0, P1, hcs, _, hl, hm, hmm, _, hi⟩
  · simp only [List.cons.injEq, and_true] at h0
    subst h0
    exact ⟨_, _, _, [], rfl, rfl, fun h => absurd h (by simp), by simp, (fun s hs => by cases hs), Nat.le_refl _⟩
  · simp only [List.cons.injEq, and_true] at hcs
    subst hcs
    obtain ⟨len, hlen'⟩ : ∃ len, len = len' := ⟨_, rfl⟩
    subst hlen'
    have hlm : len ≤ m := by rw [hmm]; split <;> omega
    have each : ∀ i, i < len → ∃ s : Sig, W.cell? (ad.add (i * 2)) = some (.string s.1) ∧ W.cell? (ad.add (i * 2 + 1)) = some (.string s.2) ∧ s.1.size ≤ maxLen ∧ s.2.size ≤ maxLen := fun i hil => by
      obtain ⟨c0, c1, t0, t1⟩ := hi i (by omega)
      obtain ⟨s0, e0, _, z0⟩ := DataW.trod_string Try.underlying9 t0
      obtain ⟨s1, e1, _, z1⟩ := DataW.trod_string Try.underlying9 t1
      simp only [List.cons.injEq, and_true] at e0 e1
      exact ⟨(s0, s1), by rw [c0, e0], by rw [c1, e1], z0, z1⟩
    obtain ⟨q, hq⟩ := choose_lt each
    refine ⟨_, _, _, (List.range len).map q, rfl, by simp, fun h0 => ⟨ad, rfl, ?_, fun i s hs => ?_⟩, by simp; omega, fun s hs => ?_, hl⟩
    · have := (hq 0 (by simpa using h0)).1
      have := World.block_lt_of_cell? W _ this
      rwa [add_block] at this
    · have hil : i < len := by
        have := (List.getElem?_eq_some_iff.1 hs).1
        simpa using this
      have e : s = q i := by
        rw [List.getElem?_map, List.getElem?_range hil] at hs
        simpa using hs.symm
      subst e
      obtain ⟨c0, c1, _, _⟩ := hq i hil
      rw [add_succ] at c1
      exact ⟨c0, c1⟩
    · simp only [List.mem_map, List.mem_range] at hs
      obtain ⟨i, hil, rfl⟩ := hs
      exact (hq i hil).2.2
end
end Go.Proofs.Ytjehccemilefgaa.Sg
namespace Go.Proofs.Ytjehccemilefgaa.St
open Go.ChangeShapes Go.WideShapes Go.RowKit Kit Rw Go.Deep Go.Joins
open Go.Proofs.Ytjehccemilefgaa.Sg (Sig Row Sized)
open Go.Proofs.Ytjehccemilefgaa.Hs (Keys Ints)
section
variable {H : Type} {enc : TypeId × Value → H} {P : Program} {w : World} {base : Nat} {spare : Nat → Bool} {held : Bool}
set_option maxRecDepth 100000 in
theorem open_nest10_3 {r : Go.Reach} {b0 : Nat} {t : TypeId} {f0 f1 f2 f3 f4 : Field} {v : Value} {d : DataW H} {p : List MemPlace} (hs : P.underlying t = some (.struct #[f0, f1, f2, f3, f4])) (hC : P.cellsOf t = 6)
    (o0 : f0.offset = 0) (k0 : P.cellsOf f0.type = 1) (o1 : f1.offset = 1) (k1 : P.cellsOf f1.type = 2) (o2 : f2.offset = 3) (k2 : P.cellsOf f2.type = 1) (o3 : f3.offset = 4) (k3 : P.cellsOf f3.type = 1) (o4 : f4.offset = 5) (k4 : P.cellsOf f4.type = 1)
    (hv : Value.okWide P w r b0 t v) (h : DataW.Trod enc P w base spare held t v d p) :
    ∃ (c0 c1 c2 c3 c4 c5 : Value) (y0 y1 y2 y3 y4 : DataW H × List MemPlace) (n : Nat), v = .agg #[c0, c1, c2, c3, c4, c5] ∧ d = .agg [y0.1, y1.1, y2.1, y3.1, y4.1] ∧
      DataW.trod enc P w base spare held n f0.type [c0] = some y0 ∧ DataW.trod enc P w base spare held n f1.type [c1, c2] = some y1 ∧ DataW.trod enc P w base spare held n f2.type [c3] = some y2 ∧ DataW.trod enc P w base spare held n f3.type [c4] = some y3 ∧ DataW.trod enc P w base spare held n f4.type [c5] = some y4 := by
  obtain ⟨cs, rfl, hsz⟩ := okWide_struct hs hv
  obtain ⟨l⟩ := cs
  match l, hsz.trans hC with
  | [c0, c1, c2, c3, c4, c5], _ =>
    obtain ⟨fuel, hf⟩ := h
    obtain ⟨xs, n, _, hx, _, hlen, hg⟩ := DataW.trod_struct hs hf
    match xs, hlen with
    | [y0, y1, y2, y3, y4], _ =>
      simp only [Prod.mk.injEq] at hx
      exact ⟨c0, c1, c2, c3, c4, c5, y0, y1, y2, y3, y4, n, rfl, by simpa using hx.1, by simpa [Value.cells, o0, k0] using hg 0 f0 rfl, by simpa [Value.cells, o1, k1] using hg 1 f1 rfl, by simpa [Value.cells, o2, k2] using hg 2 f2 rfl, by simpa [Value.cells, o3, k3] using hg 3 f3 rfl, by simpa [Value.cells, o4, k4] using hg 4 f4 rfl⟩
set_option maxRecDepth 100000 in
theorem open_two10 {t : TypeId} {f0 f1 : Field} {fuel : Nat} {c0 c1 : Value} {x : DataW H × List MemPlace} (hs : P.underlying t = some (.struct #[f0, f1]))
    (o0 : f0.offset = 0) (k0 : P.cellsOf f0.type = 1) (o1 : f1.offset = 1) (k1 : P.cellsOf f1.type = 1) (h : DataW.trod enc P w base spare held fuel t [c0, c1] = some x) :
    ∃ (y0 y1 : DataW H × List MemPlace) (n : Nat), x.1 = .agg [y0.1, y1.1] ∧ DataW.trod enc P w base spare held n f0.type [c0] = some y0 ∧ DataW.trod enc P w base spare held n f1.type [c1] = some y1 := by
  obtain ⟨xs, n, _, hx, _, hlen, hg⟩ := DataW.trod_struct hs h
  match xs, hlen with
  | [y0, y1], _ => exact ⟨y0, y1, n, by rw [hx]; rfl, by simpa [o0, k0] using hg 0 f0 rfl, by simpa [o1, k1] using hg 1 f1 rfl⟩
end
section
variable {H : Type} {enc : TypeId × Value → H} {W : World} {base : Nat}
set_option maxRecDepth 100000 in
theorem cap_rows10 {fuel : Nat} {A : Option Addr} {n c : Nat} {x : DataW H × List MemPlace} (h : DataW.trod enc Try.prog W 0 (fun _ => true) true fuel 23 [.slice A n c] = some x) : n ≤ c := by
  rcases open_int_rows Try.underlying23 Try.underlying24 Try.underlying3 Hs.cells_ints Hs.cells_int h with ⟨hcs, _⟩ | ⟨a, len, cap, _, _, _, _, hcs, _, hl, _⟩
  · simp at hcs
    obtain ⟨rfl, rfl, rfl⟩ := hcs
    exact Nat.le_refl _
  · simp at hcs
    obtain ⟨rfl, rfl, rfl⟩ := hcs
    exact hl
theorem byte_of {x : Int} (h0 : 0 ≤ x) (h1 : x < 256) : ∃ sd : UInt8, x = (sd.toNat : Int) := by
  refine ⟨UInt8.ofNat x.toNat, ?_⟩
  rw [UInt8.toNat_ofNat']
  omega
set_option maxRecDepth 100000 in
theorem open_StepTellsIn {v : Value} {d : DataW H} {p : List MemPlace} (hv : Value.okWide Try.prog W .any base 28 v) (h : DataW.Trod enc Try.prog W 0 (fun _ => true) true 28 v d p) (hz : ∀ n ∈ d.weights Try.prog 28, n ≤ reachBytes) :
    ∃ (R : Option Addr) (nl cl : Nat) (L : List Sig) (A : Option Addr) (n c : Nat) (S : Option Addr) (m e : Nat) (ks : List (List Int)) (sl : List Int) (x0 : Int) (x1 : Int) (sd : UInt8), v = .agg #[.slice R nl cl, .slice A n c, .slice S m e, .int .i64 x0, .int .i64 x1, .int .u8 (sd.toNat : Int)] ∧ nl = L.length ∧ Row W W.heap.size R L ∧ L.length ≤ maxLen ∧ Sized L ∧
      n = ks.length ∧ m = sl.length ∧ Keys W W.heap.size A ks ∧ Ints W W.heap.size S sl ∧ ks.length ≤ 1152921504606846976 ∧ (∀ k ∈ ks, k.length ≤ 1152921504606846976) ∧ sl.length ≤ 1152921504606846976 ∧ n ≤ c ∧ (Lit.int .i64 x0).wf = true ∧ (Lit.int .i64 x1).wf = true := by
  obtain ⟨c0, c1, c2, c3, c4, c5, y0, y1, y2, y3, y4, n, rfl, rfl, g0, g1, g2, g3, g4⟩ := open_nest10_3 Try.underlying28 (by kernel_rfl) rfl (by kernel_rfl) rfl (by kernel_rfl) rfl (by kernel_rfl) rfl (by kernel_rfl) rfl (by kernel_rfl) hv h
  obtain ⟨z0, z1, _, hy, t0, t1⟩ := open_two10 Try.underlying26 rfl (by kernel_rfl) rfl (by kernel_rfl) g1
  have hw : DataW.weights Try.prog 28 (.agg [y0.1, y1.1, y2.1, y3.1, y4.1]) = y0.1.weights Try.prog 22 ++ (y1.1.weights Try.prog 26 ++ (y2.1.weights Try.prog 3 ++ (y3.1.weights Try.prog 3 ++ (y4.1.weights Try.prog 5 ++ ([]))))) := by
    simp [DataW.weights, Try.underlying28, DataW.weightsEach]
  have hw1 : DataW.weights Try.prog 26 (.agg [z0.1, z1.1]) = z0.1.weights Try.prog 23 ++ (z1.1.weights Try.prog 24 ++ []) := by
    simp [DataW.weights, Try.underlying26, DataW.weightsEach]
  rw [hw, hy, hw1] at hz
  obtain ⟨R, nl, cl, L, rfl, a1, a2, a3, a4, _⟩ := Sg.open_sigs_cells10 g0
  obtain ⟨A, n', c, ks, rfl, hn, hk, hl, hs⟩ := Hs.open_rows_cells t0 (fun n hn => hz n (by simp [hn]))
  obtain ⟨S, m, e, sl, rfl, hm, _, hS, hsl⟩ := Hs.open_row_cells t1 (fun n hn => hz n (by simp [hn]))
  obtain ⟨x0, e0, _, w0⟩ := DataW.trod_int Try.underlying3 g2
  simp only [List.cons.injEq, and_true] at e0
  subst e0
  obtain ⟨x1, e1, _, w1⟩ := DataW.trod_int Try.underlying3 g3
  simp only [List.cons.injEq, and_true] at e1
  subst e1
  obtain ⟨x2, e2, _, w2⟩ := DataW.trod_int Try.underlying5 g4
  simp only [List.cons.injEq, and_true] at e2
  have hb2 : 0 ≤ x2 ∧ x2 < 256 := by
    have h1 : IntKind.u8.min = 0 := rfl
    have h2 : IntKind.u8.max = 255 := rfl
    simp [Lit.wf] at w2
    omega
  subst e2
  obtain ⟨sd, rfl⟩ : ∃ sd : UInt8, x2 = (sd.toNat : Int) := byte_of hb2.1 hb2.2
  exact ⟨R, nl, cl, L, A, n', c, S, m, e, ks, sl, x0, x1, sd, rfl, a1, a2, a3, a4, hn, hm, hk, hS, hl, hs, hsl, cap_rows10 t0, w0, w1⟩
end
end Go.Proofs.Ytjehccemilefgaa.St

namespace Go.Proofs.Ytjehccemilefgaa.St
open Go.RowKit Kit Rw
open Go.Proofs.Ytjehccemilefgaa.Sg (Sig Row)
open Go.Proofs.Ytjehccemilefgaa.Hs (Ints Keys BoxT OwnI make_ints)
open Go.Proofs.Ytjehccemilefgaa.Tm (Tm Store termAt LookF Box4 isPl isPl_iff)
open Go.Proofs.Ytjehccemilefgaa.Ld (tmP parts_ahead)
theorem bit_zero (b : Ask) : (bitI b == 0) = decide (b = (false, false)) := by
  obtain ⟨x, y⟩ := b; cases x <;> cases y <;> rfl
theorem bit_or (b c : Ask) : bits BinOp.or IntKind.i64 (bitI b) (bitI c) = bitI (askOr b c) := by
  obtain ⟨x, y⟩ := b; obtain ⟨z, v⟩ := c
  cases x <;> cases y <;> cases z <;> cases v <;> rfl
def OwnS (w : World) (g : Nat) (S : List Ask) : Prop := OwnI w g (S.map bitI)
theorem OwnS.at_ {w : World} {g : Nat} {S : List Ask} (h : OwnS w g S) {s : Nat} {b : Ask} (hs : S[s]? = some b) : w.cell? ⟨g, s, none⟩ = some (.int .i64 (bitI b)) ∧ w.frozen? ⟨g, s, none⟩ = false := h.2 s _ (by rw [List.getElem?_map, hs]; rfl)
theorem OwnS.q {w w' : World} {g : Nat} {S : List Ask} (h : OwnS w g S) (q : Q w w') : OwnS w' g S := OwnI.q h q
theorem OwnS.set {w : World} {g : Nat} {S : List Ask} (h : OwnS w g S) {s : Nat} (hs : s < S.length) (b : Ask) : OwnS (w.setCell ⟨g, s, none⟩ (.int .i64 (bitI b))) g (S.set s b) := by
  unfold OwnS
  rw [List.map_set]
  exact OwnI.set h (by simpa using hs) _
set_option maxRecDepth 100000 in
set_option maxHeartbeats 8000000 in
theorem sided10_any (R A S : Option Addr) (nl cl n c m d : Nat) (L : List Sig) (ks : List (List Int)) (id : Int) (side : UInt8) (w : World) (hnl : nl = L.length) (hr : Row w w.heap.size R L) (hn : n = ks.length) (hk : Keys w w.heap.size A ks) (hS : Store L ks) (hl8 : ∀ s ∈ L, s.2.size ≤ 8) (hs : ∀ k ∈ ks, k.length ≤ 100000) (hcap : ks.length ≤ c) (hks : ks.length ≤ 100000) :
    Calls Try.prog 14 #[.slice R nl cl, .agg #[.slice A n c, .slice S m d], .int .i64 id, .int .u8 (side.toNat : Int)] w fun e w' => e = .returned (.bool (sidedF L ks id side)) ∧ Q w w' := by
  subst hnl hn
  have HQ0 := Lib.hid ((Q.refl w).alloc (Obj.cells #[Value.slice A ks.length c, Value.slice S m d] 26))
  have HT := Lib.hid (BoxT.new w (Value.slice A ks.length c) (Value.slice S m d) 26)
  have CO : Hid (∀ U z, Q w U → Calls Try.prog 25 #[.slice R L.length cl, .agg #[.slice A ks.length c, .slice S m d], .int .i64 z] U (LookF ks z U)) := fun U z p => look10_any R A S L.length cl ks.length c m d L ks z U rfl ((hr.q (Nat.le_refl _) p).more p.size) rfl ((hk.q (Nat.le_refl _) p).more p.size) hS hs hcap
  have HRow := Lib.hid hr
  have HS := Lib.hid hS
  have H8 := Lib.hid hl8
  have HsM := Lib.hid hs
  have HF : Hid (sidedF L ks id side = (isPl id ks.length && onF side (sdP L ks id.toNat))) := rfl
  clear hr hk hS hl8 hs hcap
  by_cases hp : isPl id ks.length = true
  · obtain ⟨p0, p1⟩ := (isPl_iff _ _).1 hp
    obtain ⟨n0, rfl⟩ := Int.eq_ofNat_of_zero_le p0
    have hn0 : n0 < ks.length := by omega
    rw [hp, Bool.true_and, Int.toNat_natCast] at HF
    have d0 : decide ((n0 : Int) < 0) = false := decide_eq_false (by omega)
    have d1 : decide ((ks.length : Int) ≤ (n0 : Int)) = false := decide_eq_false (by omega)
    have hmk : ∀ u : World, (Instr.makeSlice 24 (.int .i64 ((n0 : Int) + 1)) (.int .i64 ((n0 : Int) + 1))).run Try.prog u = .ok (.slice (some ⟨u.heap.size, 0, none⟩) (n0 + 1) (n0 + 1)) (u.alloc (.cells (madeCells #[.int .i64 0] (n0 + 1)) 3)) := fun u => by
      have := make_ints (n0 + 1) (by omega) u
      rwa [Int.natCast_add] at this
    have HM0 := Lib.hid (met_side HS.out hn0 side)
    clear p0 hp
    go_enter Try.func14, Try.ntmps14
    go_upto_region 3 with fail
    generalize w.alloc (Obj.cells #[Value.slice A ks.length c, Value.slice S m d] 26) = W1 at *
    have j0 : (0 : Int) ≤ (n0 : Int) := by omega
    have j1 : (n0 : Int) < 100000 := by omega
    go_upto_region 4 with fail
    clear d0 d1 hmk
    have hM : OwnS (W1.alloc (.cells (madeCells #[.int .i64 0] (n0 + 1)) 3)) W1.heap.size (List.replicate (n0 + 1) (false, false)) := by
      unfold OwnS
      rw [List.map_replicate]
      exact OwnI.made W1 (n0 + 1) 3
    have HMs := Lib.hid (hM.set (s := n0) (by simp) (askSide side))
    have m0 := hM.at_ (s := n0) (b := (false, false)) (by rw [List.getElem?_replicate, if_pos (by omega)])
    obtain ⟨m1, m2⟩ := m0
    have hm1 : (W1.alloc (.cells (madeCells #[.int .i64 0] (n0 + 1)) 3)).cell? ⟨W1.heap.size, n0, none⟩ = some (.int .i64 0) := m1
    have HqM := Lib.hid (((Q.refl W1).alloc (.cells (madeCells #[.int .i64 0] (n0 + 1)) 3)).setCell (p := ⟨W1.heap.size, n0, none⟩) (Nat.le_refl _) (.int .i64 (bitI (askSide side))))
    clear hM m1
    generalize hWM : W1.alloc (.cells (madeCells #[.int .i64 0] (n0 + 1)) 3) = WM at *
    have j2 : (n0 : Int) < ((n0 + 1 : Nat) : Int) := by omega
    go_wp2_with (go_at_call 31; refine (sideOf10_any side _).mono ?_; rintro e w2 ⟨rfl, rfl⟩)
    have HI0 : Hid (onF side (sdP L ks n0) = allMet L ks ((List.replicate (n0 + 1) (false, false)).set n0 (askSide side)) (n0 + 1)) := by unfold Hid; rw [allMet_first, HM0.out]
    clear hm1 m2 hWM
    go_loopw [36] (fun iv wr => ∃ (k : Nat) (SS : List Ask), k ≤ n0 + 1 ∧ iv = .int .i64 k ∧ SS.length = n0 + 1 ∧ Hid (onF side (sdP L ks n0) = allMet L ks SS (n0 + 1 - k)) ∧ Hid (OwnS wr W1.heap.size SS) ∧ Hid (Q W1 wr)) (fun iv _ => n0 + 1 - (intOf iv).toNat)
    case atStart => exact ⟨0, _, Nat.zero_le _, rfl, by simp, HI0, HMs, HqM⟩
    case round =>
      clear HMs HqM HI0 HM0
      obtain ⟨k, SS, hk, rfl, hSL, HI, HO, HQ⟩ := hrel
      have b0 := (HT.out.q HQ.out).c0
      have b1 := (HT.out.q HQ.out).c1
      by_cases hlt : k ≤ n0
      · obtain ⟨n, hn⟩ : ∃ n : Nat, n + k = n0 := ⟨n0 - k, by omega⟩
        have hnk : (n0 : Int) - (k : Int) = (n : Int) := by omega
        have hni : n < n0 + 1 := by omega
        have hnl : n < ks.length := by omega
        have HN := Lib.hid hn
        obtain ⟨b, hb⟩ : ∃ b, SS[n]? = some b := ⟨_, List.getElem?_eq_getElem (by omega)⟩
        have HI1 : Hid (onF side (sdP L ks n0) = (allMet L ks SS n && met b (sdP L ks n))) := by
          unfold Hid
          rw [HI.out, show n0 + 1 - k = n + 1 by omega, allMet_succ, hb]; rfl
        have HB := Lib.hid hb
        obtain ⟨hc1, hc2⟩ := HO.out.at_ hb
        have z0 := bit_zero b
        have i0 : (0 : Int) ≤ (n : Int) := by omega
        have i1 : (n : Int) < ((n0 + 1 : Nat) : Int) := by omega
        have i2 : decide ((k : Int) < (n0 : Int) + 1) = true := decide_eq_true (by omega)
        have HSL := Lib.hid hSL
        clear hb HI hn hSL
        by_cases hb0 : b = (false, false)
        · rw [decide_eq_true hb0] at z0
          have HI2 : Hid (onF side (sdP L ks n0) = allMet L ks SS n) := by unfold Hid; rw [HI1.out, hb0, met_none, Bool.and_true]
          clear hb0
          go_wp2_with fail
          go_roundw
          case rel => exact ⟨k + 1, SS, by omega, by go_num, HSL.out, Lib.hid (by rw [HI2.out, show n0 + 1 - (k + 1) = n by have := HN.out; omega]), HO, HQ⟩
          case measure => simp [intOf]; omega
        · rw [decide_eq_false hb0] at z0
          obtain ⟨htok, hterm⟩ := place_tok HS.out hnl
          have hpar := (parts_ahead HS.out (List.getElem?_eq_getElem hnl)).2.2
          rw [← tmP_is hnl] at hpar
          have hown := met_own HS.out hnl hb0
          have hxlen : (tmP ks n).xs.length ≤ 100000 := by
            rw [tmP_is hnl]
            have := HsM.out _ (List.getElem_mem hnl)
            simp only [Tm.ofKey, List.length_drop]
            omega
          generalize tmP ks n = t at *
          have HXLEN := Lib.hid hxlen
          clear hxlen
          have HTOK := Lib.hid htok
          have HTM := Lib.hid hterm
          have HPAR := Lib.hid hpar
          have HOWN := Lib.hid hown
          clear htok hterm hpar hown hb0
          go_upto_region 10 with fail
          clear hc1 hc2
          go_wp2_with fail
          refine (CO.out wr n (HQ0.out.trans HQ.out)).mono ?_
          rintro e w2 ⟨A1, n1, c1, rfl, hn1, hi1, q2, hfr⟩
          rw [HTM.out] at hn1 hi1 ⊢
          simp only [Option.getD_some, Option.isSome_some] at hn1 hi1 ⊢
          subst hn1
          rw [HTM.out] at hfr
          have HFR : Hid (0 < t.xs.length → ∀ ad, A1 = some ad → W1.heap.size < ad.block) := fun h0 ad e => Nat.lt_of_lt_of_le HO.out.1 (hfr h0 ad e)
          clear hfr
          have qa := (Q.refl w2).alloc (Obj.cells #[.int .i64 t.k, .int .i64 t.s, .int .i64 t.p, .slice A1 t.xs.length c1] 60)
          have HX := Lib.hid (Box4.new w2 (.int .i64 t.k) (.int .i64 t.s) (.int .i64 t.p) (.slice A1 t.xs.length c1) 60)
          have HQ2 := Lib.hid ((HQ.out.trans q2).trans qa)
          have HO2 := Lib.hid ((HO.out.q q2).q qa)
          have HIx := Lib.hid ((hi1.q (Nat.le_refl _) qa).more qa.size)
          have HW2 : Hid (W1.heap.size < w2.heap.size) := HO.out.1 |> fun h => Nat.lt_of_lt_of_le h q2.size
          clear q2 qa hi1 b0 b1
          go_upto_region 11 with fail
          generalize w2.alloc (Obj.cells #[.int .i64 t.k, .int .i64 t.s, .int .i64 t.p, .slice A1 t.xs.length c1] 60) = W4 at *
          have HJ1 := Lib.hid j1
          have i1' : (n : Int) < (n0 : Int) + 1 := by have := HN.out; omega
          have hS11 : Hid (∀ U, Q W4 U → (U.cell? ⟨w2.heap.size, 0, none⟩ = some (.int .i64 t.k) ∧ U.cell? ⟨W1.heap.size, n, none⟩ = some (.int .i64 (bitI b)))) := fun U q => ⟨(HX.out.q q).c0, ((HO2.out.q q).at_ HB.out).1⟩
          refine wp_region_held_drew (S := fun w' => w'.cell? ⟨w2.heap.size, 0, none⟩ = some (.int .i64 t.k) ∧ w'.cell? ⟨W1.heap.size, n, none⟩ = some (.int .i64 (bitI b))) (by kernel_rfl) ?_ (fun hHeld => ?_)
          · exact hS11.out _ (Q.refl W4).drew
          refine take_w (i := 0) (d := some 54) (v := ?_) rfl (by kernel_rfl) (by kernel_rfl) (by kernel_rfl) (fun _ _ _ h => h) rfl (by rfl) ?_ (by assumption) ?_
          rotate_left
          · (intro w hSw; (try dsimp only at hSw); go_simp; (try with_reducible rfl))
          try simp only [Act.put, List.setIfInBounds_toArray, List.set_cons_zero, List.set_cons_succ]
          refine take_w (i := 1) (d := some 55) (v := ?_) rfl (by kernel_rfl) (by kernel_rfl) (by kernel_rfl) (fun _ _ _ h => h) rfl (by rfl) ?_ (by assumption) ?_
          rotate_left
          · (intro w hSw; (try dsimp only at hSw); go_simp; (try with_reducible rfl))
          try simp only [Act.put, List.setIfInBounds_toArray, List.set_cons_zero, List.set_cons_succ]
          refine take_w (i := 2) (d := some 56) (v := ?_) rfl (by kernel_rfl) (by kernel_rfl) (by kernel_rfl) (fun _ _ _ h => h) rfl (by rfl) ?_ (by assumption) ?_
          rotate_left
          · (intro w hSw; (try dsimp only at hSw); go_simp; (try with_reducible rfl))
          try simp only [Act.put, List.setIfInBounds_toArray, List.set_cons_zero, List.set_cons_succ]
          refine take_w (i := 3) (d := some 57) (v := ?_) rfl (by kernel_rfl) (by kernel_rfl) (by kernel_rfl) (fun _ _ _ h => h) rfl (by rfl) ?_ (by assumption) ?_
          rotate_left
          · (intro w hSw; (try dsimp only at hSw); go_simp; (try with_reducible rfl))
          try simp only [Act.put, List.setIfInBounds_toArray, List.set_cons_zero, List.set_cons_succ]
          refine take_w (i := 4) (d := some 58) (v := ?_) rfl (by kernel_rfl) (by kernel_rfl) (by kernel_rfl) (fun _ _ _ h => h) rfl (by rfl) ?_ (by assumption) ?_
          rotate_left
          · (intro w hSw; (try dsimp only at hSw); go_simp; (try with_reducible rfl))
          try simp only [Act.put, List.setIfInBounds_toArray, List.set_cons_zero, List.set_cons_succ]
          refine take_w (i := 5) (d := some 59) (v := ?_) rfl (by kernel_rfl) (by kernel_rfl) (by kernel_rfl) (fun _ _ _ h => h) rfl (by rfl) ?_ (by assumption) ?_
          rotate_left
          · (intro w hSw; (try dsimp only at hSw); go_simp; (try with_reducible rfl))
          try simp only [Act.put, List.setIfInBounds_toArray, List.set_cons_zero, List.set_cons_succ]
          refine take_w (i := 6) (d := some 60) (v := ?_) rfl (by kernel_rfl) (by kernel_rfl) (by kernel_rfl) (fun _ _ _ h => h) rfl (by rfl) ?_ (by assumption) ?_
          rotate_left
          · (intro w hSw; (try dsimp only at hSw); go_simp; (try with_reducible rfl))
          try simp only [Act.put, List.setIfInBounds_toArray, List.set_cons_zero, List.set_cons_succ]
          refine take_w (i := 7) (d := some 61) (v := ?_) rfl (by kernel_rfl) (by kernel_rfl) (by kernel_rfl) (fun _ _ _ h => h) rfl (by rfl) ?_ (by assumption) ?_
          rotate_left
          · (intro w hSw; (try dsimp only at hSw); go_simp; (try with_reducible rfl))
          try simp only [Act.put, List.setIfInBounds_toArray, List.set_cons_zero, List.set_cons_succ]
          refine take_w (i := 8) (d := some 62) (v := ?_) rfl (by kernel_rfl) (by kernel_rfl) (by kernel_rfl) (fun _ _ _ h => h) rfl (by rfl) ?_ (by assumption) ?_
          rotate_left
          · (intro w hSw; (try dsimp only at hSw); go_simp; (try with_reducible rfl))
          try simp only [Act.put, List.setIfInBounds_toArray, List.set_cons_zero, List.set_cons_succ]
          refine call_w (i := 9) rfl (by kernel_rfl) (by rfl) (fun K hK => ?_)
          go_simp
          go_at_call 32
          refine (mayStand10_any t.k b _).mono ?_
          rintro e w5 ⟨rfl, rfl⟩
          refine hK.out _ _ ?_ (fun hHeld => ?_)
          · exact hS11.out _ (Q.refl W4).drew
          clear hK K
          try simp only [Act.put, List.setIfInBounds_toArray, List.set_cons_zero, List.set_cons_succ]
          refine take_w (i := 10) (d := some 64) (v := ?_) rfl (by kernel_rfl) (by kernel_rfl) (by kernel_rfl) (fun _ _ _ h => h) rfl (by rfl) ?_ (by assumption) ?_
          rotate_left
          · (intro w hSw; (try dsimp only at hSw); go_simp; (try with_reducible rfl))
          try simp only [Act.put, List.setIfInBounds_toArray, List.set_cons_zero, List.set_cons_succ]
          refine take_w (i := 11) (d := some 65) (v := ?_) rfl (by kernel_rfl) (by kernel_rfl) (by kernel_rfl) (fun _ _ _ h => h) rfl (by rfl) ?_ (by assumption) ?_
          rotate_left
          · (intro w hSw; (try dsimp only at hSw); go_simp; (try with_reducible rfl))
          try simp only [Act.put, List.setIfInBounds_toArray, List.set_cons_zero, List.set_cons_succ]
          refine wpAnyH_done (by kernel_rfl) ?_ _
          obtain ⟨mb, hmb⟩ : ∃ mb, mayAsk t.k b = mb := ⟨_, rfl⟩
          have HMB := Lib.hid hmb
          rw [hmb]
          obtain ⟨nb, hnb⟩ : ∃ nb, (!mb) = nb := ⟨_, rfl⟩
          rw [hnb]
          have HNB := Lib.hid hnb
          clear hHeld hnb hmb i1' j1 z0 hS11
          cases nb
          rotate_left
          · obtain rfl : mb = false := by have := HNB.out; simpa using this
            have HFin : Hid (sidedF L ks n0 side = false) := by unfold Hid; rw [HF.out, HI1.out, HOWN.out, HMB.out]; simp
            go_wp2_with fail
            go_ret
            exact ⟨by rw [HFin.out]; rfl, HQ0.out.trans HQ2.out.drew⟩
          · obtain rfl : mb = true := by have := HNB.out; simpa using this
            have HI2 : Hid (onF side (sdP L ks n0) = (allMet L ks SS n && metS L ks t b 0 t.xs)) := by unfold Hid; rw [HI1.out, HOWN.out, HMB.out]; rfl
            have HX4 := Lib.hid (HX.out.q (Q.refl W4).drew)
            have HO4 := Lib.hid (HO2.out.q (Q.refl W4).drew)
            have HQ4 := Lib.hid (HQ2.out.drew)
            have HIx4 := Lib.hid ((HIx.out.q (Nat.le_refl _) (Q.refl W4).drew).more (Q.refl W4).drew.size)
            go_upto_region 13 with fail
            clear HX HO2 HQ2 HIx HOWN HMB
            generalize W4.drew = W5 at *
            have x0 := HX4.out.c0
            have x1 := HX4.out.c1
            have x2 := HX4.out.c2
            have x3 := HX4.out.c3
            go_wp2_with fail
            refine (vary10_any R A1 L.length cl t.xs.length c1 n L t W5 rfl ((HRow.out.q (Nat.le_refl _) (HQ0.out.trans HQ4.out)).more (HQ0.out.trans HQ4.out).size) HTOK.out H8.out).mono ?_
            rintro e w6 ⟨bs, rfl, hvb, _, q6⟩
            have HVB := Lib.hid hvb
            have HX6 := Lib.hid (HX4.out.q q6)
            have HO6 := Lib.hid (HO4.out.q q6)
            have HQ6 := Lib.hid (HQ4.out.trans q6)
            have HI6 := Lib.hid ((HIx4.out.q (Nat.le_refl _) q6).more q6.size)
            clear x0 x1 x2 x3 hvb q6 HX4 HO4 HQ4 HIx4
            have x3 := HX6.out.c3
            go_wp2_with fail
            clear x3
            go_loopw [72] (fun jv wx => ∃ (j : Nat) (SJ : List Ask), j ≤ t.xs.length ∧ jv = .int .i64 j ∧ Hid (SJ.length = n0 + 1) ∧ Hid (SJ[n]? = some b) ∧ Hid (onF side (sdP L ks n0) = (allMet L ks SJ n && metS L ks t b j (t.xs.drop j))) ∧ Hid (OwnS wx W1.heap.size SJ) ∧ Hid (Q W1 wx) ∧ Hid (Ints wx wx.heap.size A1 t.xs)) (fun jv _ => t.xs.length - (intOf jv).toNat)
            case atStart => exact ⟨0, SS, Nat.zero_le _, rfl, HSL, HB, HI2, HO6, HQ6, HI6⟩
            case round =>
              obtain ⟨j, SJ, hj, rfl, HJL, HJB, HJI, HJO, HJQ, HJX⟩ := hrel
              clear HI2 HO6 HQ6 HI6 HX6
              by_cases hjl : j < t.xs.length
              · obtain ⟨ad, rfl, had, e0⟩ := HJX.out.at_ hjl
                obtain ⟨x, hx⟩ : ∃ x : Nat, t.xs[j] = (x : Int) := Int.eq_ofNat_of_zero_le (HPAR.out _ (List.getElem_mem hjl)).1
                have hxn : x < n := by have := (HPAR.out _ (List.getElem_mem hjl)).2; omega
                have hxl : x < SJ.length := by rw [HJL.out]; omega
                obtain ⟨cb, hcb⟩ : ∃ cb, SJ[x]? = some cb := ⟨_, List.getElem?_eq_getElem hxl⟩
                have hjb : j < bs.size := Nat.lt_of_lt_of_le hjl HVB.out.1
                have hbj : bs[j] = varyT L t j := HVB.out.2 j hjb hjl
                have HJI2 : Hid (onF side (sdP L ks n0) = (allMet L ks (SJ.set x (askOr cb (askTurn b bs[j]))) n && metS L ks t b (j + 1) (t.xs.drop (j + 1)))) := by
                  unfold Hid
                  rw [HJI.out, metS_at _ _ hjl, allMet_set _ hxn hcb, hx, Int.toNat_natCast, hbj, Bool.and_assoc]
                have HJB2 : Hid ((SJ.set x (askOr cb (askTurn b bs[j])))[n]? = some b) := by unfold Hid; rw [List.getElem?_set_ne (by omega)]; exact HJB.out
                rw [hx] at e0
                have hS17 : Hid (∀ U, Q wr U → (U.cell? ⟨W1.heap.size, x, none⟩ = some (.int .i64 (bitI cb)) ∧ U.cell? ⟨W1.heap.size, n, none⟩ = some (.int .i64 (bitI b)))) := fun U q => ⟨((HJO.out.q q).at_ hcb).1, ((HJO.out.q q).at_ HJB.out).1⟩
                have HFZ : Hid (∀ U, Q wr U → U.frozen? ⟨W1.heap.size, x, none⟩ = false) := fun U q => ((HJO.out.q q).at_ hcb).2
                have i3 : (0 : Int) ≤ (x : Int) := by omega
                have hjb2 : j < 100000 := by have := HXLEN.out; omega
                have i4 : (x : Int) < ((n0 + 1 : Nat) : Int) := by omega
                have i5 : (0 : Int) ≤ (j : Int) := by omega
                have i6 : (j : Int) < (bs.size : Int) := by omega
                have i7 : (j : Int) < (t.xs.length : Int) := by omega
                have i8 : decide ((j : Int) < (t.xs.length : Int)) = true := decide_eq_true i7
                have HXL := Lib.hid hxl
                have HJL2 := Lib.hid hjl
                have HOR := Lib.hid (bit_or cb (askTurn b bs[j]))
                clear hbj hcb hx hxl
                go_upto_region 17 with fail
                clear e0
                have i4' : (x : Int) < (n0 : Int) + 1 := by have := HN.out; omega
                have i1' : (n : Int) < (n0 : Int) + 1 := by have := HN.out; omega
                have hor := HOR.out
                have hfz := HFZ.out _ (Q.refl wr).drew
                have hS17b := hS17.out _ (Q.refl wr).drew
                refine begin_t (S := fun w' => w'.cell? ⟨W1.heap.size, x, none⟩ = some (.int .i64 (bitI cb)) ∧ w'.cell? ⟨W1.heap.size, n, none⟩ = some (.int .i64 (bitI b))) (z := 14) (by kernel_rfl) ?_ (fun hHeld => ?_)
                · exact hS17b
                refine take_t (i := 0) (d := some 77) (v := ?_) rfl (by kernel_rfl) (by kernel_rfl) (by kernel_rfl) (by kernel_rfl) (fun _ _ _ h => h) rfl (by rfl) ?_ (by assumption) ?_
                rotate_left
                · (intro w hSw; (try dsimp only at hSw); go_simp; (try with_reducible rfl))
                try simp only [Act.put, List.setIfInBounds_toArray, List.set_cons_zero, List.set_cons_succ]
                refine take_t (i := 1) (d := some 78) (v := ?_) rfl (by kernel_rfl) (by kernel_rfl) (by kernel_rfl) (by kernel_rfl) (fun _ _ _ h => h) rfl (by rfl) ?_ (by assumption) ?_
                rotate_left
                · (intro w hSw; (try dsimp only at hSw); go_simp; (try with_reducible rfl))
                try simp only [Act.put, List.setIfInBounds_toArray, List.set_cons_zero, List.set_cons_succ]
                refine take_t (i := 2) (d := some 79) (v := ?_) rfl (by kernel_rfl) (by kernel_rfl) (by kernel_rfl) (by kernel_rfl) (fun _ _ _ h => h) rfl (by rfl) ?_ (by assumption) ?_
                rotate_left
                · (intro w hSw; (try dsimp only at hSw); go_simp; (try with_reducible rfl))
                try simp only [Act.put, List.setIfInBounds_toArray, List.set_cons_zero, List.set_cons_succ]
                refine take_t (i := 3) (d := some 80) (v := ?_) rfl (by kernel_rfl) (by kernel_rfl) (by kernel_rfl) (by kernel_rfl) (fun _ _ _ h => h) rfl (by rfl) ?_ (by assumption) ?_
                rotate_left
                · (intro w hSw; (try dsimp only at hSw); go_simp; (try with_reducible rfl))
                try simp only [Act.put, List.setIfInBounds_toArray, List.set_cons_zero, List.set_cons_succ]
                refine take_t (i := 4) (d := some 81) (v := ?_) rfl (by kernel_rfl) (by kernel_rfl) (by kernel_rfl) (by kernel_rfl) (fun _ _ _ h => h) rfl (by rfl) ?_ (by assumption) ?_
                rotate_left
                · (intro w hSw; (try dsimp only at hSw); go_simp; (try with_reducible rfl))
                try simp only [Act.put, List.setIfInBounds_toArray, List.set_cons_zero, List.set_cons_succ]
                refine take_t (i := 5) (d := some 82) (v := ?_) rfl (by kernel_rfl) (by kernel_rfl) (by kernel_rfl) (by kernel_rfl) (fun _ _ _ h => h) rfl (by rfl) ?_ (by assumption) ?_
                rotate_left
                · (intro w hSw; (try dsimp only at hSw); go_simp; (try with_reducible rfl))
                try simp only [Act.put, List.setIfInBounds_toArray, List.set_cons_zero, List.set_cons_succ]
                refine take_t (i := 6) (d := some 83) (v := ?_) rfl (by kernel_rfl) (by kernel_rfl) (by kernel_rfl) (by kernel_rfl) (fun _ _ _ h => h) rfl (by rfl) ?_ (by assumption) ?_
                rotate_left
                · (intro w hSw; (try dsimp only at hSw); go_simp; (try with_reducible rfl))
                try simp only [Act.put, List.setIfInBounds_toArray, List.set_cons_zero, List.set_cons_succ]
                refine take_t (i := 7) (d := some 84) (v := ?_) rfl (by kernel_rfl) (by kernel_rfl) (by kernel_rfl) (by kernel_rfl) (fun _ _ _ h => h) rfl (by rfl) ?_ (by assumption) ?_
                rotate_left
                · (intro w hSw; (try dsimp only at hSw); go_simp; (try with_reducible rfl))
                try simp only [Act.put, List.setIfInBounds_toArray, List.set_cons_zero, List.set_cons_succ]
                refine take_t (i := 8) (d := some 85) (v := ?_) rfl (by kernel_rfl) (by kernel_rfl) (by kernel_rfl) (by kernel_rfl) (fun _ _ _ h => h) rfl (by rfl) ?_ (by assumption) ?_
                rotate_left
                · (intro w hSw; (try dsimp only at hSw); go_simp; (try with_reducible rfl))
                try simp only [Act.put, List.setIfInBounds_toArray, List.set_cons_zero, List.set_cons_succ]
                refine take_t (i := 9) (d := some 86) (v := ?_) rfl (by kernel_rfl) (by kernel_rfl) (by kernel_rfl) (by kernel_rfl) (fun _ _ _ h => h) rfl (by rfl) ?_ (by assumption) ?_
                rotate_left
                · (intro w hSw; (try dsimp only at hSw); go_simp; (try with_reducible rfl))
                try simp only [Act.put, List.setIfInBounds_toArray, List.set_cons_zero, List.set_cons_succ]
                refine take_t (i := 10) (d := some 87) (v := ?_) rfl (by kernel_rfl) (by kernel_rfl) (by kernel_rfl) (by kernel_rfl) (fun _ _ _ h => h) rfl (by rfl) ?_ (by assumption) ?_
                rotate_left
                · (intro w hSw; (try dsimp only at hSw); go_simp; (try with_reducible rfl))
                try simp only [Act.put, List.setIfInBounds_toArray, List.set_cons_zero, List.set_cons_succ]
                refine call_t (i := 11) rfl (by kernel_rfl) (by rfl) (fun K hK => ?_)
                go_simp
                go_at_call 34
                refine (turn10_any b bs[j] _).mono ?_
                rintro e w7 ⟨rfl, rfl⟩
                have hHeld : ((fun w' => w'.cell? ⟨W1.heap.size, x, none⟩ = some (.int .i64 (bitI cb)) ∧ w'.cell? ⟨W1.heap.size, n, none⟩ = some (.int .i64 (bitI b))) : World → Prop) _ := hS17b
                refine hK.out _ _ (fun _ => hHeld) ?_
                clear hK K
                try simp only [Act.put, List.setIfInBounds_toArray, List.set_cons_zero, List.set_cons_succ]
                refine take_t (i := 12) (d := some 89) (v := ?_) rfl (by kernel_rfl) (by kernel_rfl) (by kernel_rfl) (by kernel_rfl) (fun _ _ _ h => h) rfl (by rfl) ?_ (by assumption) ?_
                rotate_left
                · (intro w hSw; (try dsimp only at hSw); go_simp; (try with_reducible rfl))
                try simp only [Act.put, List.setIfInBounds_toArray, List.set_cons_zero, List.set_cons_succ]
                refine take_t (i := 13) (d := some 90) (v := ?_) rfl (by kernel_rfl) (by kernel_rfl) (by kernel_rfl) (by kernel_rfl) (fun _ _ _ h => h) rfl (by rfl) ?_ (by assumption) ?_
                rotate_left
                · (intro w hSw; (try dsimp only at hSw); go_simp; (try with_reducible rfl))
                try simp only [Act.put, List.setIfInBounds_toArray, List.set_cons_zero, List.set_cons_succ]
                refine call_t (i := 14) rfl (by kernel_rfl) (by rfl) (fun K hK => ?_)
                go_simp
                refine hK.out _ _ (fun hz => by cases hz) ?_
                clear hK K
                try simp only [Act.put, List.setIfInBounds_toArray, List.set_cons_zero, List.set_cons_succ]
                refine done_t (by kernel_rfl) ?_ _
                clear hor hfz hS17b hS17 i1' i4'
                go_wp2_with fail
                go_roundw
                case rel =>
                  have hjl2 := HJL2.out
                  refine ⟨j + 1, SJ.set x (askOr cb (askTurn b bs[j])), hjl2, by go_num, Lib.hid (by rw [List.length_set]; exact HJL.out), HJB2, HJI2, Lib.hid ((HJO.out.set HXL.out _).q (Q.refl _).drew), Lib.hid ((HJQ.out.setCell (p := ⟨W1.heap.size, x, none⟩) (Nat.le_refl _) _).drew), Lib.hid (fun h0 => ?_)⟩
                  obtain ⟨ad', e', hlt', hc'⟩ := HJX.out h0
                  have hfr := HFR.out h0 ad' e'
                  refine ⟨ad', e', by simpa [World.setCell] using hlt', fun i s hs => ?_⟩
                  have hz := World.cell?_setCell_far wr ⟨W1.heap.size, x, none⟩ (ad'.add i) (.int .i64 (bitI (askOr cb (askTurn b bs[j])))) (by rw [add_block]; show W1.heap.size ≠ ad'.block; omega)
                  exact hz.trans (hc' i s hs)
                case measure => have hjl2 := HJL2.out; simp [intOf]; omega
              · have hje : j = t.xs.length := by omega
                have HJE : Hid (onF side (sdP L ks n0) = allMet L ks SJ n) := by unfold Hid; rw [HJI.out, metS_end _ _ (by omega), Bool.and_true]
                have i8 : decide ((j : Int) < (t.xs.length : Int)) = false := decide_eq_false (by omega)
                have j1 := HJ1.out
                clear hje
                go_wp2_with fail
                go_roundw
                case rel => exact ⟨k + 1, SJ, by omega, by go_num, HJL.out, Lib.hid (by rw [HJE.out, show n0 + 1 - (k + 1) = n by have := HN.out; omega]), HJO, HJQ⟩
                case measure => simp [intOf]; omega
      · have HFin : Hid (sidedF L ks n0 side = true) := by unfold Hid; rw [HF.out, HI.out, show n0 + 1 - k = 0 by omega]; rfl
        have i2 : decide ((k : Int) < (n0 : Int) + 1) = false := decide_eq_false (by omega)
        go_wp2_with fail
        go_ret
        exact ⟨by rw [HFin.out]; rfl, HQ0.out.trans HQ.out⟩
  · have hp' : isPl id ks.length = false := by simpa using hp
    rw [hp', Bool.false_and] at HF
    have hno : id < 0 ∨ (ks.length : Int) ≤ id := by
      by_cases h0 : id < 0
      · exact .inl h0
      · refine .inr ?_
        by_cases h1 : (ks.length : Int) ≤ id
        · exact h1
        · exact absurd ((isPl_iff _ _).2 ⟨by omega, by omega⟩) hp
    by_cases h0 : id < 0
    · have d0 : decide (id < 0) = true := decide_eq_true h0
      clear hno h0 hp hp'
      go_enter Try.func14, Try.ntmps14
      go_wp2_with fail
      go_ret
      exact ⟨by rw [HF.out]; rfl, HQ0.out⟩
    · have d0 : decide (id < 0) = false := decide_eq_false h0
      have d1 : decide ((ks.length : Int) ≤ id) = true := decide_eq_true (by omega)
      clear hno h0 hp hp'
      go_enter Try.func14, Try.ntmps14
      go_wp2_with fail
      go_ret
      exact ⟨by rw [HF.out]; rfl, HQ0.out⟩
end Go.Proofs.Ytjehccemilefgaa.St
