/-
  hash.Put and hash.Right on right tables; the document's example.
-/
import Derived.Test.YtgnbempkobgeiaaHashS
namespace Go.Proofs.Ytgnbempkobgeiaa.Hs
open Go.RowKit Kit

theorem lay_lt (ks : List (List Int)) : ks.length < (layI ks).length := by rw [layI_length]; exact sizeN_gt _
theorem put_any (A S E : Option Addr) (n c m d ke ce : Nat) (ks : List (List Int)) (key : List Int) (w : World) (hn : n = ks.length) (hm : m = (layI ks).length) (hke : ke = key.length) (hk : Keys w w.heap.size A ks) (hS : Ints w w.heap.size S (layI ks)) (he : Ints w w.heap.size E key)
    (hd : Dist ks) (hs : ∀ k ∈ ks, k.length ≤ maxLen) (hkl : key.length ≤ 1000) (hl : ks.length ≤ 5000) (ht : ks.flatten.length ≤ 50000) (hce : key.length ≤ ce) :
    Calls Try.prog 30 #[.agg #[.slice A n c, .slice S m d], .slice E ke ce] w (PutPost (putL ks key) (layI (putL ks key)) (placeI ks key) (newB ks key) w) := by
  subst hn
  subst hm
  subst hke
  have hz : (layI ks).length ≤ 100000 := by rw [layI_length]; have := sizeN_le ks.length; omega
  rcases atI_cases ks key with ⟨h1, h2⟩ | ⟨i, h1, h2⟩
  · obtain ⟨h3, h4⟩ := find_not (lay_inv ks) (lay_lt ks) h2
    have e1 : putL ks key = ks ++ [key] := by unfold putL; rw [if_pos (by omega)]
    have e2 : placeI ks key = (ks.length : Int) := by unfold placeI; rw [if_pos (by omega)]
    have e3 : newB ks key = true := by unfold newB; exact decide_eq_true (by omega)
    rw [e1, e2, e3]
    by_cases hq : sizeN (ks.length + 1) = sizeN ks.length
    · rw [lay_snoc hq]
      exact put_set A S E c d ce ks (layI ks) key w _ _ hk hS he hs hkl hz hl ht h4 hce (by omega) _ rfl h3 (by rw [layI_length, hq])
    · exact put_lay2 A S E c d ce ks (layI ks) key w _ _ hk hS he hs hkl hz hl ht h4 hce (by omega) (by omega) (by rw [layI_length]; omega)
  · obtain ⟨s, h3, h4⟩ := find_there (lay_inv ks) hd (by omega) h1
    have e1 : putL ks key = ks := by unfold putL; rw [if_neg (by omega)]
    have e2 : placeI ks key = (i : Int) := by unfold placeI; rw [if_neg (by omega)]; exact h2
    have e3 : newB ks key = false := by unfold newB; exact decide_eq_false (by omega)
    rw [e1, e2, e3]
    exact put_old A S E c d ce ks (layI ks) key w _ _ hk hS he hs hkl hz hl ht h4 (by omega)
theorem findR_any (A S E : Option Addr) (n c m d ke ce : Nat) (ks : List (List Int)) (key : List Int) (w : World) (hn : n = ks.length) (hm : m = (layI ks).length) (hke : ke = key.length) (hk : Keys w w.heap.size A ks) (hS : Ints w w.heap.size S (layI ks)) (he : Ints w w.heap.size E key)
    (hd : Dist ks) (hs : ∀ k ∈ ks, k.length ≤ maxLen) (hkl : key.length ≤ maxLen) (hl : ks.length ≤ 5000) :
    Calls Try.prog 29 #[.agg #[.slice A n c, .slice S m d], .slice E ke ce] w fun e w' => e = .returned (.int .i64 (atI ks key)) ∧ Q w w' := by
  have hz : (layI ks).length ≤ 100000 := by rw [layI_length]; have := sizeN_le ks.length; omega
  have h := find_any A S E n c m d ke ce ks (layI ks) key w hn hm hke hk hS he hs hkl (by omega)
  rcases atI_cases ks key with ⟨h1, h2⟩ | ⟨i, h1, h2⟩
  · rw [(find_not (lay_inv ks) (lay_lt ks) h2).2] at h
    rw [h1]; exact h
  · obtain ⟨s, _, h4⟩ := find_there (lay_inv ks) hd (by omega) h1
    rw [h4] at h
    rw [h2]; exact h

/-! ### Right says yes of a right table -/
theorem seek_part {ks : List (List Int)} {sl : List Int} {k : Nat} (hk : k < ks.length) (hi : Inv ks k sl) (hd : Dist ks) (hl : ks.length ≤ 100000) : seekI (sameP ks ks[k]) sl (hashN ks[k]) = seekI nv sl (hashN ks[k]) := by
  unfold seekI
  refine seekL_congr fun x hx => ?_
  obtain ⟨j, hj, rfl⟩ := visits_get _ _ _ _ hx
  have hm : (hashN ks[k] + j) % sl.length < sl.length := Nat.mod_lt _ (by omega)
  have hv := List.getElem?_eq_getElem hm
  have r := hi.range _ _ hv
  obtain ⟨v, hve⟩ : ∃ v, sl[(hashN ks[k] + j) % sl.length]'hm = v := ⟨_, rfl⟩
  rw [hve] at hv r
  simp only [stepOf, visit, hv, Option.getD_some]
  by_cases h0 : v = 0
  · rw [h0]; rfl
  · have hb : (v == 0) = false := by simpa using h0
    rw [hb, wrap_pred (by omega)]
    simp only [Bool.false_eq_true, if_false]
    obtain ⟨t, ht⟩ := Int.eq_ofNat_of_zero_le (show 0 ≤ v - 1 by omega)
    rw [ht]
    have hf : sameP ks ks[k] (t : Int) = false := by
      cases hs : sameP ks ks[k] (t : Int)
      · rfl
      · have := hd k t ks[k] (List.getElem?_eq_getElem hk) ((sameP_nat ks ks[k] t).1 hs)
        omega
    rw [hf]
    rfl

set_option maxRecDepth 100000 in
set_option maxHeartbeats 1000000 in
theorem rightT_any (A S : Option Addr) (n c m d : Nat) (ks : List (List Int)) (w : World) (hn : n = ks.length) (hm : m = sizeN ks.length) (hk : Keys w w.heap.size A ks) (hS : Ints w w.heap.size S (layI ks)) (hd : Dist ks) (hs : ∀ k ∈ ks, k.length ≤ maxLen) (hl : ks.length ≤ 5000) :
    Calls Try.prog 49 #[.agg #[.slice A n c, .slice S m d]] w fun e w' => e = .returned (.bool true) ∧ Q w w' := by
  subst hn
  have hN := sizeN_le ks.length
  have hG := sizeN_gt ks.length
  have hmk := make_ints (sizeN ks.length) (by omega)
  have HI : Hid (layI ks = layF ks 0 (List.replicate m 0)) := by unfold Hid; rw [layI, hm]
  rw [← hm] at hmk hN hG
  have HE := Lib.hid hm
  clear hm
  have q0 := (Q.refl w).alloc (Obj.cells #[Value.slice A ks.length c, Value.slice S m d] 26)
  have Hk := Lib.hid ((hk.q (Nat.le_refl _) q0).more q0.size)
  have HS := Lib.hid ((hS.q (Nat.le_refl _) q0).more q0.size)
  have Hs := Lib.hid hs
  clear hk hS hs
  go_enter Try.func49, Try.ntmps49
  go_wp2_with fail
  have k0 : (w.alloc (Obj.cells #[Value.slice A ks.length c, Value.slice S m d] 26)).cell? ⟨w.heap.size, 0, none⟩ = some (.slice A ks.length c) := by simp
  have k1 : (w.alloc (Obj.cells #[Value.slice A ks.length c, Value.slice S m d] 26)).cell? ⟨w.heap.size, 1, none⟩ = some (.slice S m d) := by simp
  have hlt : w.heap.size < (w.alloc (Obj.cells #[Value.slice A ks.length c, Value.slice S m d] 26)).heap.size := by simp
  generalize w.alloc (Obj.cells #[Value.slice A ks.length c, Value.slice S m d] 26) = W0 at *
  have C : Hid (∀ n, Calls Try.prog 58 #[.int .i64 (ks.length : Int)] (W0.drewN n) fun e w' => e = .returned (.int .i64 m) ∧ ∃ m', w' = (W0.drewN n).drewN m') := fun n => by
    rw [HE.out]
    exact (size_any ks.length (W0.drewN n) (by omega)).mono fun _ _ ⟨he, hw⟩ => ⟨he, 0, hw.symm⟩
  go_quiet (first | (go_at_call 58; exact Calls.quiet_of (C.out _)))
  have q1 : Q W0 (W0.drewN nq) := (Q.refl W0).drewN nq
  have k0' : (W0.drewN nq).cell? ⟨w.heap.size, 0, none⟩ = some (.slice A ks.length c) := k0
  have k1' : (W0.drewN nq).cell? ⟨w.heap.size, 1, none⟩ = some (.slice S m d) := k1
  have q01 := q0.trans q1
  have Hk1 := Lib.hid ((Hk.out.q (Nat.le_refl _) q1).more q1.size)
  have HS1 := Lib.hid ((HS.out.q (Nat.le_refl _) q1).more q1.size)
  have hlt1 : w.heap.size < (W0.drewN nq).heap.size := hlt
  clear k0 k1 C Hk HS
  generalize W0.drewN nq = W1 at *
  have HM := Lib.hid (OwnI.made W1 m 3)
  have HNv := Lib.hid (Inv.start ks m)
  go_wp2_with fail
  clear hmk
  go_loopw [23] (fun i wr => ∃ (k : Nat) (sl : List Int), k ≤ ks.length ∧ i = .int .i64 k ∧ Hid (sl.length = m) ∧ Hid (Inv ks k sl) ∧ Hid (layI ks = layF (ks.drop k) k sl) ∧ Hid (OwnI wr W1.heap.size sl) ∧ Q W1 wr) (fun i _ => ks.length - (intOf i).toNat)
  case atStart => exact ⟨0, _, Nat.zero_le _, rfl, Lib.hid (by simp), HNv, HI, HM, (Q.refl _).alloc _⟩
  case round =>
    obtain ⟨k, sl, hkl, rfl, HL, HV, HF, HO, qr⟩ := hrel
    have k0r := (qr.cell (p := ⟨w.heap.size, 0, none⟩) hlt1).trans k0'
    have k1r := (qr.cell (p := ⟨w.heap.size, 1, none⟩) hlt1).trans k1'
    by_cases hlt2 : k < ks.length
    · obtain ⟨ad, rfl, hb, a, c1, hle, c0, hi⟩ := (Hk1.out.q (Nat.le_refl _) qr).at_ hlt2
      have Hi := Lib.hid (hi.more qr.size)
      have Hkr := Lib.hid ((Hk1.out.q (Nat.le_refl _) qr).more qr.size)
      have Hm := Lib.hid (Hs.out _ (List.getElem_mem hlt2))
      have HS := Lib.hid (layF_at ks k sl hlt2)
      have HV' := Lib.hid (HV.out.step (by have := HL.out; omega) (List.getElem?_eq_getElem hlt2))
      obtain ⟨J, hJ, hz, hbf, hsk⟩ := free_way (hashN ks[k]) (show nz sl < sl.length by have := HV.out.few; have := HL.out; omega)
      have hm2 : (hashN ks[k] + J) % sl.length < sl.length := Nat.mod_lt _ (by omega)
      obtain ⟨s, hse⟩ : ∃ s, (hashN ks[k] + J) % sl.length = s := ⟨_, rfl⟩
      rw [hse] at hsk hm2
      have HP : Hid (putSlot sl ks[k] k = sl.set s ((k : Int) + 1)) := by unfold Hid putSlot slotOf; rw [hsk]; rfl
      rw [← seek_part hlt2 HV.out hd (by omega)] at hsk
      have Hsk := Lib.hid hsk
      have hsN : s < m := by have := HL.out; omega
      have Hm2 := Lib.hid hm2
      have hltr : w.heap.size < wr.heap.size := by have := qr.size; omega
      have HLs := Lib.hid HL.out.symm
      clear hi hz hbf hsk hse hm2 hle
      go_upto_region 7 with fail
      go_region_held3 (fun w' => w'.cell? ⟨w.heap.size, 0, none⟩ = some (.slice (some ad) ks.length c) ∧ w'.cell? ⟨w.heap.size, 1, none⟩ = some (.slice S m d))
        (first
          | go_keep
          | exact ⟨(p1.cell (p := ⟨w.heap.size, 0, none⟩) hltr).trans k0r, (p1.cell (p := ⟨w.heap.size, 1, none⟩) hltr).trans k1r⟩
          | exact ⟨((p1.trans q2).cell (p := ⟨w.heap.size, 0, none⟩) hltr).trans k0r, ((p1.trans q2).cell (p := ⟨w.heap.size, 1, none⟩) hltr).trans k1r⟩)
        (first
          | (go_at_call 55; refine (hashN_any _ _ _ ks[k] _ rfl (by exact Hi.out) Hm.out).mono ?_; rintro e w' ⟨rfl, rfl⟩)
          | (go_at_call 56; refine (sameAsQ_any _ _ _ _ _ _ ks ks[k] _ rfl rfl (by exact Hkr.out) (by exact Hi.out) Hs.out).mono ?_; rintro e w1 ⟨Bk, Be, rfl, q1, hC⟩; have HC := Lib.hid hC; clear hC; have p1 := (Q.refl wr).drew.trans q1)
          | (go_at_call 54; refine (seek_same _ _ _ sl _ (sameP ks ks[k]) Bk Be _ HLs.out (by exact ((HO.out.ints.q (Nat.le_refl _) p1).more p1.size)) (hashN_lt _) (by have := HL.out; omega) HC.out).mono ?_; rintro e w2 ⟨rfl, q2⟩; rw [Hsk.out]))
      have q02 := p1.trans q2
      have HO3 := Lib.hid (HO.out.q q02)
      have hc3 := (HO3.out.at_ Hm2.out).1
      have hf3 := (HO3.out.at_ Hm2.out).2
      clear q1 q2 p1 HC k0r k1r
      go_wp2_with fail
      go_roundw
      case rel => exact ⟨k + 1, sl.set s ((k : Int) + 1), by omega, by go_num, Lib.hid (by rw [List.length_set]; exact HL.out), by rw [← HP.out]; exact HV', Lib.hid (by rw [HF.out, HS.out, HP.out]), Lib.hid (HO3.out.set Hm2.out _), (qr.trans q02).setCell (p := ⟨W1.heap.size, s, none⟩) (Nat.le_refl _) _⟩
      case measure => simp [intOf]; omega
    · have HS := Lib.hid (layF_end ks k sl (by omega))
      have hE : eqL sl (layI ks) = true := (eqL_iff _ _).2 (by rw [HF.out, HS.out])
      have HLs := Lib.hid HL.out.symm
      have HLl : Hid (m = (layI ks).length) := by rw [layI_length]; exact HE
      go_wp2_with fail
      refine (equal_any _ _ _ _ _ _ sl (layI ks) _ HLs.out HLl.out HO.out.ints ((HS1.out.q (Nat.le_refl _) qr).more qr.size) (by unfold maxLen; have := HL.out; omega)).mono ?_
      rintro e w' ⟨rfl, hdr⟩
      have q3 := Q.of_drewN hdr
      rw [hE]
      clear hdr
      go_wp2_with fail
      go_ret
      exact ⟨rfl, (q01.trans qr).trans q3⟩
end Go.Proofs.Ytgnbempkobgeiaa.Hs
