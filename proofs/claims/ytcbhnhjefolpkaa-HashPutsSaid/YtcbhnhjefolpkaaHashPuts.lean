/-
  HashPuts holds: of every right table of 2000 numbers at most, every key of 500: where a key stands, and a table with it, are as the document says. No conditions.
-/
import Derived.Test.YtcbhnhjefolpkaaHashZ
import Derived.Test.YtcbhnhjefolpkaaRows
import Derived.Deep.RegionHeld3
namespace Go.Proofs.Ytcbhnhjefolpkaa.hashPuts
open Go.ChangeShapes Go.WideShapes Go.ChangeAt Go.RowKit Kit Hs

set_option maxRecDepth 100000 in
set_option maxHeartbeats 2000000 in
theorem walk_way (A S E : Option Addr) (c d ce : Nat) (ks : List (List Int)) (key : List Int) (w : World) (hk : Keys w w.heap.size A ks) (hS : Ints w w.heap.size S (layI ks)) (he : Ints w w.heap.size E key)
    (hl : ks.length ≤ 1152921504606846976) (hs : ∀ k ∈ ks, k.length ≤ 1152921504606846976) (hsl : (layI ks).length ≤ 1152921504606846976) (hkl : key.length ≤ 1152921504606846976) (hce : key.length ≤ ce)
    (hf : fewB ks (layI ks).length = true) (hd : Dist ks) (hk5 : key.length ≤ 500) (nw : Bool) (hnew : newB ks key = nw) :
    Calls Try.prog 3 #[.agg #[.slice A ks.length c, .slice S (layI ks).length d], .slice E key.length ce] w fun e w' => e = .returned (.bool true) ∧ Q w w' := by
  have HFw := Lib.hid hf
  have hsum := few_sum hf
  have hr : rightB ks (layI ks) = true := (right_iff _ _).2 ⟨hd, rfl⟩
  obtain ⟨z1, z2, z3⟩ := putL_sizes (key := key) hf hk5
  have Hz3 := Lib.hid z3
  have hz1 : (layI (putL ks key)).length ≤ 20000 := by rw [layI_length]; have := sizeN_le (putL ks key).length; omega
  obtain ⟨K1, hK1⟩ : ∃ K1, K1 = putL ks key := ⟨_, rfl⟩
  obtain ⟨P, hP⟩ : ∃ P, P = placeI ks key := ⟨_, rfl⟩
  obtain ⟨X, hX⟩ : ∃ X, X = atI ks key := ⟨_, rfl⟩
  have Hnew := Lib.hid hnew
  have HKK : Hid (K1 = putL ks key) := hK1
  have HPP : Hid (P = placeI ks key) := hP
  have HXX : Hid (X = atI ks key) := hX
  rw [← hK1] at z1 z2 hz1 Hz3
  obtain ⟨L1, hL1⟩ : ∃ L1, L1 = layI K1 := ⟨_, rfl⟩
  have HLL : Hid (L1 = layI K1) := hL1
  rw [← hL1] at hz1
  have HtabA : Hid (tabB K1 L1 K1 L1 = true) := by unfold Hid tabB; rw [(rowsB_iff _ _).2 rfl, (eqL_iff _ _).2 rfl]; rfl
  clear hK1 hP hL1 hX z3 hnew
  have q0 := (Q.refl w).alloc (Obj.cells #[Value.slice A ks.length c, Value.slice S (layI ks).length d] 25)
  have Hk := Lib.hid ((hk.q (Nat.le_refl _) q0).more q0.size)
  have HS := Lib.hid ((hS.q (Nat.le_refl _) q0).more q0.size)
  have He := Lib.hid ((he.q (Nat.le_refl _) q0).more q0.size)
  have HB := Lib.hid (BoxT.new w (Value.slice A ks.length c) (Value.slice S (layI ks).length d) 25)
  obtain ⟨sl, hsl0⟩ : ∃ sl, sl = layI ks := ⟨_, rfl⟩
  have HSL : Hid (sl = layI ks) := hsl0
  rw [← hsl0] at HS HB hsl hsum hr HFw hf q0 Hk He ⊢
  clear hsl0 hk hS he hf
  have hk5' : ¬ (500 : Int) < (key.length : Int) := by omega
  have hkm : key.length ≤ 1000 := by omega
  have hd2 := Lib.hid hd
  clear hd
  go_enter Try.func3, Try.ntmps3
  go_wp2_with fail
  generalize w.alloc (Obj.cells #[Value.slice A ks.length c, Value.slice S sl.length d] 25) = W0 at *
  refine (shown_any _).mono ?_
  rintro e w1 ⟨rfl, q1⟩
  have HB1 := Lib.hid (HB.out.q q1)
  have b0 := HB1.out.c0
  have b1 := HB1.out.c1
  have HK1 := Lib.hid ((Hk.out.q (Nat.le_refl _) q1).more q1.size)
  have HS1 := Lib.hid ((HS.out.q (Nat.le_refl _) q1).more q1.size)
  go_wp2_with fail
  refine (refFew_any _ _ _ _ _ _ ks _ rfl HK1.out hl hs hsl).mono ?_
  rintro e w2 ⟨rfl, q2⟩
  have q02 := q1.trans q2
  have HB2 := Lib.hid (HB1.out.q q2)
  have b0' := HB2.out.c0
  have b1' := HB2.out.c1
  clear b0 b1
  rw [HFw.out]
  go_wp2_with fail
  refine (refRight_any _ _ _ _ _ _ ks sl _ rfl rfl ((Hk.out.q (Nat.le_refl _) q02).more q02.size) ((HS.out.q (Nat.le_refl _) q02).more q02.size) (few_lens HFw.out) (by have := few_sum HFw.out; omega) (by unfold maxLen; omega)).mono ?_
  rintro e w3 ⟨rfl, q3⟩
  have q03 := q02.trans q3
  have HB3 := Lib.hid (HB2.out.q q3)
  have b0 := HB3.out.c0
  have b1 := HB3.out.c1
  clear b0' b1'
  rw [hr]
  go_wp2_with fail
  refine (put_any A S E _ c _ d _ ce ks key _ rfl (by rw [HSL.out]) rfl ((Hk.out.q (Nat.le_refl _) q03).more q03.size) (by rw [← HSL.out]; exact (HS.out.q (Nat.le_refl _) q03).more q03.size) ((He.out.q (Nat.le_refl _) q03).more q03.size) hd2.out (few_lens HFw.out) hkm (by omega) (by omega) hce).mono ?_
  rintro e w4 ⟨A4, c4, S4, d4, rfl, hk4, hS4, q4⟩
  rw [← HKK.out, ← HLL.out] at hS4
  rw [← HKK.out] at hk4
  rw [← HKK.out, ← HPP.out, ← HLL.out, Hnew.out]
  have q04 := q03.trans q4
  have HB4 := Lib.hid (HB3.out.q q4)
  have Hk4 := Lib.hid hk4
  have HS4 := Lib.hid hS4
  clear hk4 hS4 b0 b1
  go_upto_region 5 with fail
  have qa := (Q.refl w4).alloc (Obj.cells #[Value.slice A4 K1.length c4, Value.slice S4 L1.length d4] 25)
  have HA := Lib.hid (BoxT.new w4 (Value.slice A4 K1.length c4) (Value.slice S4 L1.length d4) 25)
  generalize w4.alloc (Obj.cells #[Value.slice A4 K1.length c4, Value.slice S4 L1.length d4] 25) = W5 at *
  have q05 := q04.trans qa
  have HT5 := Lib.hid (HB4.out.q qa)
  have t0 := HT5.out.c0
  have t1 := HT5.out.c1
  go_wp2_with fail
  have HR := refPut_any A S E c d ce ks key W5 ((Hk.out.q (Nat.le_refl _) q05).more q05.size) (by rw [← HSL.out]; exact (HS.out.q (Nat.le_refl _) q05).more q05.size) ((He.out.q (Nat.le_refl _) q05).more q05.size) (few_lens HFw.out) hkm (by omega) hce
  rw [← HSL.out, ← HKK.out, ← HPP.out, ← HLL.out, Hnew.out] at HR
  refine HR.mono ?_
  clear HR
  rintro e w6 ⟨A6, c6, S6, d6, rfl, hk6, hS6, q6⟩
  have Hk6 := Lib.hid hk6
  have HS6 := Lib.hid hS6
  clear hk6 hS6 t0 t1
  go_upto_region 6 with fail
  have qb := (Q.refl w6).alloc (Obj.cells #[Value.slice A6 K1.length c6, Value.slice S6 L1.length d6] 25)
  have HC := Lib.hid (BoxT.new w6 (Value.slice A6 K1.length c6) (Value.slice S6 L1.length d6) 25)
  generalize w6.alloc (Obj.cells #[Value.slice A6 K1.length c6, Value.slice S6 L1.length d6] 25) = W7 at *
  have q67 := q6.trans qb
  have q07 := q05.trans q67
  have q47 := qa.trans q67
  have HT7 := Lib.hid (HT5.out.q q67)
  have HA7 := Lib.hid (HA.out.q q67)
  have Hk7 := Lib.hid ((Hk.out.q (Nat.le_refl _) q07).more q07.size)
  have HS7 := Lib.hid ((HS.out.q (Nat.le_refl _) q07).more q07.size)
  have He7 := Lib.hid ((He.out.q (Nat.le_refl _) q07).more q07.size)
  have HkA := Lib.hid ((Hk4.out.q (Nat.le_refl _) q47).more q47.size)
  have HSA := Lib.hid ((HS4.out.q (Nat.le_refl _) q47).more q47.size)
  have HkC := Lib.hid ((Hk6.out.q (Nat.le_refl _) qb).more qb.size)
  have HSC := Lib.hid ((HS6.out.q (Nat.le_refl _) qb).more qb.size)
  have q0w := q0.trans q07
  clear q1 q2 q3 q4 q6 qa qb q02 q03 q04 q05 q67 q07 q47 HB HB1 HB2 HB3 HB4 HA HK1 HS1 Hk HS He Hk4 HS4 Hk6 HS6 q0 HT5
  have a0 := HA7.out.c0
  have a1 := HA7.out.c1
  have x0 := HC.out.c0
  have x1 := HC.out.c1
  have t0 := HT7.out.c0
  have t1 := HT7.out.c1
  have g1 := HT7.out.lt
  have g2 := HA7.out.lt
  have g3 := HC.out.lt
  have hs1 : L1.length ≤ maxLen := by unfold maxLen; omega
  have hK1m : K1.length ≤ maxLen := by unfold maxLen; omega
  have hpp : (P == P) = true := by simp
  have hxx : (X == X) = true := by simp
  have HSl : Hid (sl.length = (layI ks).length) := by rw [HSL.out]; exact Lib.hid rfl
  have HS7' : Hid (Ints W7 W7.heap.size S (layI ks)) := by rw [← HSL.out]; exact HS7
  have HXs := Lib.hid HXX.out.symm
  cases nw
  all_goals
    go_region_held3 (fun w' => w'.cell? ⟨w4.heap.size, 0, none⟩ = some (.slice A4 K1.length c4) ∧ w'.cell? ⟨w4.heap.size, 1, none⟩ = some (.slice S4 L1.length d4) ∧ w'.cell? ⟨w6.heap.size, 0, none⟩ = some (.slice A6 K1.length c6) ∧ w'.cell? ⟨w6.heap.size, 1, none⟩ = some (.slice S6 L1.length d6) ∧ w'.cell? ⟨w.heap.size, 0, none⟩ = some (.slice A ks.length c) ∧ w'.cell? ⟨w.heap.size, 1, none⟩ = some (.slice S sl.length d))
      (first
        | go_keep
        | exact ⟨(p8.cell (p := ⟨w4.heap.size, 0, none⟩) g2).trans a0, (p8.cell (p := ⟨w4.heap.size, 1, none⟩) g2).trans a1, (p8.cell (p := ⟨w6.heap.size, 0, none⟩) g3).trans x0, (p8.cell (p := ⟨w6.heap.size, 1, none⟩) g3).trans x1, (p8.cell (p := ⟨w.heap.size, 0, none⟩) g1).trans t0, (p8.cell (p := ⟨w.heap.size, 1, none⟩) g1).trans t1⟩
        | exact ⟨(p9.cell (p := ⟨w4.heap.size, 0, none⟩) g2).trans a0, (p9.cell (p := ⟨w4.heap.size, 1, none⟩) g2).trans a1, (p9.cell (p := ⟨w6.heap.size, 0, none⟩) g3).trans x0, (p9.cell (p := ⟨w6.heap.size, 1, none⟩) g3).trans x1, (p9.cell (p := ⟨w.heap.size, 0, none⟩) g1).trans t0, (p9.cell (p := ⟨w.heap.size, 1, none⟩) g1).trans t1⟩
        | exact ⟨(p10.cell (p := ⟨w4.heap.size, 0, none⟩) g2).trans a0, (p10.cell (p := ⟨w4.heap.size, 1, none⟩) g2).trans a1, (p10.cell (p := ⟨w6.heap.size, 0, none⟩) g3).trans x0, (p10.cell (p := ⟨w6.heap.size, 1, none⟩) g3).trans x1, (p10.cell (p := ⟨w.heap.size, 0, none⟩) g1).trans t0, (p10.cell (p := ⟨w.heap.size, 1, none⟩) g1).trans t1⟩)
      (first
        | (go_at_call 13; refine (refSame_any _ _ _ _ _ _ _ _ _ _ _ _ K1 K1 L1 L1 _ rfl rfl rfl rfl (by exact HkA.out) (by exact HSA.out) (by exact HkC.out) (by exact HSC.out) hK1m Hz3.out hs1).mono ?_; rintro e w8 ⟨rfl, q8⟩; rw [HtabA.out]; have p8 := (Q.refl W7).drew.trans q8)
        | (go_at_call 14; refine (findR_any A S E _ c _ d _ ce ks key _ rfl HSl.out rfl (by exact ((Hk7.out.q (Nat.le_refl _) p8).more p8.size)) (by exact ((HS7'.out.q (Nat.le_refl _) p8).more p8.size)) (by exact ((He7.out.q (Nat.le_refl _) p8).more p8.size)) hd2.out (few_lens HFw.out) (by unfold maxLen; omega) (by omega)).mono ?_; rintro e w9 ⟨rfl, q9⟩; rw [HXs.out]; have p9 := p8.trans q9)
        | (go_at_call 15; refine (refAt_any _ _ _ _ _ _ ks key _ rfl rfl (by exact ((Hk7.out.q (Nat.le_refl _) p9).more p9.size)) (by exact ((He7.out.q (Nat.le_refl _) p9).more p9.size)) (by unfold maxLen; omega) (few_lens HFw.out)).mono ?_; rintro e w10 ⟨rfl, hd10⟩; rw [HXs.out]; have p10 := p9.trans (Q.of_drewN hd10); clear hd10))
    go_wp2_with fail
    go_ret
    exact ⟨rfl, q0w.trans p10⟩

theorem walk_in (A S E : Option Addr) (c d ce : Nat) (ks : List (List Int)) (key : List Int) (w : World) (hk : Keys w w.heap.size A ks) (hS : Ints w w.heap.size S (layI ks)) (he : Ints w w.heap.size E key)
    (hl : ks.length ≤ 1152921504606846976) (hs : ∀ k ∈ ks, k.length ≤ 1152921504606846976) (hsl : (layI ks).length ≤ 1152921504606846976) (hkl : key.length ≤ 1152921504606846976) (hce : key.length ≤ ce)
    (hf : fewB ks (layI ks).length = true) (hd : Dist ks) (hk5 : key.length ≤ 500) :
    Calls Try.prog 3 #[.agg #[.slice A ks.length c, .slice S (layI ks).length d], .slice E key.length ce] w fun e w' => e = .returned (.bool true) ∧ Q w w' :=
  walk_way A S E c d ce ks key w hk hS he hl hs hsl hkl hce hf hd hk5 _ rfl

set_option maxRecDepth 100000 in
set_option maxHeartbeats 1000000 in
theorem walk (A S E : Option Addr) (c d ce : Nat) (ks : List (List Int)) (sl key : List Int) (w : World) (hk : Keys w w.heap.size A ks) (hS : Ints w w.heap.size S sl) (he : Ints w w.heap.size E key)
    (hl : ks.length ≤ 1152921504606846976) (hs : ∀ k ∈ ks, k.length ≤ 1152921504606846976) (hsl : sl.length ≤ 1152921504606846976) (hkl : key.length ≤ 1152921504606846976) (hce : key.length ≤ ce) :
    Calls Try.prog 3 #[.agg #[.slice A ks.length c, .slice S sl.length d], .slice E key.length ce] w fun e w' => e = .returned (.bool true) ∧ Q w w' := by
  cases hf : fewB ks sl.length
  · have q0 := (Q.refl w).alloc (Obj.cells #[Value.slice A ks.length c, Value.slice S sl.length d] 25)
    have Hk := Lib.hid ((hk.q (Nat.le_refl _) q0).more q0.size)
    have HS := Lib.hid ((hS.q (Nat.le_refl _) q0).more q0.size)
    have He := Lib.hid ((he.q (Nat.le_refl _) q0).more q0.size)
    have HB := Lib.hid (BoxT.new w (Value.slice A ks.length c) (Value.slice S sl.length d) 25)
    go_enter Try.func3, Try.ntmps3
    go_wp2_with fail
    generalize w.alloc (Obj.cells #[Value.slice A ks.length c, Value.slice S sl.length d] 25) = W0 at *
    refine (shown_any _).mono ?_
    rintro e w1 ⟨rfl, q1⟩
    have HB1 := Lib.hid (HB.out.q q1)
    have b0 := HB1.out.c0
    have b1 := HB1.out.c1
    have HK1 := Lib.hid ((Hk.out.q (Nat.le_refl _) q1).more q1.size)
    have HS1 := Lib.hid ((HS.out.q (Nat.le_refl _) q1).more q1.size)
    go_wp2_with fail
    refine (refFew_any _ _ _ _ _ _ ks _ rfl HK1.out hl hs hsl).mono ?_
    rintro e w2 ⟨rfl, q2⟩
    have q02 := q1.trans q2
    have HB2 := Lib.hid (HB1.out.q q2)
    have b0' := HB2.out.c0
    have b1' := HB2.out.c1
    clear b0 b1
    rw [hf]
    go_wp2_with fail
    go_ret
    exact ⟨rfl, q0.trans q02⟩
  · cases hr : rightB ks sl
    · have q0 := (Q.refl w).alloc (Obj.cells #[Value.slice A ks.length c, Value.slice S sl.length d] 25)
      have Hk := Lib.hid ((hk.q (Nat.le_refl _) q0).more q0.size)
      have HS := Lib.hid ((hS.q (Nat.le_refl _) q0).more q0.size)
      have He := Lib.hid ((he.q (Nat.le_refl _) q0).more q0.size)
      have HB := Lib.hid (BoxT.new w (Value.slice A ks.length c) (Value.slice S sl.length d) 25)
      have HFw := Lib.hid hf
      go_enter Try.func3, Try.ntmps3
      go_wp2_with fail
      generalize w.alloc (Obj.cells #[Value.slice A ks.length c, Value.slice S sl.length d] 25) = W0 at *
      refine (shown_any _).mono ?_
      rintro e w1 ⟨rfl, q1⟩
      have HB1 := Lib.hid (HB.out.q q1)
      have b0 := HB1.out.c0
      have b1 := HB1.out.c1
      have HK1 := Lib.hid ((Hk.out.q (Nat.le_refl _) q1).more q1.size)
      have HS1 := Lib.hid ((HS.out.q (Nat.le_refl _) q1).more q1.size)
      go_wp2_with fail
      refine (refFew_any _ _ _ _ _ _ ks _ rfl HK1.out hl hs hsl).mono ?_
      rintro e w2 ⟨rfl, q2⟩
      have q02 := q1.trans q2
      have HB2 := Lib.hid (HB1.out.q q2)
      have b0' := HB2.out.c0
      have b1' := HB2.out.c1
      clear b0 b1
      rw [HFw.out]
      go_wp2_with fail
      refine (refRight_any _ _ _ _ _ _ ks sl _ rfl rfl ((Hk.out.q (Nat.le_refl _) q02).more q02.size) ((HS.out.q (Nat.le_refl _) q02).more q02.size) (few_lens HFw.out) (by have := few_sum HFw.out; omega) (by unfold maxLen; omega)).mono ?_
      rintro e w3 ⟨rfl, q3⟩
      have q03 := q02.trans q3
      have HB3 := Lib.hid (HB2.out.q q3)
      have b0 := HB3.out.c0
      have b1 := HB3.out.c1
      clear b0' b1'
      rw [hr]
      go_wp2_with fail
      go_ret
      exact ⟨rfl, q0.trans q03⟩
    · by_cases hlong : 500 < key.length
      · have q0 := (Q.refl w).alloc (Obj.cells #[Value.slice A ks.length c, Value.slice S sl.length d] 25)
        have Hk := Lib.hid ((hk.q (Nat.le_refl _) q0).more q0.size)
        have HS := Lib.hid ((hS.q (Nat.le_refl _) q0).more q0.size)
        have He := Lib.hid ((he.q (Nat.le_refl _) q0).more q0.size)
        have HB := Lib.hid (BoxT.new w (Value.slice A ks.length c) (Value.slice S sl.length d) 25)
        have HFw := Lib.hid hf
        have hlong' : (500 : Int) < (key.length : Int) := by omega
        go_enter Try.func3, Try.ntmps3
        go_wp2_with fail
        generalize w.alloc (Obj.cells #[Value.slice A ks.length c, Value.slice S sl.length d] 25) = W0 at *
        refine (shown_any _).mono ?_
        rintro e w1 ⟨rfl, q1⟩
        have HB1 := Lib.hid (HB.out.q q1)
        have b0 := HB1.out.c0
        have b1 := HB1.out.c1
        have HK1 := Lib.hid ((Hk.out.q (Nat.le_refl _) q1).more q1.size)
        have HS1 := Lib.hid ((HS.out.q (Nat.le_refl _) q1).more q1.size)
        go_wp2_with fail
        refine (refFew_any _ _ _ _ _ _ ks _ rfl HK1.out hl hs hsl).mono ?_
        rintro e w2 ⟨rfl, q2⟩
        have q02 := q1.trans q2
        have HB2 := Lib.hid (HB1.out.q q2)
        have b0' := HB2.out.c0
        have b1' := HB2.out.c1
        clear b0 b1
        rw [HFw.out]
        go_wp2_with fail
        refine (refRight_any _ _ _ _ _ _ ks sl _ rfl rfl ((Hk.out.q (Nat.le_refl _) q02).more q02.size) ((HS.out.q (Nat.le_refl _) q02).more q02.size) (few_lens HFw.out) (by have := few_sum HFw.out; omega) (by unfold maxLen; omega)).mono ?_
        rintro e w3 ⟨rfl, q3⟩
        have q03 := q02.trans q3
        have HB3 := Lib.hid (HB2.out.q q3)
        have b0 := HB3.out.c0
        have b1 := HB3.out.c1
        clear b0' b1'
        rw [hr]
        go_wp2_with fail
        go_ret
        exact ⟨rfl, q0.trans q03⟩
      · obtain ⟨hd, rfl⟩ := (right_iff ks sl).1 hr
        exact walk_in A S E c d ce ks key w hk hS he hl hs hsl hkl hce hf hd (by omega)

set_option maxRecDepth 100000 in
theorem lifted (os : Os) (started : os.Started) (H : Type) (enc : TypeId × Value → H) :
    ReturnsInHanded {} Try.checked os 3 .any (Rows.hashPutsSpec.pre6 enc Try.prog Try.f3 Rows.hashPutsRow.domain false) (Rows.hashPutsSpec.post enc Try.prog Try.f3 false true false false) := by
  refine returnsInHanded_of_change_sized (C := Try.checked) own started (by kernel_rfl) Try.func3
    (ChangeSpec.witness6 (enc := enc) (C := Try.checked) false ⟨#[], #[.agg #[.slice none 0 0, .slice none 0 0], .slice none 0 0], []⟩ 8 (by kernel_rfl) (by kernel_rfl) (by kernel_rfl) (by kernel_rfl)) ?_
  intro W base args ds gs before hval0 hW hcnd hsz0 _
  have hval : ∀ (j : Nat) t v, Try.f3.params[j]? = some t → args[j]? = some v → Value.okWide Try.prog W .any base t v := hval0
  have hW' := hW
  obtain ⟨p, q, hA0, hV, rfl, hfz, hnd⟩ := hW
  have hA : DataW.TrodAll enc Try.prog W 0 (fun _ => true) true Try.f3.params.toList args.toList ds p := hA0
  rw [Try.params3] at hA hval
  obtain ⟨v0, vs0, d0, ds0, p0, q0, hargs, rfl, rfl, h0, r0⟩ := trodAll_cons hA
  obtain ⟨v1, vs1, d1, ds1, p1, q1, rfl, rfl, rfl, h1, r1⟩ := trodAll_cons r0
  obtain ⟨rfl, rfl, rfl⟩ := trodAll_nil r1
  obtain rfl : args = #[v0, v1] := by cases args; simp_all
  obtain ⟨rfl, rfl⟩ := trodVars_none hV
  have z0 : ∀ n ∈ d0.weights Try.prog 25, n ≤ reachBytes := fun n hn => by
    have := List.all_eq_true.1 hsz0 n (DataW.weights_mem_each (j := 0) (t := 25) (d := d0) (by rw [Try.params3]; rfl) rfl n hn)
    simpa using this
  have z1 : ∀ n ∈ d1.weights Try.prog 23, n ≤ reachBytes := fun n hn => by
    have := List.all_eq_true.1 hsz0 n (DataW.weights_mem_each (j := 1) (t := 23) (d := d1) (by rw [Try.params3]; rfl) rfl n hn)
    simpa using this
  obtain ⟨A, n, c, S, m, d, ks, sl, rfl, rfl, rfl, hk, hS, hl, hs, hsl⟩ := open_table (hval 0 25 v0 rfl rfl) h0 z0
  obtain ⟨E, ke, ce, key, rfl, rfl, hce, he, hkl⟩ := open_key (hval 1 23 v1 rfl rfl) h1 z1
  clear hA0 hval0
  refine (walk A S E c d ce ks sl key W hk hS he hl hs hsl hkl hce).mono fun e W' ⟨he, hg⟩ => ?_
  subst he
  exact ⟨_, rfl, post_law laid (by rw [Try.params3]; decide +kernel) rfl rfl (by kernel_rfl) Try.underlying4 hW' hg⟩

/-- THE STATEMENT -/
theorem proved : Rows.HashPutsSaid :=
  OpenClaim.holds_of_wide 3 Try.f3 rfl rfl rfl rfl rfl rfl rfl ⟨rfl, rfl, rfl, rfl, rfl⟩ rfl rfl rfl rfl rfl (by kernel_rfl) Try.func3 (by kernel_rfl)
    (of_decide_eq_true (by kernel_rfl)) (by unfold Func.isWrapper; first | (rw [if_pos (by decide +kernel)]; kernel_rfl) | (rw [if_neg (by decide +kernel)]; exact ⟨rfl, rfl⟩))
    (fun os started H enc _ => lifted os started H enc)
end Go.Proofs.Ytcbhnhjefolpkaa.hashPuts
