/-
  TermFull: where there is no room nothing new is kept, but what is there is found; what may not be is refused, room or not. Proved for every row, table and term: no condition.
-/
import Derived.Test.YtdedlkeeifgajaaTermOpen
import Derived.Test.YtdedlkeeifgajaaRows
namespace Go.Proofs.Ytdedlkeeifgajaa.termFull
open Go.ChangeShapes Go.WideShapes Go.RowKit Kit Go.Deep Go.Joins Hs Tm

theorem tab_refl (ks : List (List Int)) (sl : List Int) : tabB ks sl ks sl = true := by
  unfold tabB
  rw [(rowsB_iff ks ks).2 rfl, (eqL_iff sl sl).2 rfl]
  rfl

set_option maxRecDepth 100000 in
set_option maxHeartbeats 4000000 in
theorem walk (L A S E : Option Addr) (nl cl n c m d ne ce : Nat) (l : List Sg.Sig) (ks : List (List Int)) (sl : List Int) (t : Tm) (w : World) (hnl : nl = l.length) (hr : Sg.Row w w.heap.size L l) (hll : l.length ≤ maxLen) (hsz : Sg.Sized l) (hn : n = ks.length) (hm : m = sl.length) (hk : Keys w w.heap.size A ks) (hS : Ints w w.heap.size S sl)
    (hl : ks.length ≤ 1152921504606846976) (hs : ∀ k ∈ ks, k.length ≤ 1152921504606846976) (hsl : sl.length ≤ 1152921504606846976) (hne : ne = t.xs.length) (he : Ints w w.heap.size E t.xs) (hw : Wf t.k) (hx : t.xs.length ≤ 1152921504606846976) :
    Calls Try.prog 7 #[.slice L nl cl, .agg #[.slice A n c, .slice S m d], .agg #[.int .i64 t.k, .int .i64 t.s, .int .i64 t.p, .slice E ne ce]] w fun e w' => e = .returned (.bool true) ∧ Q w w' := by
  subst hnl
  subst hn
  subst hm
  subst hne
  have q0 := ((Q.refl w).alloc (Obj.cells #[Value.slice A ks.length c, Value.slice S sl.length d] 27)).alloc (Obj.cells #[.int .i64 t.k, .int .i64 t.s, .int .i64 t.p, .slice E t.xs.length ce] 38)
  have Hr := Lib.hid ((hr.q (Nat.le_refl _) q0).more q0.size)
  have Hk := Lib.hid ((hk.q (Nat.le_refl _) q0).more q0.size)
  have HS := Lib.hid ((hS.q (Nat.le_refl _) q0).more q0.size)
  have He := Lib.hid ((he.q (Nat.le_refl _) q0).more q0.size)
  have HT := Lib.hid ((BoxT.new w (Value.slice A ks.length c) (Value.slice S sl.length d) 27).q ((Q.refl _).alloc (Obj.cells #[.int .i64 t.k, .int .i64 t.s, .int .i64 t.p, .slice E t.xs.length ce] 38)))
  have X := Box4.new (w.alloc (Obj.cells #[Value.slice A ks.length c, Value.slice S sl.length d] 27)) (.int .i64 t.k) (.int .i64 t.s) (.int .i64 t.p) (.slice E t.xs.length ce) 38
  rw [World.size_alloc] at X
  have HX := Lib.hid X
  have Hsb := Lib.hid hs
  clear hr hk hS he X hs
  go_enter Try.func7, Try.ntmps7
  go_wp2_with fail
  generalize (w.alloc (Obj.cells #[Value.slice A ks.length c, Value.slice S sl.length d] 27)).alloc (Obj.cells #[.int .i64 t.k, .int .i64 t.s, .int .i64 t.p, .slice E t.xs.length ce] 38) = W0 at *
  refine (shown3_any _).mono ?_
  rintro e w1 ⟨rfl, q1⟩
  have HT1 := Lib.hid (HT.out.q q1)
  have b0 := HT1.out.c0
  have b1 := HT1.out.c1
  go_wp2_with fail
  refine (of3_any _ _ _ _ _ _ _ _ _ l ks sl _ rfl ((Hr.out.q (Nat.le_refl _) q1).more q1.size) rfl rfl ((Hk.out.q (Nat.le_refl _) q1).more q1.size) ((HS.out.q (Nat.le_refl _) q1).more q1.size) hll hsz hl Hsb.out hsl).mono ?_
  rintro e w2 ⟨rfl, q2⟩
  have q12 := q1.trans q2
  have q02 := q0.trans q12
  clear b0 b1
  cases hof : ofB l ks sl
  · go_wp2_with fail
    go_ret
    exact ⟨rfl, q02⟩
  · have x3 := (HX.out.q q12).c3
    by_cases h100 : 100 < t.xs.length
    · have d100 : decide (100 < (t.xs.length : Int)) = true := decide_eq_true (by omega)
      go_wp2_with fail
      go_ret
      exact ⟨rfl, q02⟩
    · have d100 : decide (100 < (t.xs.length : Int)) = false := decide_eq_false (by omega)
      have hof' := hof
      unfold ofB at hof'
      simp only [Bool.and_eq_true, decide_eq_true_eq] at hof'
      obtain ⟨⟨⟨h64, _⟩, hfew⟩, hst0⟩ := hof'
      obtain ⟨hst, hsle⟩ := (store_iff l ks sl).1 hst0
      have hsum := few_sum hfew
      have Hst := Lib.hid hst
      have HsM : Hid (∀ k ∈ ks, k.length ≤ 2000) := fun k hk => by have := mem_len hk; omega
      have hks : ks.length ≤ 2000 := by omega
      have hfl : ks.flatten.length ≤ 2000 := by omega
      have hx1 : t.xs.length ≤ 100 := by omega
      have Hsl := Lib.hid hsle.symm
      have HT2 := Lib.hid (HT.out.q q12)
      have HX2 := Lib.hid (HX.out.q q12)
      have Hr2 := Lib.hid ((Hr.out.q (Nat.le_refl _) q12).more q12.size)
      have Hk2 := Lib.hid ((Hk.out.q (Nat.le_refl _) q12).more q12.size)
      have HS2 : Hid (Ints w2 w2.heap.size S (layI ks)) := by have := (HS.out.q (Nat.le_refl _) q12).more q12.size; rw [hsle] at this; exact this
      have He2 := Lib.hid ((He.out.q (Nat.le_refl _) q12).more q12.size)
      have Hln : Hid (sl.length = (layI ks).length) := by unfold Hid; rw [hsle]
      have Hlz : Hid ((layI ks).length ≤ 20000) := by unfold Hid; rw [layI_length]; have := sizeN_le ks.length; omega
      clear hof hfew hst0 hst hsle hsum x3 HT HX Hr Hk HS He HT1 q0 q1 q2 q12 h100 hll hsz hl hsl hx Hsb
      cases hM : mayB l ks.length t
      · have HM := Lib.hid hM
        have EK1 : Hid (put3L l ks t (ks.length : Int) = ks) := by unfold Hid put3L; rw [hM]; rfl
        have EI1 : Hid (put3I l ks t (ks.length : Int) = 0) := by unfold Hid put3I; rw [hM]; rfl
        have EE1 : Hid (put3E l ks t (ks.length : Int) = 1) := by unfold Hid put3E; rw [hM]; rfl
        have EK2 : Hid (put3L l ks t ((ks.length : Int) + 1) = ks) := by unfold Hid put3L; rw [hM]; rfl
        have EI2 : Hid (put3I l ks t ((ks.length : Int) + 1) = 0) := by unfold Hid put3I; rw [hM]; rfl
        have EE2 : Hid (put3E l ks t ((ks.length : Int) + 1) = 1) := by unfold Hid put3E; rw [hM]; rfl
        clear hM
        have b0 := HT2.out.c0
        have b1 := HT2.out.c1
        have x0 := HX2.out.c0
        have x1 := HX2.out.c1
        have x2 := HX2.out.c2
        have x3 := HX2.out.c3
        go_wp2_with fail
        refine (put3_any _ _ _ _ _ _ _ _ _ _ _ _ l ks t (ks.length : Int) _ rfl Hr2.out rfl Hln.out Hk2.out HS2.out rfl He2.out hw Hst.out.dist (fun k hk => by have := HsM.out k hk; omega) (by omega) (by omega) (by omega)).mono ?_
        rintro e w3 ⟨A3, c3, S3, d3, rfl, hk3, hS3, q3, _⟩
        rw [EK1.out] at hk3 hS3 ⊢
        rw [EI1.out, EE1.out]
        have q4 := q3.alloc (Obj.cells #[.slice A3 ks.length c3, .slice S3 (layI ks).length d3] 27)
        have q34 := (Q.refl w3).alloc (Obj.cells #[.slice A3 ks.length c3, .slice S3 (layI ks).length d3] 27)
        have HB4 := Lib.hid (BoxT.new w3 (.slice A3 ks.length c3) (.slice S3 (layI ks).length d3) 27)
        have Hk4 := Lib.hid ((hk3.q (Nat.le_refl _) q34).more q34.size)
        have HS4 := Lib.hid ((hS3.q (Nat.le_refl _) q34).more q34.size)
        have HT4 := Lib.hid (HT2.out.q q4)
        have HX4 := Lib.hid (HX2.out.q q4)
        have Hr4 := Lib.hid ((Hr2.out.q (Nat.le_refl _) q4).more q4.size)
        have Ha4 := Lib.hid ((Hk2.out.q (Nat.le_refl _) q4).more q4.size)
        have Hb4 := Lib.hid ((HS2.out.q (Nat.le_refl _) q4).more q4.size)
        have He4 := Lib.hid ((He2.out.q (Nat.le_refl _) q4).more q4.size)
        clear b0 b1 x0 x1 x2 x3 hk3 hS3 q34
        have b0 := HT4.out.c0
        have b1 := HT4.out.c1
        have x0 := HX4.out.c0
        have x1 := HX4.out.c1
        have x2 := HX4.out.c2
        have x3 := HX4.out.c3
        go_wp2_with fail
        generalize w3.alloc (Obj.cells #[.slice A3 ks.length c3, .slice S3 (layI ks).length d3] 27) = W4 at *
        refine (put3_any _ _ _ _ _ _ _ _ _ _ _ _ l ks t ((ks.length : Int) + 1) _ rfl Hr4.out rfl Hln.out Ha4.out Hb4.out rfl He4.out hw Hst.out.dist (fun k hk => by have := HsM.out k hk; omega) (by omega) (by omega) (by omega)).mono ?_
        rintro e w5 ⟨A5, c5, S5, d5, rfl, hk5, hS5, q5, _⟩
        rw [EK2.out] at hk5 hS5 ⊢
        rw [EI2.out, EE2.out]
        have q6 := q5.alloc (Obj.cells #[.slice A5 ks.length c5, .slice S5 (layI ks).length d5] 27)
        have q56 := (Q.refl w5).alloc (Obj.cells #[.slice A5 ks.length c5, .slice S5 (layI ks).length d5] 27)
        have HC6 := Lib.hid (BoxT.new w5 (.slice A5 ks.length c5) (.slice S5 (layI ks).length d5) 27)
        have Hc6 := Lib.hid ((hk5.q (Nat.le_refl _) q56).more q56.size)
        have Hd6 := Lib.hid ((hS5.q (Nat.le_refl _) q56).more q56.size)
        have q26 := q4.trans q6
        have HT6 := Lib.hid (HT4.out.q q6)
        have HX6 := Lib.hid (HX4.out.q q6)
        have HB6 := Lib.hid (HB4.out.q q6)
        have Hr6 := Lib.hid ((Hr4.out.q (Nat.le_refl _) q6).more q6.size)
        have Ha6 := Lib.hid ((Ha4.out.q (Nat.le_refl _) q6).more q6.size)
        have Hb6 := Lib.hid ((Hb4.out.q (Nat.le_refl _) q6).more q6.size)
        have He6 := Lib.hid ((He4.out.q (Nat.le_refl _) q6).more q6.size)
        have Hk6 := Lib.hid ((Hk4.out.q (Nat.le_refl _) q6).more q6.size)
        have HS6 := Lib.hid ((HS4.out.q (Nat.le_refl _) q6).more q6.size)
        clear b0 b1 x0 x1 x2 x3 hk5 hS5 q56 HT4 HX4 Hr4 Ha4 Hb4 He4 Hk4 HS4 HT2 HX2 Hr2 Hk2 HS2 He2 HB4
        have b0 := HT6.out.c0
        have b1 := HT6.out.c1
        have x0 := HX6.out.c0
        have x1 := HX6.out.c1
        have x2 := HX6.out.c2
        have x3 := HX6.out.c3
        go_wp2_with fail
        generalize w5.alloc (Obj.cells #[.slice A5 ks.length c5, .slice S5 (layI ks).length d5] 27) = W6 at *
        refine (may_any _ _ _ _ _ _ _ _ _ _ _ _ l t _ rfl Hr6.out rfl He6.out hw (by unfold maxLen; omega)).mono ?_
        rintro e w7 ⟨rfl, q7⟩
        rw [HM.out]
        have q27 := q26.trans q7
        have HT7 := Lib.hid (HT6.out.q q7)
        have HX7 := Lib.hid (HX6.out.q q7)
        have HB7 := Lib.hid (HB6.out.q q7)
        have HC7 := Lib.hid (HC6.out.q q7)
        have Ha7 := Lib.hid ((Ha6.out.q (Nat.le_refl _) q7).more q7.size)
        have Hb7 := Lib.hid ((Hb6.out.q (Nat.le_refl _) q7).more q7.size)
        have He7 := Lib.hid ((He6.out.q (Nat.le_refl _) q7).more q7.size)
        have Hk7 := Lib.hid ((Hk6.out.q (Nat.le_refl _) q7).more q7.size)
        have HS7 := Lib.hid ((HS6.out.q (Nat.le_refl _) q7).more q7.size)
        have Hc7 := Lib.hid ((Hc6.out.q (Nat.le_refl _) q7).more q7.size)
        have Hd7 := Lib.hid ((Hd6.out.q (Nat.le_refl _) q7).more q7.size)
        clear b0 b1 x0 x1 x2 x3 HT6 HX6 HB6 HC6 Ha6 Hb6 He6 Hk6 HS6 Hc6 Hd6 Hr6 q26
        have b0 := HT7.out.c0
        have b1 := HT7.out.c1
        have p0 := HB7.out.c0
        have p1 := HB7.out.c1
        go_wp2_with fail
        refine (Hs.refSame_any _ _ _ _ _ _ _ _ _ _ _ _ ks ks (layI ks) (layI ks) _ rfl rfl rfl Hln.out Hk7.out HS7.out Ha7.out Hb7.out (by unfold maxLen; omega) (fun k hk => by have := HsM.out k hk; unfold maxLen; omega) (by have := Hlz.out; unfold maxLen; omega)).mono ?_
        rintro e w8 ⟨rfl, q8⟩
        rw [tab_refl]
        clear b0 b1 p0 p1
        have b0 := (HT7.out.q q8).c0
        have b1 := (HT7.out.q q8).c1
        have p0 := (HC7.out.q q8).c0
        have p1 := (HC7.out.q q8).c1
        go_wp2_with fail
        refine (Hs.refSame_any _ _ _ _ _ _ _ _ _ _ _ _ ks ks (layI ks) (layI ks) _ rfl rfl rfl Hln.out ((Hc7.out.q (Nat.le_refl _) q8).more q8.size) ((Hd7.out.q (Nat.le_refl _) q8).more q8.size) ((Ha7.out.q (Nat.le_refl _) q8).more q8.size) ((Hb7.out.q (Nat.le_refl _) q8).more q8.size) (by unfold maxLen; omega) (fun k hk => by have := HsM.out k hk; unfold maxLen; omega) (by have := Hlz.out; unfold maxLen; omega)).mono ?_
        rintro e w9 ⟨rfl, q9⟩
        rw [tab_refl]
        go_wp2_with fail
        go_ret
        exact ⟨rfl, ((q02.trans q27).trans q8).trans q9⟩
      · have HM := Lib.hid hM
        rcases atI_cases ks t.key with ⟨h1, _⟩ | ⟨i, hi, h2⟩
        · have hf1 : fullB ks t (ks.length : Int) = true := by unfold fullB newB; rw [h1]; simp
          have hf2 : fullB ks t ((ks.length : Int) + 1) = false := by unfold fullB; rw [decide_eq_false (by omega)]; rfl
          have EK1 : Hid (put3L l ks t (ks.length : Int) = ks) := by unfold Hid put3L; rw [hM, hf1]; rfl
          have EI1 : Hid (put3I l ks t (ks.length : Int) = 0) := by unfold Hid put3I; rw [hM, hf1]; rfl
          have EE1 : Hid (put3E l ks t (ks.length : Int) = 7) := by unfold Hid put3E; rw [hM, hf1]; rfl
          obtain ⟨K, hK⟩ : ∃ K, ks ++ [t.key] = K := ⟨_, rfl⟩
          have HKl : Hid (K.length = ks.length + 1) := by unfold Hid; rw [← hK]; simp
          have EK2 : Hid (put3L l ks t ((ks.length : Int) + 1) = K) := by unfold Hid put3L; rw [hM, hf2, ← hK]; show putL ks t.key = _; unfold putL; rw [if_pos (by omega)]
          have EI2 : Hid (put3I l ks t ((ks.length : Int) + 1) = (ks.length : Int)) := by unfold Hid put3I; rw [hM, hf2]; show placeI ks t.key = _; unfold placeI; rw [if_pos (by omega)]
          have EE2 : Hid (put3E l ks t ((ks.length : Int) + 1) = 0) := by unfold Hid put3E; rw [hM, hf2]; rfl
          have Hat : Hid (atI ks (t.k :: t.s :: t.p :: t.xs) = -1) := h1
          clear hM hf1 hf2 h1 hK
          have b0 := HT2.out.c0
          have b1 := HT2.out.c1
          have x0 := HX2.out.c0
          have x1 := HX2.out.c1
          have x2 := HX2.out.c2
          have x3 := HX2.out.c3
          go_wp2_with fail
          refine (put3_any _ _ _ _ _ _ _ _ _ _ _ _ l ks t (ks.length : Int) _ rfl Hr2.out rfl Hln.out Hk2.out HS2.out rfl He2.out hw Hst.out.dist (fun k hk => by have := HsM.out k hk; omega) (by omega) (by omega) (by omega)).mono ?_
          rintro e w3 ⟨A3, c3, S3, d3, rfl, hk3, hS3, q3, _⟩
          rw [EK1.out] at hk3 hS3 ⊢
          rw [EI1.out, EE1.out]
          have q4 := q3.alloc (Obj.cells #[.slice A3 ks.length c3, .slice S3 (layI ks).length d3] 27)
          have q34 := (Q.refl w3).alloc (Obj.cells #[.slice A3 ks.length c3, .slice S3 (layI ks).length d3] 27)
          have HB4 := Lib.hid (BoxT.new w3 (.slice A3 ks.length c3) (.slice S3 (layI ks).length d3) 27)
          have Hk4 := Lib.hid ((hk3.q (Nat.le_refl _) q34).more q34.size)
          have HS4 := Lib.hid ((hS3.q (Nat.le_refl _) q34).more q34.size)
          have HT4 := Lib.hid (HT2.out.q q4)
          have HX4 := Lib.hid (HX2.out.q q4)
          have Hr4 := Lib.hid ((Hr2.out.q (Nat.le_refl _) q4).more q4.size)
          have Ha4 := Lib.hid ((Hk2.out.q (Nat.le_refl _) q4).more q4.size)
          have Hb4 := Lib.hid ((HS2.out.q (Nat.le_refl _) q4).more q4.size)
          have He4 := Lib.hid ((He2.out.q (Nat.le_refl _) q4).more q4.size)
          clear b0 b1 x0 x1 x2 x3 hk3 hS3 q34
          have b0 := HT4.out.c0
          have b1 := HT4.out.c1
          have x0 := HX4.out.c0
          have x1 := HX4.out.c1
          have x2 := HX4.out.c2
          have x3 := HX4.out.c3
          go_wp2_with fail
          generalize w3.alloc (Obj.cells #[.slice A3 ks.length c3, .slice S3 (layI ks).length d3] 27) = W4 at *
          refine (put3_any _ _ _ _ _ _ _ _ _ _ _ _ l ks t ((ks.length : Int) + 1) _ rfl Hr4.out rfl Hln.out Ha4.out Hb4.out rfl He4.out hw Hst.out.dist (fun k hk => by have := HsM.out k hk; omega) (by omega) (by omega) (by omega)).mono ?_
          rintro e w5 ⟨A5, c5, S5, d5, rfl, hk5, hS5, q5, _⟩
          rw [EK2.out] at hk5 hS5 ⊢
          rw [EI2.out, EE2.out]
          have q6 := q5.alloc (Obj.cells #[.slice A5 K.length c5, .slice S5 (layI K).length d5] 27)
          have q56 := (Q.refl w5).alloc (Obj.cells #[.slice A5 K.length c5, .slice S5 (layI K).length d5] 27)
          have HC6 := Lib.hid (BoxT.new w5 (.slice A5 K.length c5) (.slice S5 (layI K).length d5) 27)
          have Hc6 := Lib.hid ((hk5.q (Nat.le_refl _) q56).more q56.size)
          have Hd6 := Lib.hid ((hS5.q (Nat.le_refl _) q56).more q56.size)
          have q26 := q4.trans q6
          have HT6 := Lib.hid (HT4.out.q q6)
          have HX6 := Lib.hid (HX4.out.q q6)
          have HB6 := Lib.hid (HB4.out.q q6)
          have Hr6 := Lib.hid ((Hr4.out.q (Nat.le_refl _) q6).more q6.size)
          have Ha6 := Lib.hid ((Ha4.out.q (Nat.le_refl _) q6).more q6.size)
          have Hb6 := Lib.hid ((Hb4.out.q (Nat.le_refl _) q6).more q6.size)
          have He6 := Lib.hid ((He4.out.q (Nat.le_refl _) q6).more q6.size)
          have Hk6 := Lib.hid ((Hk4.out.q (Nat.le_refl _) q6).more q6.size)
          have HS6 := Lib.hid ((HS4.out.q (Nat.le_refl _) q6).more q6.size)
          clear b0 b1 x0 x1 x2 x3 hk5 hS5 q56 HT4 HX4 Hr4 Ha4 Hb4 He4 Hk4 HS4 HT2 HX2 Hr2 Hk2 HS2 He2 HB4
          have b0 := HT6.out.c0
          have b1 := HT6.out.c1
          have x0 := HX6.out.c0
          have x1 := HX6.out.c1
          have x2 := HX6.out.c2
          have x3 := HX6.out.c3
          go_wp2_with fail
          generalize w5.alloc (Obj.cells #[.slice A5 K.length c5, .slice S5 (layI K).length d5] 27) = W6 at *
          refine (may_any _ _ _ _ _ _ _ _ _ _ _ _ l t _ rfl Hr6.out rfl He6.out hw (by unfold maxLen; omega)).mono ?_
          rintro e w7 ⟨rfl, q7⟩
          rw [HM.out]
          have q27 := q26.trans q7
          have HT7 := Lib.hid (HT6.out.q q7)
          have HX7 := Lib.hid (HX6.out.q q7)
          have HB7 := Lib.hid (HB6.out.q q7)
          have HC7 := Lib.hid (HC6.out.q q7)
          have Ha7 := Lib.hid ((Ha6.out.q (Nat.le_refl _) q7).more q7.size)
          have Hb7 := Lib.hid ((Hb6.out.q (Nat.le_refl _) q7).more q7.size)
          have He7 := Lib.hid ((He6.out.q (Nat.le_refl _) q7).more q7.size)
          have Hk7 := Lib.hid ((Hk6.out.q (Nat.le_refl _) q7).more q7.size)
          have HS7 := Lib.hid ((HS6.out.q (Nat.le_refl _) q7).more q7.size)
          have Hc7 := Lib.hid ((Hc6.out.q (Nat.le_refl _) q7).more q7.size)
          have Hd7 := Lib.hid ((Hd6.out.q (Nat.le_refl _) q7).more q7.size)
          clear b0 b1 x0 x1 x2 x3 HT6 HX6 HB6 HC6 Ha6 Hb6 He6 Hk6 HS6 Hc6 Hd6 Hr6 q26
          have b0 := HT7.out.c0
          have x0 := HX7.out.c0
          have x1 := HX7.out.c1
          have x2 := HX7.out.c2
          have x3 := HX7.out.c3
          have hbl := HT7.out.lt
          have hxl := HX7.out.lt
          go_wp2_with fail
          go_region_held3 (fun w' => w'.cell? ⟨w.heap.size, 0, none⟩ = some (.slice A ks.length c) ∧ w'.cell? ⟨w.heap.size + 1, 0, none⟩ = some (.int .i64 t.k) ∧ w'.cell? ⟨w.heap.size + 1, 1, none⟩ = some (.int .i64 t.s) ∧ w'.cell? ⟨w.heap.size + 1, 2, none⟩ = some (.int .i64 t.p) ∧ w'.cell? ⟨w.heap.size + 1, 3, none⟩ = some (.slice E t.xs.length ce))
            (first
              | go_keep
              | exact ⟨(p9.cell (p := ⟨w.heap.size, 0, none⟩) hbl).trans b0, (p9.cell (p := ⟨w.heap.size + 1, 0, none⟩) hxl).trans x0, (p9.cell (p := ⟨w.heap.size + 1, 1, none⟩) hxl).trans x1, (p9.cell (p := ⟨w.heap.size + 1, 2, none⟩) hxl).trans x2, (p9.cell (p := ⟨w.heap.size + 1, 3, none⟩) hxl).trans x3⟩
              | exact ⟨(p8.cell (p := ⟨w.heap.size, 0, none⟩) hbl).trans b0, (p8.cell (p := ⟨w.heap.size + 1, 0, none⟩) hxl).trans x0, (p8.cell (p := ⟨w.heap.size + 1, 1, none⟩) hxl).trans x1, (p8.cell (p := ⟨w.heap.size + 1, 2, none⟩) hxl).trans x2, (p8.cell (p := ⟨w.heap.size + 1, 3, none⟩) hxl).trans x3⟩)
            (first
              | (go_at_call 29; refine (key_any _ _ _ _ _ _ t.xs _ rfl (by exact He7.out) (by omega)).mono ?_; rintro e w8 ⟨g8, c8, rfl, _, _, hO8, q8⟩; have HO8 := Lib.hid hO8.ints; clear hO8; have p8 := (Q.refl w7).drew.trans q8)
              | (go_at_call 12; refine (refAt_any _ _ _ _ _ _ ks (t.k :: t.s :: t.p :: t.xs) _ rfl rfl (by exact ((Ha7.out.q (Nat.le_refl _) p8).more p8.size)) (by exact HO8.out) (by unfold maxLen; omega) (fun k hk => by have := HsM.out k hk; unfold maxLen; omega)).mono ?_; rintro e w9 ⟨rfl, hd9⟩; have q9 := Q.of_drewN hd9; clear hd9; rw [Hat.out]; have p9 := p8.trans q9))
          have q29 := q27.trans p9
          clear b0 x0 x1 x2 x3
          have b0 := (HT7.out.q p9).c0
          have b1 := (HT7.out.q p9).c1
          have p0 := (HB7.out.q p9).c0
          have p1 := (HB7.out.q p9).c1
          go_wp2_with fail
          refine (Hs.refSame_any _ _ _ _ _ _ _ _ _ _ _ _ ks ks (layI ks) (layI ks) _ rfl rfl rfl Hln.out ((Hk7.out.q (Nat.le_refl _) p9).more p9.size) ((HS7.out.q (Nat.le_refl _) p9).more p9.size) ((Ha7.out.q (Nat.le_refl _) p9).more p9.size) ((Hb7.out.q (Nat.le_refl _) p9).more p9.size) (by unfold maxLen; omega) (fun k hk => by have := HsM.out k hk; unfold maxLen; omega) (by have := Hlz.out; unfold maxLen; omega)).mono ?_
          rintro e wa ⟨rfl, qa⟩
          rw [tab_refl]
          clear b0 b1 p0 p1
          have qq := p9.trans qa
          have b0 := (HT7.out.q qq).c0
          have p0 := (HC7.out.q qq).c0
          have hlk : ((K.length : Int) == (ks.length : Int) + 1) = true := by have := HKl.out; simp; omega
          go_wp2_with fail
          go_ret
          exact ⟨rfl, q02.trans (q27.trans qq)⟩
        · have hf1 : fullB ks t (ks.length : Int) = false := by unfold fullB newB; rw [h2, decide_eq_false (by omega : ¬ (i : Int) < 0), Bool.and_false]
          have hf2 : fullB ks t ((ks.length : Int) + 1) = false := by unfold fullB; rw [decide_eq_false (by omega)]; rfl
          have hpl : putL ks t.key = ks := by unfold putL; rw [if_neg (by omega)]
          have hpi : placeI ks t.key = (i : Int) := by unfold placeI; rw [if_neg (by omega)]; exact h2
          have EK1 : Hid (put3L l ks t (ks.length : Int) = ks) := by unfold Hid put3L; rw [hM, hf1]; exact hpl
          have EI1 : Hid (put3I l ks t (ks.length : Int) = (i : Int)) := by unfold Hid put3I; rw [hM, hf1]; exact hpi
          have EE1 : Hid (put3E l ks t (ks.length : Int) = 0) := by unfold Hid put3E; rw [hM, hf1]; rfl
          have EK2 : Hid (put3L l ks t ((ks.length : Int) + 1) = ks) := by unfold Hid put3L; rw [hM, hf2]; exact hpl
          have EI2 : Hid (put3I l ks t ((ks.length : Int) + 1) = (i : Int)) := by unfold Hid put3I; rw [hM, hf2]; exact hpi
          have EE2 : Hid (put3E l ks t ((ks.length : Int) + 1) = 0) := by unfold Hid put3E; rw [hM, hf2]; rfl
          have Hat : Hid (atI ks (t.k :: t.s :: t.p :: t.xs) = (i : Int)) := h2
          clear hM hf1 hf2 h2 hpl hpi hi
          have b0 := HT2.out.c0
          have b1 := HT2.out.c1
          have x0 := HX2.out.c0
          have x1 := HX2.out.c1
          have x2 := HX2.out.c2
          have x3 := HX2.out.c3
          go_wp2_with fail
          refine (put3_any _ _ _ _ _ _ _ _ _ _ _ _ l ks t (ks.length : Int) _ rfl Hr2.out rfl Hln.out Hk2.out HS2.out rfl He2.out hw Hst.out.dist (fun k hk => by have := HsM.out k hk; omega) (by omega) (by omega) (by omega)).mono ?_
          rintro e w3 ⟨A3, c3, S3, d3, rfl, hk3, hS3, q3, _⟩
          rw [EK1.out] at hk3 hS3 ⊢
          rw [EI1.out, EE1.out]
          have q4 := q3.alloc (Obj.cells #[.slice A3 ks.length c3, .slice S3 (layI ks).length d3] 27)
          have q34 := (Q.refl w3).alloc (Obj.cells #[.slice A3 ks.length c3, .slice S3 (layI ks).length d3] 27)
          have HB4 := Lib.hid (BoxT.new w3 (.slice A3 ks.length c3) (.slice S3 (layI ks).length d3) 27)
          have Hk4 := Lib.hid ((hk3.q (Nat.le_refl _) q34).more q34.size)
          have HS4 := Lib.hid ((hS3.q (Nat.le_refl _) q34).more q34.size)
          have HT4 := Lib.hid (HT2.out.q q4)
          have HX4 := Lib.hid (HX2.out.q q4)
          have Hr4 := Lib.hid ((Hr2.out.q (Nat.le_refl _) q4).more q4.size)
          have Ha4 := Lib.hid ((Hk2.out.q (Nat.le_refl _) q4).more q4.size)
          have Hb4 := Lib.hid ((HS2.out.q (Nat.le_refl _) q4).more q4.size)
          have He4 := Lib.hid ((He2.out.q (Nat.le_refl _) q4).more q4.size)
          clear b0 b1 x0 x1 x2 x3 hk3 hS3 q34
          have b0 := HT4.out.c0
          have b1 := HT4.out.c1
          have x0 := HX4.out.c0
          have x1 := HX4.out.c1
          have x2 := HX4.out.c2
          have x3 := HX4.out.c3
          go_wp2_with fail
          generalize w3.alloc (Obj.cells #[.slice A3 ks.length c3, .slice S3 (layI ks).length d3] 27) = W4 at *
          refine (put3_any _ _ _ _ _ _ _ _ _ _ _ _ l ks t ((ks.length : Int) + 1) _ rfl Hr4.out rfl Hln.out Ha4.out Hb4.out rfl He4.out hw Hst.out.dist (fun k hk => by have := HsM.out k hk; omega) (by omega) (by omega) (by omega)).mono ?_
          rintro e w5 ⟨A5, c5, S5, d5, rfl, hk5, hS5, q5, _⟩
          rw [EK2.out] at hk5 hS5 ⊢
          rw [EI2.out, EE2.out]
          have q6 := q5.alloc (Obj.cells #[.slice A5 ks.length c5, .slice S5 (layI ks).length d5] 27)
          have q56 := (Q.refl w5).alloc (Obj.cells #[.slice A5 ks.length c5, .slice S5 (layI ks).length d5] 27)
          have HC6 := Lib.hid (BoxT.new w5 (.slice A5 ks.length c5) (.slice S5 (layI ks).length d5) 27)
          have Hc6 := Lib.hid ((hk5.q (Nat.le_refl _) q56).more q56.size)
          have Hd6 := Lib.hid ((hS5.q (Nat.le_refl _) q56).more q56.size)
          have q26 := q4.trans q6
          have HT6 := Lib.hid (HT4.out.q q6)
          have HX6 := Lib.hid (HX4.out.q q6)
          have HB6 := Lib.hid (HB4.out.q q6)
          have Hr6 := Lib.hid ((Hr4.out.q (Nat.le_refl _) q6).more q6.size)
          have Ha6 := Lib.hid ((Ha4.out.q (Nat.le_refl _) q6).more q6.size)
          have Hb6 := Lib.hid ((Hb4.out.q (Nat.le_refl _) q6).more q6.size)
          have He6 := Lib.hid ((He4.out.q (Nat.le_refl _) q6).more q6.size)
          have Hk6 := Lib.hid ((Hk4.out.q (Nat.le_refl _) q6).more q6.size)
          have HS6 := Lib.hid ((HS4.out.q (Nat.le_refl _) q6).more q6.size)
          clear b0 b1 x0 x1 x2 x3 hk5 hS5 q56 HT4 HX4 Hr4 Ha4 Hb4 He4 Hk4 HS4 HT2 HX2 Hr2 Hk2 HS2 He2 HB4
          have b0 := HT6.out.c0
          have b1 := HT6.out.c1
          have x0 := HX6.out.c0
          have x1 := HX6.out.c1
          have x2 := HX6.out.c2
          have x3 := HX6.out.c3
          go_wp2_with fail
          generalize w5.alloc (Obj.cells #[.slice A5 ks.length c5, .slice S5 (layI ks).length d5] 27) = W6 at *
          refine (may_any _ _ _ _ _ _ _ _ _ _ _ _ l t _ rfl Hr6.out rfl He6.out hw (by unfold maxLen; omega)).mono ?_
          rintro e w7 ⟨rfl, q7⟩
          rw [HM.out]
          have q27 := q26.trans q7
          have HT7 := Lib.hid (HT6.out.q q7)
          have HX7 := Lib.hid (HX6.out.q q7)
          have HB7 := Lib.hid (HB6.out.q q7)
          have HC7 := Lib.hid (HC6.out.q q7)
          have Ha7 := Lib.hid ((Ha6.out.q (Nat.le_refl _) q7).more q7.size)
          have Hb7 := Lib.hid ((Hb6.out.q (Nat.le_refl _) q7).more q7.size)
          have He7 := Lib.hid ((He6.out.q (Nat.le_refl _) q7).more q7.size)
          have Hk7 := Lib.hid ((Hk6.out.q (Nat.le_refl _) q7).more q7.size)
          have HS7 := Lib.hid ((HS6.out.q (Nat.le_refl _) q7).more q7.size)
          have Hc7 := Lib.hid ((Hc6.out.q (Nat.le_refl _) q7).more q7.size)
          have Hd7 := Lib.hid ((Hd6.out.q (Nat.le_refl _) q7).more q7.size)
          clear b0 b1 x0 x1 x2 x3 HT6 HX6 HB6 HC6 Ha6 Hb6 He6 Hk6 HS6 Hc6 Hd6 Hr6 q26
          have b0 := HT7.out.c0
          have x0 := HX7.out.c0
          have x1 := HX7.out.c1
          have x2 := HX7.out.c2
          have x3 := HX7.out.c3
          have hbl := HT7.out.lt
          have hxl := HX7.out.lt
          go_wp2_with fail
          go_region_held3 (fun w' => w'.cell? ⟨w.heap.size, 0, none⟩ = some (.slice A ks.length c) ∧ w'.cell? ⟨w.heap.size + 1, 0, none⟩ = some (.int .i64 t.k) ∧ w'.cell? ⟨w.heap.size + 1, 1, none⟩ = some (.int .i64 t.s) ∧ w'.cell? ⟨w.heap.size + 1, 2, none⟩ = some (.int .i64 t.p) ∧ w'.cell? ⟨w.heap.size + 1, 3, none⟩ = some (.slice E t.xs.length ce))
            (first
              | go_keep
              | exact ⟨(p9.cell (p := ⟨w.heap.size, 0, none⟩) hbl).trans b0, (p9.cell (p := ⟨w.heap.size + 1, 0, none⟩) hxl).trans x0, (p9.cell (p := ⟨w.heap.size + 1, 1, none⟩) hxl).trans x1, (p9.cell (p := ⟨w.heap.size + 1, 2, none⟩) hxl).trans x2, (p9.cell (p := ⟨w.heap.size + 1, 3, none⟩) hxl).trans x3⟩
              | exact ⟨(p8.cell (p := ⟨w.heap.size, 0, none⟩) hbl).trans b0, (p8.cell (p := ⟨w.heap.size + 1, 0, none⟩) hxl).trans x0, (p8.cell (p := ⟨w.heap.size + 1, 1, none⟩) hxl).trans x1, (p8.cell (p := ⟨w.heap.size + 1, 2, none⟩) hxl).trans x2, (p8.cell (p := ⟨w.heap.size + 1, 3, none⟩) hxl).trans x3⟩)
            (first
              | (go_at_call 29; refine (key_any _ _ _ _ _ _ t.xs _ rfl (by exact He7.out) (by omega)).mono ?_; rintro e w8 ⟨g8, c8, rfl, _, _, hO8, q8⟩; have HO8 := Lib.hid hO8.ints; clear hO8; have p8 := (Q.refl w7).drew.trans q8)
              | (go_at_call 12; refine (refAt_any _ _ _ _ _ _ ks (t.k :: t.s :: t.p :: t.xs) _ rfl rfl (by exact ((Ha7.out.q (Nat.le_refl _) p8).more p8.size)) (by exact HO8.out) (by unfold maxLen; omega) (fun k hk => by have := HsM.out k hk; unfold maxLen; omega)).mono ?_; rintro e w9 ⟨rfl, hd9⟩; have q9 := Q.of_drewN hd9; clear hd9; rw [Hat.out]; have p9 := p8.trans q9))
          have q29 := q27.trans p9
          clear b0 x0 x1 x2 x3
          go_wp2_with fail
          go_ret
          exact ⟨rfl, q02.trans q29⟩

set_option maxRecDepth 100000 in
theorem lifted (os : Os) (started : os.Started) (H : Type) (enc : TypeId × Value → H) :
    ReturnsInHanded {} Try.checked os 7 .any (Rows.termFullSpec.pre6 enc Try.prog Try.f7 Rows.termFullRow.domain false) (Rows.termFullSpec.post enc Try.prog Try.f7 false true false false) := by
  refine returnsInHanded_of_change_sized (C := Try.checked) own started (by kernel_rfl) Try.func7
    (ChangeSpec.witness6 (enc := enc) (C := Try.checked) false ⟨#[], #[.slice none 0 0, .agg #[.slice none 0 0, .slice none 0 0], .agg #[.int .i64 0, .int .i64 0, .int .i64 0, .slice none 0 0]], []⟩ 8 (by kernel_rfl) (by kernel_rfl) (by kernel_rfl) (by kernel_rfl)) ?_
  intro W base args ds gs before hval0 hW hcnd hsz0 _
  have hval : ∀ (j : Nat) t v, Try.f7.params[j]? = some t → args[j]? = some v → Value.okWide Try.prog W .any base t v := hval0
  have hW' := hW
  obtain ⟨p, q, hA0, hV, rfl, hfz, hnd⟩ := hW
  have hA : DataW.TrodAll enc Try.prog W 0 (fun _ => true) true Try.f7.params.toList args.toList ds p := hA0
  rw [Try.params7] at hA hval
  obtain ⟨v0, vs0, d0, ds0, p0, q0, hargs, rfl, rfl, h0, r0⟩ := trodAll_cons hA
  obtain ⟨v1, vs1, d1, ds1, p1, q1, rfl, rfl, rfl, h1, r1⟩ := trodAll_cons r0
  obtain ⟨v2, vs2, d2, ds2, p2, q2, rfl, rfl, rfl, h2, r2⟩ := trodAll_cons r1
  obtain ⟨rfl, rfl, rfl⟩ := trodAll_nil r2
  obtain rfl : args = #[v0, v1, v2] := by cases args; simp_all
  obtain ⟨rfl, rfl⟩ := trodVars_none hV
  have z0 : ∀ n ∈ d0.weights Try.prog 36, n ≤ reachBytes := fun n hn => by
    have := List.all_eq_true.1 hsz0 n (DataW.weights_mem_each (j := 0) (t := 36) (d := d0) (by rw [Try.params7]; rfl) rfl n hn)
    simpa using this
  have z1 : ∀ n ∈ d1.weights Try.prog 27, n ≤ reachBytes := fun n hn => by
    have := List.all_eq_true.1 hsz0 n (DataW.weights_mem_each (j := 1) (t := 27) (d := d1) (by rw [Try.params7]; rfl) rfl n hn)
    simpa using this
  have z2 : ∀ n ∈ d2.weights Try.prog 38, n ≤ reachBytes := fun n hn => by
    have := List.all_eq_true.1 hsz0 n (DataW.weights_mem_each (j := 2) (t := 38) (d := d2) (by rw [Try.params7]; rfl) rfl n hn)
    simpa using this
  obtain ⟨L, nl, cl, l, rfl, hnl, hr, hll, hsz, _⟩ := Sg.open_sigs (hval 0 36 v0 rfl rfl) h0
  obtain ⟨A, n, c, S, m, d, ks, sl, rfl, hn, hm, hk, hS, hl, hs, hsl⟩ := open_table (hval 1 27 v1 rfl rfl) h1 z1
  obtain ⟨t, E, ne, ce, rfl, hne, he, hw, hx⟩ := open_term (hval 2 38 v2 rfl rfl) h2 z2
  clear hA0 hval0
  refine (walk L A S E nl cl n c m d ne ce l ks sl t W hnl hr hll hsz hn hm hk hS hl hs hsl hne he hw hx).mono fun e W' ⟨he, hg⟩ => ?_
  subst he
  exact ⟨_, rfl, post_law laid (by rw [Try.params7]; decide +kernel) rfl rfl (by kernel_rfl) Try.underlying4 hW' hg⟩

/-- THE STATEMENT -/
theorem proved : Rows.TermFullSaid :=
  OpenClaim.holds_of_wide 7 Try.f7 rfl rfl rfl rfl rfl rfl rfl ⟨rfl, rfl, rfl, rfl, rfl⟩ rfl rfl rfl rfl rfl (by kernel_rfl) Try.func7 (by kernel_rfl)
    (of_decide_eq_true (by kernel_rfl)) (by unfold Func.isWrapper; first | (rw [if_pos (by decide +kernel)]; kernel_rfl) | (rw [if_neg (by decide +kernel)]; exact ⟨rfl, rfl⟩))
    (fun os started H enc _ => lifted os started H enc)
end Go.Proofs.Ytdedlkeeifgajaa.termFull
