/-
  TermStays: what comes out is a store; what was there stays; the term that was put is at its place; put again it is there already. Proved for every row, table and term: no condition.
-/
import Derived.Test.YtdedlkeeifgajaaTermOpen
import Derived.Test.YtdedlkeeifgajaaRows
namespace Go.Proofs.Ytdedlkeeifgajaa.termStays
open Go.ChangeShapes Go.WideShapes Go.RowKit Kit Go.Deep Go.Joins Hs Tm

theorem tab_refl (ks : List (List Int)) (sl : List Int) : tabB ks sl ks sl = true := by
  unfold tabB
  rw [(rowsB_iff ks ks).2 rfl, (eqL_iff sl sl).2 rfl]
  rfl
/-- a store with a term is a store -/
theorem put_store {l : List Sg.Sig} {ks : List (List Int)} {t : Tm} (h : Store l ks) (hM : mayB l ks.length t = true) : Store l (putL ks t.key) := by
  unfold putL
  by_cases hat : atI ks t.key < 0
  · rw [if_pos hat]
    have hno : ∀ (i : Nat) x, ks[i]? = some x → x ≠ t.key := by
      rcases atI_cases ks t.key with ⟨_, h2⟩ | ⟨i, _, h2⟩
      · exact h2
      · omega
    refine ⟨h.dist.snoc hno, by have := h.two; simp; omega, fun i key hi => ?_⟩
    rw [List.getElem?_append] at hi
    split at hi
    · exact h.ok i key hi
    · rename_i hge
      have hi0 : i = ks.length := by
        have := (List.getElem?_eq_some_iff.1 hi).1
        simp at this
        omega
      subst hi0
      obtain rfl : t.key = key := by simpa using hi
      unfold keyOk
      rw [ofKey_key, hM, decide_eq_false (by have := h.two; omega : ¬ ks.length < 2), decide_eq_true (by rw [key_len]; omega)]
      rfl
  · rw [if_neg hat]; exact h
theorem putL_len (ks : List (List Int)) (key : List Int) : ks.length ≤ (putL ks key).length ∧ (putL ks key).length ≤ ks.length + 1 := by
  unfold putL
  split <;> simp
theorem putL_get {ks : List (List Int)} {key x : List Int} {i : Nat} (h : ks[i]? = some x) : (putL ks key)[i]? = some x := by
  unfold putL
  split
  · rw [List.getElem?_append_left (List.getElem?_eq_some_iff.1 h).1]; exact h
  · exact h
theorem putL_flat (ks : List (List Int)) (key : List Int) : (putL ks key).flatten.length ≤ ks.flatten.length + key.length := by
  unfold putL
  split
  · rw [List.flatten_append, List.length_append]; simp
  · omega
theorem putL_mem {ks : List (List Int)} {key k : List Int} (h : k ∈ putL ks key) : k ∈ ks ∨ k = key := by
  unfold putL at h
  split at h
  · simpa using h
  · exact .inl h
/-- where a term that was put stands -/
theorem put_place {ks : List (List Int)} {key : List Int} : ∃ p : Nat, placeI ks key = (p : Int) ∧ (putL ks key)[p]? = some key := by
  unfold placeI putL
  rcases atI_cases ks key with ⟨h1, _⟩ | ⟨i, h1, h2⟩
  · rw [if_pos (by omega), if_pos (by omega)]
    exact ⟨ks.length, rfl, by rw [List.getElem?_append_right (Nat.le_refl _)]; simp⟩
  · rw [if_neg (by omega), if_neg (by omega)]
    exact ⟨i, h2, h1⟩

set_option maxRecDepth 100000 in
set_option maxHeartbeats 4000000 in
theorem walk (L A S E : Option Addr) (nl cl n c m d ne ce : Nat) (l : List Sg.Sig) (ks : List (List Int)) (sl : List Int) (t : Tm) (w : World) (hnl : nl = l.length) (hr : Sg.Row w w.heap.size L l) (hll : l.length ≤ maxLen) (hsz : Sg.Sized l) (hn : n = ks.length) (hm : m = sl.length) (hk : Keys w w.heap.size A ks) (hS : Ints w w.heap.size S sl)
    (hl : ks.length ≤ 1152921504606846976) (hs : ∀ k ∈ ks, k.length ≤ 1152921504606846976) (hsl : sl.length ≤ 1152921504606846976) (hne : ne = t.xs.length) (he : Ints w w.heap.size E t.xs) (hw : Wf t.k) (hx : t.xs.length ≤ 1152921504606846976) :
    Calls Try.prog 5 #[.slice L nl cl, .agg #[.slice A n c, .slice S m d], .agg #[.int .i64 t.k, .int .i64 t.s, .int .i64 t.p, .slice E ne ce]] w fun e w' => e = .returned (.bool true) ∧ Q w w' := by
  subst hnl
  subst hn
  subst hm
  subst hne
  have q0 := ((Q.refl w).alloc (Obj.cells #[Value.slice A ks.length c, Value.slice S sl.length d] 27)).alloc (Obj.cells #[.int .i64 t.k, .int .i64 t.s, .int .i64 t.p, .slice E t.xs.length ce] 38)
  have Hr := Lib.hid ((hr.q (Nat.le_refl _) q0).more q0.size)
  have Hk := Lib.hid ((hk.q (Nat.le_refl _) q0).more q0.size)
  have HS := Lib.hid ((hS.q (Nat.le_refl _) q0).more q0.size)
  have He := Lib.hid ((he.q (Nat.le_refl _) q0).more q0.size)
  have HT := Lib.hid ((BoxT.new w (Value.slice A ks.length c) (Value.slice S sl.length d) 27).q ((Q.refl _).alloc (Obj.cells #[.int .i64 t.k, .int .i64 t.s, .int .i64 t.p, .slice E t.xs.length ce] 38)))
  have X := Box4.new (w.alloc (Obj.cells #[Value.slice A ks.length c, Value.slice S sl.length d] 27)) (.int .i64 t.k) (.int .i64 t.s) (.int .i64 t.p) (.slice E t.xs.length ce) 38
  rw [World.size_alloc] at X
  have HX := Lib.hid X
  have Hsb := Lib.hid hs
  clear hr hk hS he X hs
  go_enter Try.func5, Try.ntmps5
  go_wp2_with fail
  generalize (w.alloc (Obj.cells #[Value.slice A ks.length c, Value.slice S sl.length d] 27)).alloc (Obj.cells #[.int .i64 t.k, .int .i64 t.s, .int .i64 t.p, .slice E t.xs.length ce] 38) = W0 at *
  refine (shown3_any _).mono ?_
  rintro e w1 ⟨rfl, q1⟩
  have HT1 := Lib.hid (HT.out.q q1)
  have b0 := HT1.out.c0
  have b1 := HT1.out.c1
  go_wp2_with fail
  refine (of3_any _ _ _ _ _ _ _ _ _ l ks sl _ rfl ((Hr.out.q (Nat.le_refl _) q1).more q1.size) rfl rfl ((Hk.out.q (Nat.le_refl _) q1).more q1.size) ((HS.out.q (Nat.le_refl _) q1).more q1.size) hll hsz hl Hsb.out hsl).mono ?_
  rintro e w2 ⟨rfl, q2⟩
  have q12 := q1.trans q2
  have q02 := q0.trans q12
  clear b0 b1
  cases hof : ofB l ks sl
  · go_wp2_with fail
    go_ret
    exact ⟨rfl, q02⟩
  · have x3 := (HX.out.q q12).c3
    by_cases h100 : 100 < t.xs.length
    · have d100 : decide (100 < (t.xs.length : Int)) = true := decide_eq_true (by omega)
      go_wp2_with fail
      go_ret
      exact ⟨rfl, q02⟩
    · have d100 : decide (100 < (t.xs.length : Int)) = false := decide_eq_false (by omega)
      have hof' := hof
      unfold ofB at hof'
      simp only [Bool.and_eq_true, decide_eq_true_eq] at hof'
      obtain ⟨⟨⟨h64, _⟩, hfew⟩, hst0⟩ := hof'
      obtain ⟨hst, hsle⟩ := (store_iff l ks sl).1 hst0
      have hsum := few_sum hfew
      have Hst := Lib.hid hst
      have HsM : Hid (∀ k ∈ ks, k.length ≤ 2000) := fun k hk => by have := mem_len hk; omega
      have hks : ks.length ≤ 2000 := by omega
      have hfl : ks.flatten.length ≤ 2000 := by omega
      have hx1 : t.xs.length ≤ 100 := by omega
      have Hsl := Lib.hid hsle.symm
      have HT2 := Lib.hid (HT.out.q q12)
      have HX2 := Lib.hid (HX.out.q q12)
      have Hr2 := Lib.hid ((Hr.out.q (Nat.le_refl _) q12).more q12.size)
      have Hk2 := Lib.hid ((Hk.out.q (Nat.le_refl _) q12).more q12.size)
      have HS2 : Hid (Ints w2 w2.heap.size S (layI ks)) := by have := (HS.out.q (Nat.le_refl _) q12).more q12.size; rw [hsle] at this; exact this
      have He2 := Lib.hid ((He.out.q (Nat.le_refl _) q12).more q12.size)
      have Hln : Hid (sl.length = (layI ks).length) := by unfold Hid; rw [hsle]
      have Hlz : Hid ((layI ks).length ≤ 20000) := by unfold Hid; rw [layI_length]; have := sizeN_le ks.length; omega
      clear hof hfew hst0 hst hsle hsum x3 HT HX Hr Hk HS He HT1 q0 q1 q2 q12 h100 hll hsz hl hsl hx Hsb
      cases hM : mayB l ks.length t
      · have HM := Lib.hid hM
        have EK1 : Hid (put3L l ks t 5000 = ks) := by unfold Hid put3L; rw [hM]; rfl
        have EI1 : Hid (put3I l ks t 5000 = 0) := by unfold Hid put3I; rw [hM]; rfl
        have EE1 : Hid (put3E l ks t 5000 = 1) := by unfold Hid put3E; rw [hM]; rfl
        clear hM
        have b0 := HT2.out.c0
        have b1 := HT2.out.c1
        have x0 := HX2.out.c0
        have x1 := HX2.out.c1
        have x2 := HX2.out.c2
        have x3 := HX2.out.c3
        go_wp2_with fail
        refine (put3_any _ _ _ _ _ _ _ _ _ _ _ _ l ks t 5000 _ rfl Hr2.out rfl Hln.out Hk2.out HS2.out rfl He2.out hw Hst.out.dist (fun k hk => by have := HsM.out k hk; omega) (by omega) (by omega) (by omega)).mono ?_
        rintro e w3 ⟨A3, c3, S3, d3, rfl, hk3, hS3, q3, _⟩
        rw [EK1.out] at hk3 hS3 ⊢
        rw [EI1.out, EE1.out]
        have q4 := q3.alloc (Obj.cells #[.slice A3 ks.length c3, .slice S3 (layI ks).length d3] 27)
        have q34 := (Q.refl w3).alloc (Obj.cells #[.slice A3 ks.length c3, .slice S3 (layI ks).length d3] 27)
        have HB4 := Lib.hid (BoxT.new w3 (.slice A3 ks.length c3) (.slice S3 (layI ks).length d3) 27)
        have Hk4 := Lib.hid ((hk3.q (Nat.le_refl _) q34).more q34.size)
        have HS4 := Lib.hid ((hS3.q (Nat.le_refl _) q34).more q34.size)
        have HT4 := Lib.hid (HT2.out.q q4)
        have HX4 := Lib.hid (HX2.out.q q4)
        have Hr4 := Lib.hid ((Hr2.out.q (Nat.le_refl _) q4).more q4.size)
        have Ha4 := Lib.hid ((Hk2.out.q (Nat.le_refl _) q4).more q4.size)
        have Hb4 := Lib.hid ((HS2.out.q (Nat.le_refl _) q4).more q4.size)
        have He4 := Lib.hid ((He2.out.q (Nat.le_refl _) q4).more q4.size)
        clear b0 b1 x0 x1 x2 x3 hk3 hS3 q34 HT2 HX2 Hr2 Hk2 HS2 He2
        have b0 := HT4.out.c0
        have b1 := HT4.out.c1
        have x0 := HX4.out.c0
        have x1 := HX4.out.c1
        have x2 := HX4.out.c2
        have x3 := HX4.out.c3
        have p0 := HB4.out.c0
        have p1 := HB4.out.c1
        go_wp2_with fail
        generalize w3.alloc (Obj.cells #[.slice A3 ks.length c3, .slice S3 (layI ks).length d3] 27) = W4 at *
        refine (Hs.refSame_any _ _ _ _ _ _ _ _ _ _ _ _ ks ks (layI ks) (layI ks) _ rfl Hln.out rfl rfl Ha4.out Hb4.out Hk4.out HS4.out (by unfold maxLen; omega) (fun k hk => by have := HsM.out k hk; unfold maxLen; omega) (by have := Hlz.out; unfold maxLen; omega)).mono ?_
        rintro e w5 ⟨rfl, q5⟩
        rw [tab_refl]
        clear b0 b1 x0 x1 x2 x3 p0 p1
        have b0 := (HT4.out.q q5).c0
        have b1 := (HT4.out.q q5).c1
        have x0 := (HX4.out.q q5).c0
        have x1 := (HX4.out.q q5).c1
        have x2 := (HX4.out.q q5).c2
        have x3 := (HX4.out.q q5).c3
        go_wp2_with fail
        refine (may_any _ _ _ _ _ _ _ _ _ _ _ _ l t _ rfl ((Hr4.out.q (Nat.le_refl _) q5).more q5.size) rfl ((He4.out.q (Nat.le_refl _) q5).more q5.size) hw (by unfold maxLen; omega)).mono ?_
        rintro e w6 ⟨rfl, q6⟩
        rw [HM.out]
        go_wp2_with fail
        go_ret
        exact ⟨rfl, ((q02.trans q4).trans q5).trans q6⟩
      · have hf : fullB ks t 5000 = false := by unfold fullB; rw [decide_eq_false (by omega)]; rfl
        obtain ⟨p, hp1, hp2⟩ := put_place (ks := ks) (key := t.key)
        have hst2 := put_store Hst.out hM
        have hla := putL_len ks t.key
        have hfa := putL_flat ks t.key
        have hkl := key_len t
        have hkm : ∀ k ∈ putL ks t.key, k.length ≤ 2200 := fun k hk => by
          rcases putL_mem hk with h | rfl
          · have := HsM.out k h; omega
          · omega
        have hat : atI (putL ks t.key) t.key = (p : Int) := by rw [putL_at Hst.out.dist]; exact hp1
        have hag : putL (putL ks t.key) t.key = putL ks t.key := putL_again Hst.out.dist
        have hg : ∀ (i : Nat) (x : List Int), ks[i]? = some x → (putL ks t.key)[i]? = some x := fun i x hx => putL_get hx
        have hm2 : mayB l (putL ks t.key).length t = true := by
          have h := hM
          unfold mayB at h ⊢
          simp only [Bool.and_eq_true] at h ⊢
          refine ⟨h.1, ?_⟩
          have h2 := h.2
          unfold allPl at h2 ⊢
          rw [List.all_eq_true] at h2 ⊢
          intro x hx
          have := (isPl_iff _ _).1 (h2 x hx)
          exact (isPl_iff _ _).2 (by omega)
        have EK1' : put3L l ks t 5000 = putL ks t.key := by unfold put3L; rw [hM, hf]; rfl
        have EI1' : put3I l ks t 5000 = (p : Int) := by unfold put3I; rw [hM, hf]; exact hp1
        have EE1 : Hid (put3E l ks t 5000 = 0) := by unfold Hid put3E; rw [hM, hf]; rfl
        obtain ⟨K, hK⟩ : ∃ K, putL ks t.key = K := ⟨_, rfl⟩
        rw [hK] at hp2 hst2 hla hfa hkm hat hag hg hm2 EK1'
        have hf2 : fullB K t 0 = false := by unfold fullB newB; rw [hat, decide_eq_false (by omega : ¬ (p : Int) < 0), Bool.and_false]
        have EK1 := Lib.hid EK1'
        have EI1 := Lib.hid EI1'
        have EK2 : Hid (put3L l K t 0 = K) := by unfold Hid put3L; rw [hm2, hf2]; exact hag
        have EI2 : Hid (put3I l K t 0 = (p : Int)) := by unfold Hid put3I; rw [hm2, hf2]; show placeI K t.key = _; unfold placeI; rw [if_neg (by omega)]; exact hat
        have EE2 : Hid (put3E l K t 0 = 0) := by unfold Hid put3E; rw [hm2, hf2]; rfl
        have HKst := Lib.hid hst2
        have HKM := Lib.hid hkm
        have HKg := Lib.hid hg
        have HKb : Hid (storeB l K (layI K) = true) := (store_iff l K (layI K)).2 ⟨hst2, rfl⟩
        have HKz : Hid ((layI K).length ≤ 30000) := by unfold Hid; rw [layI_length]; have := sizeN_le K.length; omega
        have HTp : Hid (termAt K (p : Int) = some t) := by
          have hlp := (List.getElem?_eq_some_iff.1 hp2).1
          have hep := (List.getElem?_eq_some_iff.1 hp2).2
          have := termAt_at hlp (by rw [hep]; omega)
          rw [hep, ofKey_key] at this
          exact this
        have HSs : Hid (sameT t t = true) := (sameT_iff t t).2 rfl
        have hK1 : K.length ≤ ks.length + 1 := hla.2
        have hK2 : K.length ≤ 2001 := by omega
        have hK3 : K.flatten.length ≤ 3000 := by omega
        clear hM hf hp1 hp2 hst2 hla hfa hkl hkm hat hag hg hm2 EK1' EI1' hK hf2
        have b0 := HT2.out.c0
        have b1 := HT2.out.c1
        have x0 := HX2.out.c0
        have x1 := HX2.out.c1
        have x2 := HX2.out.c2
        have x3 := HX2.out.c3
        go_wp2_with fail
        refine (put3_any _ _ _ _ _ _ _ _ _ _ _ _ l ks t 5000 _ rfl Hr2.out rfl Hln.out Hk2.out HS2.out rfl He2.out hw Hst.out.dist (fun k hk => by have := HsM.out k hk; omega) (by omega) (by omega) (by omega)).mono ?_
        rintro e w3 ⟨A3, c3, S3, d3, rfl, hk3, hS3, q3, _⟩
        rw [EK1.out] at hk3 hS3 ⊢
        rw [EI1.out, EE1.out]
        have q4 := q3.alloc (Obj.cells #[.slice A3 K.length c3, .slice S3 (layI K).length d3] 27)
        have q34 := (Q.refl w3).alloc (Obj.cells #[.slice A3 K.length c3, .slice S3 (layI K).length d3] 27)
        have HB4 := Lib.hid (BoxT.new w3 (.slice A3 K.length c3) (.slice S3 (layI K).length d3) 27)
        have Hk4 := Lib.hid ((hk3.q (Nat.le_refl _) q34).more q34.size)
        have HS4 := Lib.hid ((hS3.q (Nat.le_refl _) q34).more q34.size)
        have HT4 := Lib.hid (HT2.out.q q4)
        have HX4 := Lib.hid (HX2.out.q q4)
        have Hr4 := Lib.hid ((Hr2.out.q (Nat.le_refl _) q4).more q4.size)
        have Ha4 := Lib.hid ((Hk2.out.q (Nat.le_refl _) q4).more q4.size)
        have Hb4 := Lib.hid ((HS2.out.q (Nat.le_refl _) q4).more q4.size)
        have He4 := Lib.hid ((He2.out.q (Nat.le_refl _) q4).more q4.size)
        clear b0 b1 x0 x1 x2 x3 hk3 hS3 q34 HT2 HX2 Hr2 Hk2 HS2 He2
        have b0 := HT4.out.c0
        have b1 := HT4.out.c1
        have x0 := HX4.out.c0
        have x1 := HX4.out.c1
        have x2 := HX4.out.c2
        have x3 := HX4.out.c3
        have p0 := HB4.out.c0
        have p1 := HB4.out.c1
        go_wp2_with fail
        generalize w3.alloc (Obj.cells #[.slice A3 K.length c3, .slice S3 (layI K).length d3] 27) = W4 at *
        refine (put3_any _ _ _ _ _ _ _ _ _ _ _ _ l K t 0 _ rfl Hr4.out rfl rfl Hk4.out HS4.out rfl He4.out hw HKst.out.dist (fun k hk => by have := HKM.out k hk; omega) (by omega) (by omega) (by omega)).mono ?_
        rintro e w5 ⟨A5, c5, S5, d5, rfl, hk5, hS5, q5, _⟩
        rw [EK2.out] at hk5 hS5 ⊢
        rw [EI2.out, EE2.out]
        have q6 := q5.alloc (Obj.cells #[.slice A5 K.length c5, .slice S5 (layI K).length d5] 27)
        have q56 := (Q.refl w5).alloc (Obj.cells #[.slice A5 K.length c5, .slice S5 (layI K).length d5] 27)
        have HC6 := Lib.hid (BoxT.new w5 (.slice A5 K.length c5) (.slice S5 (layI K).length d5) 27)
        have Hc6 := Lib.hid ((hk5.q (Nat.le_refl _) q56).more q56.size)
        have Hd6 := Lib.hid ((hS5.q (Nat.le_refl _) q56).more q56.size)
        have HT6 := Lib.hid (HT4.out.q q6)
        have HX6 := Lib.hid (HX4.out.q q6)
        have HB6 := Lib.hid (HB4.out.q q6)
        have Hr6 := Lib.hid ((Hr4.out.q (Nat.le_refl _) q6).more q6.size)
        have Ha6 := Lib.hid ((Ha4.out.q (Nat.le_refl _) q6).more q6.size)
        have He6 := Lib.hid ((He4.out.q (Nat.le_refl _) q6).more q6.size)
        have Hk6 := Lib.hid ((Hk4.out.q (Nat.le_refl _) q6).more q6.size)
        have HS6 := Lib.hid ((HS4.out.q (Nat.le_refl _) q6).more q6.size)
        have q26 := q4.trans q6
        clear b0 b1 x0 x1 x2 x3 p0 p1 hk5 hS5 q56 HT4 HX4 Hr4 Ha4 Hb4 He4 Hk4 HS4 HB4
        have p0 := HB6.out.c0
        have p1 := HB6.out.c1
        go_wp2_with fail
        generalize w5.alloc (Obj.cells #[.slice A5 K.length c5, .slice S5 (layI K).length d5] 27) = W6 at *
        refine (of_any _ _ _ _ _ _ K p _ rfl Hk6.out (fun k hk => by have := HKM.out k hk; omega)).mono ?_
        rintro e w7 ⟨A7, n7, c7, rfl, hn7, hA7, q7⟩
        rw [HTp.out] at hn7 hA7 ⊢
        simp only [Option.getD_some, Option.isSome_some] at hn7 hA7 ⊢
        have q8 := q7.alloc (Obj.cells #[.int .i64 t.k, .int .i64 t.s, .int .i64 t.p, .slice A7 n7 c7] 38)
        have q78 := (Q.refl w7).alloc (Obj.cells #[.int .i64 t.k, .int .i64 t.s, .int .i64 t.p, .slice A7 n7 c7] 38)
        have HY8 := Lib.hid (Box4.new w7 (.int .i64 t.k) (.int .i64 t.s) (.int .i64 t.p) (.slice A7 n7 c7) 38)
        have HA8 := Lib.hid ((hA7.q (Nat.le_refl _) q78).more q78.size)
        have Hn7 := Lib.hid hn7
        have HT8 := Lib.hid (HT6.out.q q8)
        have HX8 := Lib.hid (HX6.out.q q8)
        have HB8 := Lib.hid (HB6.out.q q8)
        have HC8 := Lib.hid (HC6.out.q q8)
        have Hr8 := Lib.hid ((Hr6.out.q (Nat.le_refl _) q8).more q8.size)
        have Ha8 := Lib.hid ((Ha6.out.q (Nat.le_refl _) q8).more q8.size)
        have He8 := Lib.hid ((He6.out.q (Nat.le_refl _) q8).more q8.size)
        have Hk8 := Lib.hid ((Hk6.out.q (Nat.le_refl _) q8).more q8.size)
        have HS8 := Lib.hid ((HS6.out.q (Nat.le_refl _) q8).more q8.size)
        have Hc8 := Lib.hid ((Hc6.out.q (Nat.le_refl _) q8).more q8.size)
        have Hd8 := Lib.hid ((Hd6.out.q (Nat.le_refl _) q8).more q8.size)
        have q28 := q26.trans q8
        clear p0 p1 hn7 hA7 q78 HT6 HX6 HB6 HC6 Hr6 Ha6 He6 Hk6 HS6 Hc6 Hd6 q26 q6 q5 q4
        have p0 := HB8.out.c0
        have p1 := HB8.out.c1
        go_wp2_with fail
        generalize w7.alloc (Obj.cells #[.int .i64 t.k, .int .i64 t.s, .int .i64 t.p, .slice A7 n7 c7] 38) = W8 at *
        refine (refRight3_any _ _ _ _ _ _ _ _ _ l K (layI K) _ rfl Hr8.out rfl rfl Hk8.out HS8.out (fun k hk => by have := HKM.out k hk; unfold maxLen; omega) (by omega) (by have := HKz.out; unfold maxLen; omega)).mono ?_
        rintro e w9 ⟨rfl, q9⟩
        rw [HKb.out]
        clear p0 p1
        have y0 := (HY8.out.q q9).c0
        have y1 := (HY8.out.q q9).c1
        have y2 := (HY8.out.q q9).c2
        have y3 := (HY8.out.q q9).c3
        have x0 := (HX8.out.q q9).c0
        have x1 := (HX8.out.q q9).c1
        have x2 := (HX8.out.q q9).c2
        have x3 := (HX8.out.q q9).c3
        go_wp2_with fail
        refine (Tm.refSame_any _ _ _ _ _ _ t t _ Hn7.out rfl ((HA8.out.q (Nat.le_refl _) q9).more q9.size) ((He8.out.q (Nat.le_refl _) q9).more q9.size) (by unfold maxLen; omega)).mono ?_
        rintro e wa ⟨rfl, qa⟩
        rw [HSs.out]
        have q9a := q9.trans qa
        clear x0 x1 x2 x3 y0 y1 y2 y3
        have p0 := (HB8.out.q q9a).c0
        have p1 := (HB8.out.q q9a).c1
        have r0 := (HC8.out.q q9a).c0
        have r1 := (HC8.out.q q9a).c1
        go_wp2_with fail
        refine (Hs.refSame_any _ _ _ _ _ _ _ _ _ _ _ _ K K (layI K) (layI K) _ rfl rfl rfl rfl ((Hk8.out.q (Nat.le_refl _) q9a).more q9a.size) ((HS8.out.q (Nat.le_refl _) q9a).more q9a.size) ((Hc8.out.q (Nat.le_refl _) q9a).more q9a.size) ((Hd8.out.q (Nat.le_refl _) q9a).more q9a.size) (by unfold maxLen; omega) (fun k hk => by have := HKM.out k hk; unfold maxLen; omega) (by have := HKz.out; unfold maxLen; omega)).mono ?_
        rintro e wb ⟨rfl, qb⟩
        rw [tab_refl]
        have q9b := q9a.trans qb
        have HTb := Lib.hid (HT8.out.q q9b)
        have HBb := Lib.hid (HB8.out.q q9b)
        have Hab := Lib.hid ((Ha8.out.q (Nat.le_refl _) q9b).more q9b.size)
        have Hkb := Lib.hid ((Hk8.out.q (Nat.le_refl _) q9b).more q9b.size)
        have q2b := (q02.trans q28).trans q9b
        clear p0 p1 r0 r1 HT8 HB8 Ha8 Hk8 HX8 HC8 Hr8 He8 HS8 Hc8 Hd8 HY8 HA8
        have b0 := HTb.out.c0
        go_wp2_with fail
        go_loopw [16, 17, 18, 19, 20] (fun i _ _ _ _ wr => ∃ k : Nat, k ≤ ks.length ∧ i = .int .i64 k ∧ Q wb wr) (fun i _ _ _ _ _ => ks.length - (intOf i).toNat)
        case atStart => exact ⟨0, Nat.zero_le _, rfl, Q.refl _⟩
        case round =>
          obtain ⟨k, hkl, rfl, qr⟩ := hrel
          clear b0
          have b0 := (HTb.out.q qr).c0
          have b1 := (HTb.out.q qr).c1
          by_cases hlt : k < ks.length
          · obtain ⟨h3, _, _⟩ := keyOk_parts (Hst.out.ok k _ (List.getElem?_eq_getElem hlt))
            have HTk := Lib.hid (termAt_at hlt h3)
            have HTK : Hid (termAt K (k : Int) = some (ofKey ks[k])) := by
              have hg := HKg.out k _ (List.getElem?_eq_getElem hlt)
              have hlk := (List.getElem?_eq_some_iff.1 hg).1
              have he := (List.getElem?_eq_some_iff.1 hg).2
              have := termAt_at hlk (by rw [he]; exact h3)
              rw [he] at this
              exact this
            obtain ⟨u, hu⟩ : ∃ u, ofKey ks[k] = u := ⟨_, rfl⟩
            have Hul : Hid (u.xs.length ≤ 2000) := by unfold Hid; rw [← hu]; have := HsM.out _ (List.getElem_mem hlt); simp [ofKey]; omega
            rw [hu] at HTk HTK
            have HSu : Hid (sameT u u = true) := (sameT_iff u u).2 rfl
            clear h3 hu
            go_wp2_with fail
            refine (of_any _ _ _ _ _ _ ks k _ rfl ((Hab.out.q (Nat.le_refl _) qr).more qr.size) (fun k hk => by have := HsM.out k hk; omega)).mono ?_
            rintro e wc ⟨Ac, nc, cc, rfl, hnc, hAc, qc⟩
            rw [HTk.out] at hnc hAc ⊢
            simp only [Option.getD_some, Option.isSome_some] at hnc hAc ⊢
            have qd := qc.alloc (Obj.cells #[.int .i64 u.k, .int .i64 u.s, .int .i64 u.p, .slice Ac nc cc] 38)
            have qcd := (Q.refl wc).alloc (Obj.cells #[.int .i64 u.k, .int .i64 u.s, .int .i64 u.p, .slice Ac nc cc] 38)
            have HYd := Lib.hid (Box4.new wc (.int .i64 u.k) (.int .i64 u.s) (.int .i64 u.p) (.slice Ac nc cc) 38)
            have HAd := Lib.hid ((hAc.q (Nat.le_refl _) qcd).more qcd.size)
            have Hnc := Lib.hid hnc
            have qrd := qr.trans qd
            clear b0 b1 hnc hAc qcd
            have p0 := (HBb.out.q qrd).c0
            have p1 := (HBb.out.q qrd).c1
            go_wp2_with fail
            generalize wc.alloc (Obj.cells #[.int .i64 u.k, .int .i64 u.s, .int .i64 u.p, .slice Ac nc cc] 38) = Wd at *
            refine (of_any _ _ _ _ _ _ K k _ rfl ((Hkb.out.q (Nat.le_refl _) qrd).more qrd.size) (fun k hk => by have := HKM.out k hk; omega)).mono ?_
            rintro e we ⟨Ae, ne', ce', rfl, hne', hAe, qe⟩
            rw [HTK.out] at hne' hAe ⊢
            simp only [Option.getD_some, Option.isSome_some] at hne' hAe ⊢
            have qf := qe.alloc (Obj.cells #[.int .i64 u.k, .int .i64 u.s, .int .i64 u.p, .slice Ae ne' ce'] 38)
            have qef := (Q.refl we).alloc (Obj.cells #[.int .i64 u.k, .int .i64 u.s, .int .i64 u.p, .slice Ae ne' ce'] 38)
            have HZf := Lib.hid (Box4.new we (.int .i64 u.k) (.int .i64 u.s) (.int .i64 u.p) (.slice Ae ne' ce') 38)
            have HAf := Lib.hid ((hAe.q (Nat.le_refl _) qef).more qef.size)
            have Hne' := Lib.hid hne'
            have HYf := Lib.hid (HYd.out.q qf)
            have HAdf := Lib.hid ((HAd.out.q (Nat.le_refl _) qf).more qf.size)
            have qrf := qrd.trans qf
            clear p0 p1 hne' hAe qef
            have y0 := HYf.out.c0
            have y1 := HYf.out.c1
            have y2 := HYf.out.c2
            have y3 := HYf.out.c3
            have z0 := HZf.out.c0
            have z1 := HZf.out.c1
            have z2 := HZf.out.c2
            have z3 := HZf.out.c3
            go_wp2_with fail
            generalize we.alloc (Obj.cells #[.int .i64 u.k, .int .i64 u.s, .int .i64 u.p, .slice Ae ne' ce'] 38) = Wf at *
            refine (Tm.refSame_any _ _ _ _ _ _ u u _ Hnc.out Hne'.out HAdf.out HAf.out (by have := Hul.out; unfold maxLen; omega)).mono ?_
            rintro e wg ⟨rfl, qg⟩
            rw [HSu.out]
            clear y0 y1 y2 y3 z0 z1 z2 z3
            go_wp2_with fail
            go_roundw
            case rel => exact ⟨k + 1, by omega, by go_num, qrf.trans qg⟩
            case measure => simp [intOf]; omega
          · have p0 := (HBb.out.q qr).c0
            have hle : decide ((K.length : Int) ≤ (ks.length : Int) + 1) = true := decide_eq_true (by omega)
            go_wp2_with fail
            go_ret
            exact ⟨rfl, q2b.trans qr⟩

set_option maxRecDepth 100000 in
theorem lifted (os : Os) (started : os.Started) (H : Type) (enc : TypeId × Value → H) :
    ReturnsInHanded {} Try.checked os 5 .any (Rows.termStaysSpec.pre6 enc Try.prog Try.f5 Rows.termStaysRow.domain false) (Rows.termStaysSpec.post enc Try.prog Try.f5 false true false false) := by
  refine returnsInHanded_of_change_sized (C := Try.checked) own started (by kernel_rfl) Try.func5
    (ChangeSpec.witness6 (enc := enc) (C := Try.checked) false ⟨#[], #[.slice none 0 0, .agg #[.slice none 0 0, .slice none 0 0], .agg #[.int .i64 0, .int .i64 0, .int .i64 0, .slice none 0 0]], []⟩ 8 (by kernel_rfl) (by kernel_rfl) (by kernel_rfl) (by kernel_rfl)) ?_
  intro W base args ds gs before hval0 hW hcnd hsz0 _
  have hval : ∀ (j : Nat) t v, Try.f5.params[j]? = some t → args[j]? = some v → Value.okWide Try.prog W .any base t v := hval0
  have hW' := hW
  obtain ⟨p, q, hA0, hV, rfl, hfz, hnd⟩ := hW
  have hA : DataW.TrodAll enc Try.prog W 0 (fun _ => true) true Try.f5.params.toList args.toList ds p := hA0
  rw [Try.params5] at hA hval
  obtain ⟨v0, vs0, d0, ds0, p0, q0, hargs, rfl, rfl, h0, r0⟩ := trodAll_cons hA
  obtain ⟨v1, vs1, d1, ds1, p1, q1, rfl, rfl, rfl, h1, r1⟩ := trodAll_cons r0
  obtain ⟨v2, vs2, d2, ds2, p2, q2, rfl, rfl, rfl, h2, r2⟩ := trodAll_cons r1
  obtain ⟨rfl, rfl, rfl⟩ := trodAll_nil r2
  obtain rfl : args = #[v0, v1, v2] := by cases args; simp_all
  obtain ⟨rfl, rfl⟩ := trodVars_none hV
  have z0 : ∀ n ∈ d0.weights Try.prog 36, n ≤ reachBytes := fun n hn => by
    have := List.all_eq_true.1 hsz0 n (DataW.weights_mem_each (j := 0) (t := 36) (d := d0) (by rw [Try.params5]; rfl) rfl n hn)
    simpa using this
  have z1 : ∀ n ∈ d1.weights Try.prog 27, n ≤ reachBytes := fun n hn => by
    have := List.all_eq_true.1 hsz0 n (DataW.weights_mem_each (j := 1) (t := 27) (d := d1) (by rw [Try.params5]; rfl) rfl n hn)
    simpa using this
  have z2 : ∀ n ∈ d2.weights Try.prog 38, n ≤ reachBytes := fun n hn => by
    have := List.all_eq_true.1 hsz0 n (DataW.weights_mem_each (j := 2) (t := 38) (d := d2) (by rw [Try.params5]; rfl) rfl n hn)
    simpa using this
  obtain ⟨L, nl, cl, l, rfl, hnl, hr, hll, hsz, _⟩ := Sg.open_sigs (hval 0 36 v0 rfl rfl) h0
  obtain ⟨A, n, c, S, m, d, ks, sl, rfl, hn, hm, hk, hS, hl, hs, hsl⟩ := open_table (hval 1 27 v1 rfl rfl) h1 z1
  obtain ⟨t, E, ne, ce, rfl, hne, he, hw, hx⟩ := open_term (hval 2 38 v2 rfl rfl) h2 z2
  clear hA0 hval0
  refine (walk L A S E nl cl n c m d ne ce l ks sl t W hnl hr hll hsz hn hm hk hS hl hs hsl hne he hw hx).mono fun e W' ⟨he, hg⟩ => ?_
  subst he
  exact ⟨_, rfl, post_law laid (by rw [Try.params5]; decide +kernel) rfl rfl (by kernel_rfl) Try.underlying4 hW' hg⟩

/-- THE STATEMENT -/
theorem proved : Rows.TermStaysSaid :=
  OpenClaim.holds_of_wide 5 Try.f5 rfl rfl rfl rfl rfl rfl rfl ⟨rfl, rfl, rfl, rfl, rfl⟩ rfl rfl rfl rfl rfl (by kernel_rfl) Try.func5 (by kernel_rfl)
    (of_decide_eq_true (by kernel_rfl)) (by unfold Func.isWrapper; first | (rw [if_pos (by decide +kernel)]; kernel_rfl) | (rw [if_neg (by decide +kernel)]; exact ⟨rfl, rfl⟩))
    (fun os started H enc _ => lifted os started H enc)
end Go.Proofs.Ytdedlkeeifgajaa.termStays
