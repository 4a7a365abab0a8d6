/-
  TermPuts: a store with a term, and of what a term is made, are as the document says. Proved for every argument: no condition.
-/
import Derived.Test.YtgnbempkobgeiaaTermOpen
import Derived.Test.YtgnbempkobgeiaaRows
import Derived.Test.YtgnbempkobgeiaaTermPw
import Derived.Test.YtgnbempkobgeiaaTermPt
namespace Go.Proofs.Ytgnbempkobgeiaa.termPuts
open Go.ChangeShapes Go.WideShapes Go.RowKit Kit Go.Deep Go.Joins Hs Tm

theorem tab_refl (ks : List (List Int)) (sl : List Int) : tabB ks sl ks sl = true := by
  unfold tabB
  rw [(rowsB_iff ks ks).2 rfl, (eqL_iff sl sl).2 rfl]
  rfl
theorem put3_small {l : List Sg.Sig} {ks : List (List Int)} {t : Tm} {limit : Int} (h : ks.length ≤ 2000) (hs : ∀ k ∈ ks, k.length ≤ 2000) (hx : t.xs.length ≤ 100) : (put3L l ks t limit).length ≤ 3000 ∧ (∀ k ∈ put3L l ks t limit, k.length ≤ 3000) ∧ (layI (put3L l ks t limit)).length ≤ 100000 := by
  have hp : ∀ K : List (List Int), K.length ≤ 3000 → (layI K).length ≤ 100000 := fun K hK => by rw [layI_length]; have := sizeN_le K.length; omega
  have h0 : ks.length ≤ 3000 ∧ (∀ k ∈ ks, k.length ≤ 3000) ∧ (layI ks).length ≤ 100000 := ⟨by omega, fun k hk => by have := hs k hk; omega, hp ks (by omega)⟩
  unfold put3L
  split
  · split
    · exact h0
    · unfold putL
      split
      · have hl : (ks ++ [t.key]).length ≤ 3000 := by simp; omega
        refine ⟨hl, fun k hk => ?_, hp _ hl⟩
        rw [List.mem_append, List.mem_singleton] at hk
        rcases hk with h | rfl
        · have := hs k h; omega
        · rw [key_len]; omega
      · exact h0
  · exact h0
theorem below_small (ks : List (List Int)) (id : Int) (h : ks.length ≤ 2000) : (belowI ks id).length ≤ 100000 := by
  unfold belowI
  cases hp : isPl id ks.length
  · simp
  · have h1 := ((isPl_iff _ _).1 hp).2
    have h0 := ((isPl_iff _ _).1 hp).1
    obtain ⟨f, _, e⟩ := below_is ks id.toNat
    have := List.length_filter_le f (List.range (id.toNat + 1))
    rw [List.length_range] at this
    simp only [if_true, e, castL, List.length_map]
    omega

set_option maxRecDepth 100000 in
set_option maxHeartbeats 4000000 in
theorem walk (L A S E : Option Addr) (nl cl n c m d ne ce : Nat) (l : List Sg.Sig) (ks : List (List Int)) (sl : List Int) (t : Tm) (limit id : Int) (w : World) (hnl : nl = l.length) (hr : Sg.Row w w.heap.size L l) (hll : l.length ≤ maxLen) (hsz : Sg.Sized l) (hn : n = ks.length) (hm : m = sl.length) (hk : Keys w w.heap.size A ks) (hS : Ints w w.heap.size S sl)
    (hl : ks.length ≤ 1152921504606846976) (hs : ∀ k ∈ ks, k.length ≤ 1152921504606846976) (hsl : sl.length ≤ 1152921504606846976) (hne : ne = t.xs.length) (he : Ints w w.heap.size E t.xs) (hw : Wf t.k) (hx : t.xs.length ≤ 1152921504606846976) :
    Calls Try.prog 3 #[.agg #[.slice L nl cl, .slice A n c, .slice S m d, .int .i64 t.k, .int .i64 t.s, .int .i64 t.p, .slice E ne ce, .int .i64 limit, .int .i64 id]] w fun e w' => e = .returned (.bool true) ∧ Q w w' := by
  subst hnl
  subst hn
  subst hm
  subst hne
  have q0 := (((Q.refl w).alloc (Obj.cells #[.slice L l.length cl, .slice A ks.length c, .slice S sl.length d, .int .i64 t.k, .int .i64 t.s, .int .i64 t.p, .slice E t.xs.length ce, .int .i64 limit, .int .i64 id] 30)).alloc (Obj.cells #[Value.slice A ks.length c, Value.slice S sl.length d] 26)).alloc (Obj.cells #[.int .i64 t.k, .int .i64 t.s, .int .i64 t.p, .slice E t.xs.length ce] 28)
  have Hr := Lib.hid ((hr.q (Nat.le_refl _) q0).more q0.size)
  have Hk := Lib.hid ((hk.q (Nat.le_refl _) q0).more q0.size)
  have HS := Lib.hid ((hS.q (Nat.le_refl _) q0).more q0.size)
  have He := Lib.hid ((he.q (Nat.le_refl _) q0).more q0.size)
  have T := (BoxT.new (w.alloc (Obj.cells #[.slice L l.length cl, .slice A ks.length c, .slice S sl.length d, .int .i64 t.k, .int .i64 t.s, .int .i64 t.p, .slice E t.xs.length ce, .int .i64 limit, .int .i64 id] 30)) (Value.slice A ks.length c) (Value.slice S sl.length d) 26).q ((Q.refl _).alloc (Obj.cells #[.int .i64 t.k, .int .i64 t.s, .int .i64 t.p, .slice E t.xs.length ce] 28))
  have X := Box4.new ((w.alloc (Obj.cells #[.slice L l.length cl, .slice A ks.length c, .slice S sl.length d, .int .i64 t.k, .int .i64 t.s, .int .i64 t.p, .slice E t.xs.length ce, .int .i64 limit, .int .i64 id] 30)).alloc (Obj.cells #[Value.slice A ks.length c, Value.slice S sl.length d] 26)) (.int .i64 t.k) (.int .i64 t.s) (.int .i64 t.p) (.slice E t.xs.length ce) 28
  simp only [World.size_alloc] at X T
  have HT := Lib.hid T
  have HX := Lib.hid X
  have Hsb := Lib.hid hs
  clear hr hk hS he X T hs
  go_enter Try.func3, Try.ntmps3
  go_upto_region 6 with fail
  generalize ((w.alloc (Obj.cells #[.slice L l.length cl, .slice A ks.length c, .slice S sl.length d, .int .i64 t.k, .int .i64 t.s, .int .i64 t.p, .slice E t.xs.length ce, .int .i64 limit, .int .i64 id] 30)).alloc (Obj.cells #[Value.slice A ks.length c, Value.slice S sl.length d] 26)).alloc (Obj.cells #[.int .i64 t.k, .int .i64 t.s, .int .i64 t.p, .slice E t.xs.length ce] 28) = W0 at *
  go_wp2_with fail
  refine (shown3_any _).mono ?_
  rintro e w1 ⟨rfl, q1⟩
  have HT1 := Lib.hid (HT.out.q q1)
  have b0 := HT1.out.c0
  have b1 := HT1.out.c1
  go_wp2_with fail
  refine (of3_any _ _ _ _ _ _ _ _ _ l ks sl _ rfl ((Hr.out.q (Nat.le_refl _) q1).more q1.size) rfl rfl ((Hk.out.q (Nat.le_refl _) q1).more q1.size) ((HS.out.q (Nat.le_refl _) q1).more q1.size) hll hsz hl Hsb.out hsl).mono ?_
  rintro e w2 ⟨rfl, q2⟩
  have q12 := q1.trans q2
  have q02 := q0.trans q12
  clear b0 b1
  cases hof : ofB l ks sl
  · go_wp2_with fail
    go_ret
    exact ⟨rfl, q02⟩
  · have x3 := (HX.out.q q12).c3
    by_cases h100 : 100 < t.xs.length
    · have d100 : decide (100 < (t.xs.length : Int)) = true := decide_eq_true (by omega)
      go_wp2_with fail
      go_ret
      exact ⟨rfl, q02⟩
    · have d100 : decide (100 < (t.xs.length : Int)) = false := decide_eq_false (by omega)
      have hof' := hof
      unfold ofB at hof'
      simp only [Bool.and_eq_true, decide_eq_true_eq] at hof'
      obtain ⟨⟨⟨h64, _⟩, hfew⟩, hst0⟩ := hof'
      obtain ⟨hst, hsle⟩ := (store_iff l ks sl).1 hst0
      have hsum := few_sum hfew
      have Hst := Lib.hid hst
      have HsM : Hid (∀ k ∈ ks, k.length ≤ 2000) := fun k hk => by have := mem_len hk; omega
      have hks : ks.length ≤ 2000 := by omega
      have hfl : ks.flatten.length ≤ 2000 := by omega
      have hx1 : t.xs.length ≤ 100 := by omega
      have Hsl := Lib.hid hsle.symm
      have HT2 := Lib.hid (HT.out.q q12)
      have HX2 := Lib.hid (HX.out.q q12)
      have Hr2 := Lib.hid ((Hr.out.q (Nat.le_refl _) q12).more q12.size)
      have Hk2 := Lib.hid ((Hk.out.q (Nat.le_refl _) q12).more q12.size)
      have HS2 : Hid (Ints w2 w2.heap.size S (layI ks)) := by have := (HS.out.q (Nat.le_refl _) q12).more q12.size; rw [hsle] at this; exact this
      have He2 := Lib.hid ((He.out.q (Nat.le_refl _) q12).more q12.size)
      have Hln : Hid (sl.length = (layI ks).length) := by unfold Hid; rw [hsle]
      have Hlz : Hid ((layI ks).length ≤ 20000) := by unfold Hid; rw [layI_length]; have := sizeN_le ks.length; omega
      clear hof hfew hst0 hst hsle hsum x3 HT HX Hr Hk HS He HT1 q0 q1 q2 q12 h100 hll hsz hl hsl hx Hsb
      have b0 := HT2.out.c0
      have b1 := HT2.out.c1
      have x0 := HX2.out.c0
      have x1 := HX2.out.c1
      have x2 := HX2.out.c2
      have x3 := HX2.out.c3
      go_wp2_with fail
      refine (put3_any _ _ _ _ _ _ _ _ _ _ _ _ l ks t limit _ rfl Hr2.out rfl Hln.out Hk2.out HS2.out rfl He2.out hw Hst.out.dist (fun k hk => by have := HsM.out k hk; omega) (by omega) (by omega) (by omega)).mono ?_
      rintro e w3 ⟨A3, c3, S3, d3, rfl, hk3, hS3, q3, _⟩
      obtain ⟨PL, hPL⟩ : ∃ PL, put3L l ks t limit = PL := ⟨_, rfl⟩
      obtain ⟨PI, hPI⟩ : ∃ PI, put3I l ks t limit = PI := ⟨_, rfl⟩
      obtain ⟨PE, hPE⟩ : ∃ PE, put3E l ks t limit = PE := ⟨_, rfl⟩
      rw [hPL] at hk3 hS3 ⊢
      rw [hPI, hPE]
      have HPL := Lib.hid hPL
      have HPI := Lib.hid hPI
      have HPE := Lib.hid hPE
      clear hPL hPI hPE
      have q34 := (Q.refl w3).alloc (Obj.cells #[.slice A3 PL.length c3, .slice S3 (layI PL).length d3] 26)
      have q4 := q3.trans q34
      have HB4 := Lib.hid (BoxT.new w3 (.slice A3 PL.length c3) (.slice S3 (layI PL).length d3) 26)
      have Hk4 := Lib.hid ((hk3.q (Nat.le_refl _) q34).more q34.size)
      have HS4 := Lib.hid ((hS3.q (Nat.le_refl _) q34).more q34.size)
      have HT4 := Lib.hid (HT2.out.q q4)
      have HX4 := Lib.hid (HX2.out.q q4)
      have Hr4 := Lib.hid ((Hr2.out.q (Nat.le_refl _) q4).more q4.size)
      have Ha4 := Lib.hid ((Hk2.out.q (Nat.le_refl _) q4).more q4.size)
      have Hb4 := Lib.hid ((HS2.out.q (Nat.le_refl _) q4).more q4.size)
      have He4 := Lib.hid ((He2.out.q (Nat.le_refl _) q4).more q4.size)
      clear b0 b1 x0 x1 x2 x3 hk3 hS3 q34 HT2 HX2 Hr2 Hk2 HS2 He2
      have b0 := HT4.out.c0
      have b1 := HT4.out.c1
      have x0 := HX4.out.c0
      have x1 := HX4.out.c1
      have x2 := HX4.out.c2
      have x3 := HX4.out.c3
      go_wp2_with fail
      generalize w3.alloc (Obj.cells #[.slice A3 PL.length c3, .slice S3 (layI PL).length d3] 26) = W4 at *
      generalize w3.heap.size = B4 at *
      refine (refPut3_any _ _ _ _ _ _ _ _ _ _ _ _ l ks t limit _ rfl Hr4.out rfl Hln.out Ha4.out Hb4.out rfl He4.out (fun k hk => by have := HsM.out k hk; omega) (by omega) (by omega)).mono ?_
      rintro e w5 ⟨A5, c5, S5, d5, rfl, hk5, hS5, q5⟩
      rw [HPL.out] at hk5 hS5 ⊢
      rw [HPI.out, HPE.out]
      have q56 := (Q.refl w5).alloc (Obj.cells #[.slice A5 PL.length c5, .slice S5 (layI PL).length d5] 26)
      have q6 := q5.trans q56
      have HC6 := Lib.hid (BoxT.new w5 (.slice A5 PL.length c5) (.slice S5 (layI PL).length d5) 26)
      have Hc6 := Lib.hid ((hk5.q (Nat.le_refl _) q56).more q56.size)
      have Hd6 := Lib.hid ((hS5.q (Nat.le_refl _) q56).more q56.size)
      have HT6 := Lib.hid (HT4.out.q q6)
      have HB6 := Lib.hid (HB4.out.q q6)
      have Ha6 := Lib.hid ((Ha4.out.q (Nat.le_refl _) q6).more q6.size)
      have Hk6 := Lib.hid ((Hk4.out.q (Nat.le_refl _) q6).more q6.size)
      have HS6 := Lib.hid ((HS4.out.q (Nat.le_refl _) q6).more q6.size)
      have q26 := (q02.trans q4).trans q6
      clear b0 b1 x0 x1 x2 x3 hk5 hS5 q56 HT4 HX4 Hr4 Ha4 Hb4 He4 Hk4 HS4 HB4
      go_upto_region 11 with fail
      generalize w5.alloc (Obj.cells #[.slice A5 PL.length c5, .slice S5 (layI PL).length d5] 26) = W6 at *
      generalize w5.heap.size = B6 at *
      have HK : Hid (∀ w', Q W6 w' → w'.cell? ⟨w.heap.size + 1, 0, none⟩ = some (.slice A ks.length c) ∧ w'.cell? ⟨w.heap.size + 1, 1, none⟩ = some (.slice S sl.length d) ∧ w'.cell? ⟨B4, 0, none⟩ = some (.slice A3 PL.length c3) ∧ w'.cell? ⟨B4, 1, none⟩ = some (.slice S3 (layI PL).length d3) ∧ w'.cell? ⟨B6, 0, none⟩ = some (.slice A5 PL.length c5) ∧ w'.cell? ⟨B6, 1, none⟩ = some (.slice S5 (layI PL).length d5)) :=
        fun w' q => ⟨(HT6.out.q q).c0, (HT6.out.q q).c1, (HB6.out.q q).c0, (HB6.out.q q).c1, (HC6.out.q q).c0, (HC6.out.q q).c1⟩
      have b0 := HT6.out.c0
      have b1 := HT6.out.c1
      have p0 := HB6.out.c0
      have p1 := HB6.out.c1
      have u0 := HC6.out.c0
      have u1 := HC6.out.c1
      have HPll : Hid (PL.length ≤ 3000 ∧ (∀ k ∈ PL, k.length ≤ 3000) ∧ (layI PL).length ≤ 100000) := by rw [← HPL.out]; exact put3_small (by omega) HsM.out (by omega)
      have Hbl : Hid ((belowI ks id).length ≤ 100000) := below_small ks id (by omega)
      go_region_held3 (fun w' => w'.cell? ⟨w.heap.size + 1, 0, none⟩ = some (.slice A ks.length c) ∧ w'.cell? ⟨w.heap.size + 1, 1, none⟩ = some (.slice S sl.length d) ∧ w'.cell? ⟨B4, 0, none⟩ = some (.slice A3 PL.length c3) ∧ w'.cell? ⟨B4, 1, none⟩ = some (.slice S3 (layI PL).length d3) ∧ w'.cell? ⟨B6, 0, none⟩ = some (.slice A5 PL.length c5) ∧ w'.cell? ⟨B6, 1, none⟩ = some (.slice S5 (layI PL).length d5))
        (first
          | go_keep
          | exact HK.out _ r4
          | exact HK.out _ r3
          | exact HK.out _ r2
          | exact HK.out _ r1
          | exact HK.out _ (Q.refl W6))
        (first
          | (go_at_call 13; refine (Hs.refSame_any _ _ _ _ _ _ _ _ _ _ _ _ PL PL (layI PL) (layI PL) _ rfl rfl rfl rfl (by exact Hk6.out) (by exact HS6.out) (by exact Hc6.out) (by exact Hd6.out) (by have := HPll.out.1; unfold maxLen; omega) (fun k hk => by have := HPll.out.2.1 k hk; unfold maxLen; omega) (by have := HPll.out.2.2; unfold maxLen; omega)).mono ?_; rintro e y1 ⟨rfl, s1⟩; rw [tab_refl]; have r1 : Q W6 y1 := (Q.refl W6).drew.trans s1; clear s1)
          | (go_at_call 15; refine (below_any _ _ _ _ _ _ ks id _ rfl ((Ha6.out.q (Nat.le_refl _) r1).more r1.size) (by omega) (fun k hk => by have := HsM.out k hk; omega)).mono ?_; rintro e y2 ⟨A7, c7, rfl, hI7, s2⟩; have HI7 := Lib.hid hI7; clear hI7; have r2 : Q W6 y2 := r1.trans s2; have S2 := Lib.hid s2; clear s2)
          | (go_at_call 16; refine (refBelow_any _ _ _ _ _ _ l ks id _ rfl ((Ha6.out.q (Nat.le_refl _) r2).more r2.size) Hst.out (by omega) (fun k hk => by have := HsM.out k hk; omega)).mono ?_; rintro e y3 ⟨A8, c8, rfl, hI8, s3⟩; have HI8 := Lib.hid hI8; clear hI8; have r3 : Q W6 y3 := r2.trans s3; have S3' := Lib.hid s3; clear s3)
          | (go_at_call 14; refine (refInts_any _ _ _ _ _ _ (belowI ks id) (belowI ks id) _ rfl rfl ((HI7.out.q (Nat.le_refl _) S3'.out).more S3'.out.size) HI8.out (by have := Hbl.out; unfold maxLen; omega)).mono ?_; rintro e y4 ⟨rfl, hd4⟩; rw [(eqL_iff (belowI ks id) (belowI ks id)).2 rfl]; have r4 : Q W6 y4 := r3.trans (Q.of_drewN hd4); clear hd4))
      all_goals
        go_wp2_with fail
        go_ret
        exact ⟨rfl, q26.trans r4⟩

set_option maxRecDepth 100000 in
theorem lifted (os : Os) (started : os.Started) (H : Type) (enc : TypeId × Value → H) :
    ReturnsInHanded {} Try.checked os 3 .any (Rows.termPutsSpec.pre6 enc Try.prog Try.f3 Rows.termPutsRow.domain false) (Rows.termPutsSpec.post enc Try.prog Try.f3 false true false false) := by
  refine returnsInHanded_of_change_sized (C := Try.checked) own started (by kernel_rfl) Try.func3
    (ChangeSpec.witness6 (enc := enc) (C := Try.checked) false ⟨#[], #[.agg #[.slice none 0 0, .slice none 0 0, .slice none 0 0, .int .i64 0, .int .i64 0, .int .i64 0, .slice none 0 0, .int .i64 0, .int .i64 0]], []⟩ 8 (by kernel_rfl) (by kernel_rfl) (by kernel_rfl) (by kernel_rfl)) ?_
  intro W base args ds gs before hval0 hW hcnd hsz0 _
  have hval : ∀ (j : Nat) t v, Try.f3.params[j]? = some t → args[j]? = some v → Value.okWide Try.prog W .any base t v := hval0
  have hW' := hW
  obtain ⟨p, q, hA0, hV, rfl, hfz, hnd⟩ := hW
  have hA : DataW.TrodAll enc Try.prog W 0 (fun _ => true) true Try.f3.params.toList args.toList ds p := hA0
  rw [Try.params3] at hA hval
  obtain ⟨v0, vs0, d0, ds0, p0, q0, hargs, rfl, rfl, h0, r0⟩ := trodAll_cons hA
  obtain ⟨rfl, rfl, rfl⟩ := trodAll_nil r0
  obtain rfl : args = #[v0] := by cases args; simp_all
  obtain ⟨rfl, rfl⟩ := trodVars_none hV
  have z0 : ∀ n ∈ d0.weights Try.prog 30, n ≤ reachBytes := fun n hn => by
    have := List.all_eq_true.1 hsz0 n (DataW.weights_mem_each (j := 0) (t := 30) (d := d0) (by rw [Try.params3]; rfl) rfl n hn)
    simpa using this
  obtain ⟨L, nl, cl, l, A, n, c, S, m, d, ks, sl, E, ne, ce, limit, id, t, rfl, hnl, hr, hll, hsz, hn, hm, hk, hS, hl, hs, hsl, hne, he, hw, hx⟩ := open_puts (hval 0 30 v0 rfl rfl) h0 z0
  clear hA0 hval0
  refine (walk L A S E nl cl n c m d ne ce l ks sl t limit id W hnl hr hll hsz hn hm hk hS hl hs hsl hne he hw hx).mono fun e W' ⟨he, hg⟩ => ?_
  subst he
  exact ⟨_, rfl, post_law laid (by rw [Try.params3]; decide +kernel) rfl rfl (by kernel_rfl) Try.underlying4 hW' hg⟩

/-- THE STATEMENT -/
theorem proved : Rows.TermPutsSaid :=
  OpenClaim.holds_of_wide 3 Try.f3 rfl rfl rfl rfl rfl rfl rfl ⟨rfl, rfl, rfl, rfl, rfl⟩ rfl rfl rfl rfl rfl (by kernel_rfl) Try.func3 (by kernel_rfl)
    (of_decide_eq_true (by kernel_rfl)) (by unfold Func.isWrapper; first | (rw [if_pos (by decide +kernel)]; kernel_rfl) | (rw [if_neg (by decide +kernel)]; exact ⟨rfl, rfl⟩))
    (fun os started H enc _ => lifted os started H enc)
end Go.Proofs.Ytgnbempkobgeiaa.termPuts
