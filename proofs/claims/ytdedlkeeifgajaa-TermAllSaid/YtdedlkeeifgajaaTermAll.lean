/-
  TermAll: each place of a store has a term, which is kept there; no other place has. Proved for every row, table and number: no condition.
-/
import Derived.Test.YtdedlkeeifgajaaTermOpen
import Derived.Test.YtdedlkeeifgajaaRows
import Derived.Test.YtdedlkeeifgajaaTermBl
namespace Go.Proofs.Ytdedlkeeifgajaa.termAll
open Go.ChangeShapes Go.WideShapes Go.RowKit Kit Go.Deep Go.Joins Hs Tm

theorem tab_refl (ks : List (List Int)) (sl : List Int) : tabB ks sl ks sl = true := by
  unfold tabB
  rw [(rowsB_iff ks ks).2 rfl, (eqL_iff sl sl).2 rfl]
  rfl
theorem may_mono {l : List Sg.Sig} {n m : Nat} {t : Tm} (h : mayB l n t = true) (hle : n ≤ m) : mayB l m t = true := by
  unfold mayB at h ⊢
  simp only [Bool.and_eq_true] at h ⊢
  refine ⟨h.1, ?_⟩
  have h2 := h.2
  unfold allPl at h2 ⊢
  rw [List.all_eq_true] at h2 ⊢
  intro x hx
  have := (isPl_iff _ _).1 (h2 x hx)
  exact (isPl_iff _ _).2 (by omega)
/-- how many a term is made of, at least -/
theorem below_len {l : List Sg.Sig} {ks : List (List Int)} (hst : Store l ks) {i : Nat} (hi : i < ks.length) : 1 ≤ (belowL ks i).length ∧ (0 < (ofKey ks[i]).xs.length → 2 ≤ (belowL ks i).length) := by
  obtain ⟨h3, hM, _⟩ := keyOk_parts (hst.ok i _ (List.getElem?_eq_getElem hi))
  have hb := below_is ks i
  have hs := (hb.mem (i : Int)).2 ⟨i, .self, rfl⟩
  refine ⟨List.length_pos_of_mem hs, fun h0 => ?_⟩
  have ha : argsOf ks i = (ofKey ks[i]).xs := by unfold argsOf; rw [termAt_at hi h3]; rfl
  obtain ⟨x, r, hx⟩ : ∃ x r, (ofKey ks[i]).xs = x :: r := by
    cases h : (ofKey ks[i]).xs with
    | nil => rw [h] at h0; simp at h0
    | cons x r => exact ⟨x, r, rfl⟩
  unfold mayB at hM
  simp only [Bool.and_eq_true] at hM
  have hall := hM.2
  unfold allPl at hall
  rw [hx, List.all_cons, Bool.and_eq_true] at hall
  obtain ⟨h1, h2⟩ := (isPl_iff _ _).1 hall.1
  obtain ⟨y, rfl⟩ := Int.eq_ofNat_of_zero_le h1
  have hy := (hb.mem (y : Int)).2 ⟨y, .part .self (by rw [ha, hx]; exact List.mem_cons_self ..) (by omega), rfl⟩
  exact two_le hs hy (by omega)

theorem ret_true {b : Bool} (h : b = true) : Ending.returned (.bool b) = .returned (.bool true) := by rw [h]

set_option maxRecDepth 100000 in
set_option maxHeartbeats 4000000 in
theorem walk (L A S : Option Addr) (nl cl n c m d : Nat) (l : List Sg.Sig) (ks : List (List Int)) (sl : List Int) (id : Int) (w : World) (hnl : nl = l.length) (hr : Sg.Row w w.heap.size L l) (hll : l.length ≤ maxLen) (hsz : Sg.Sized l) (hn : n = ks.length) (hm : m = sl.length) (hk : Keys w w.heap.size A ks) (hS : Ints w w.heap.size S sl)
    (hl : ks.length ≤ 1152921504606846976) (hs : ∀ k ∈ ks, k.length ≤ 1152921504606846976) (hsl : sl.length ≤ 1152921504606846976) :
    Calls Try.prog 9 #[.slice L nl cl, .agg #[.slice A n c, .slice S m d], .int .i64 id] w fun e w' => e = .returned (.bool true) ∧ Q w w' := by
  subst hnl
  subst hn
  subst hm
  have q0 := (Q.refl w).alloc (Obj.cells #[Value.slice A ks.length c, Value.slice S sl.length d] 27)
  have Hr := Lib.hid ((hr.q (Nat.le_refl _) q0).more q0.size)
  have Hk := Lib.hid ((hk.q (Nat.le_refl _) q0).more q0.size)
  have HS := Lib.hid ((hS.q (Nat.le_refl _) q0).more q0.size)
  have HT := Lib.hid (BoxT.new w (Value.slice A ks.length c) (Value.slice S sl.length d) 27)
  have Hsb := Lib.hid hs
  clear hr hk hS hs
  go_enter Try.func9, Try.ntmps9
  go_wp2_with fail
  generalize w.alloc (Obj.cells #[Value.slice A ks.length c, Value.slice S sl.length d] 27) = W0 at *
  refine (shown3_any _).mono ?_
  rintro e w1 ⟨rfl, q1⟩
  have HT1 := Lib.hid (HT.out.q q1)
  have b0 := HT1.out.c0
  have b1 := HT1.out.c1
  go_wp2_with fail
  refine (of3_any _ _ _ _ _ _ _ _ _ l ks sl _ rfl ((Hr.out.q (Nat.le_refl _) q1).more q1.size) rfl rfl ((Hk.out.q (Nat.le_refl _) q1).more q1.size) ((HS.out.q (Nat.le_refl _) q1).more q1.size) hll hsz hl Hsb.out hsl).mono ?_
  rintro e w2 ⟨rfl, q2⟩
  have q12 := q1.trans q2
  have q02 := q0.trans q12
  clear b0 b1
  cases hof : ofB l ks sl
  · go_wp2_with fail
    go_ret
    exact ⟨rfl, q02⟩
  · have hof' := hof
    unfold ofB at hof'
    simp only [Bool.and_eq_true, decide_eq_true_eq] at hof'
    obtain ⟨⟨⟨h64, _⟩, hfew⟩, hst0⟩ := hof'
    obtain ⟨hst, hsle⟩ := (store_iff l ks sl).1 hst0
    have hsum := few_sum hfew
    have Hst := Lib.hid hst
    have HsM : Hid (∀ k ∈ ks, k.length ≤ 2000) := fun k hk => by have := mem_len hk; omega
    have hks : ks.length ≤ 2000 := by omega
    have hfl : ks.flatten.length ≤ 2000 := by omega
    have HT2 := Lib.hid (HT.out.q q12)
    have Hr2 := Lib.hid ((Hr.out.q (Nat.le_refl _) q12).more q12.size)
    have Hk2 := Lib.hid ((Hk.out.q (Nat.le_refl _) q12).more q12.size)
    have HS2 : Hid (Ints w2 w2.heap.size S (layI ks)) := by have := (HS.out.q (Nat.le_refl _) q12).more q12.size; rw [hsle] at this; exact this
    have Hln : Hid (sl.length = (layI ks).length) := by unfold Hid; rw [hsle]
    have Hlz : Hid ((layI ks).length ≤ 20000) := by unfold Hid; rw [layI_length]; have := sizeN_le ks.length; omega
    clear hof hfew hst0 hst hsle hsum HT Hr Hk HS HT1 q0 q1 q2 q12 hll hsz hl hsl Hsb
    cases hp : isPl id ks.length
    · have HTn := Lib.hid (termAt_out hp)
      have HBn : Hid (belowI ks id = []) := by unfold Hid belowI; rw [hp]; rfl
      have hno := isPl_no hp
      clear hp h64
      by_cases h0 : 0 ≤ id
      · have d0 : decide (0 ≤ id) = true := decide_eq_true h0
        have d1 : decide (id < (ks.length : Int)) = false := decide_eq_false (by omega)
        clear hno h0
        have b0 := HT2.out.c0
        have b1 := HT2.out.c1
        go_wp2_with fail
        refine (of_any _ _ _ _ _ _ ks id _ rfl Hk2.out (fun k hk => by have := HsM.out k hk; omega)).mono ?_
        rintro e w3 ⟨A3, n3, c3, rfl, hn3, hA3, q3⟩
        rw [HTn.out]
        simp only [Option.getD_none, Option.isSome_none, Tm.none]
        have q4 := q3.alloc (Obj.cells #[.int .i64 0, .int .i64 0, .int .i64 0, .slice A3 n3 c3] 38)
        have HT4 := Lib.hid (HT2.out.q q4)
        clear b0 b1 hn3 hA3
        have b0 := HT4.out.c0
        have b1 := HT4.out.c1
        go_wp2_with fail
        generalize w3.alloc (Obj.cells #[.int .i64 0, .int .i64 0, .int .i64 0, .slice A3 n3 c3] 38) = W4 at *
        refine (below_any _ _ _ _ _ _ ks id _ rfl ((Hk2.out.q (Nat.le_refl _) q4).more q4.size) (by omega) (fun k hk => by have := HsM.out k hk; omega)).mono ?_
        rintro e w5 ⟨A5, c5, rfl, _, q5⟩
        rw [HBn.out]
        have hl0 : ([] : List Int).length = 0 := rfl
        rw [hl0]
        clear hl0
        go_wp2_with fail
        go_ret
        exact ⟨rfl, (q02.trans q4).trans q5⟩
      · have d0 : decide (0 ≤ id) = false := decide_eq_false h0
        clear hno h0
        have b0 := HT2.out.c0
        have b1 := HT2.out.c1
        go_wp2_with fail
        refine (of_any _ _ _ _ _ _ ks id _ rfl Hk2.out (fun k hk => by have := HsM.out k hk; omega)).mono ?_
        rintro e w3 ⟨A3, n3, c3, rfl, hn3, hA3, q3⟩
        rw [HTn.out]
        simp only [Option.getD_none, Option.isSome_none, Tm.none]
        have q4 := q3.alloc (Obj.cells #[.int .i64 0, .int .i64 0, .int .i64 0, .slice A3 n3 c3] 38)
        have HT4 := Lib.hid (HT2.out.q q4)
        clear b0 b1 hn3 hA3
        have b0 := HT4.out.c0
        have b1 := HT4.out.c1
        go_wp2_with fail
        generalize w3.alloc (Obj.cells #[.int .i64 0, .int .i64 0, .int .i64 0, .slice A3 n3 c3] 38) = W4 at *
        refine (below_any _ _ _ _ _ _ ks id _ rfl ((Hk2.out.q (Nat.le_refl _) q4).more q4.size) (by omega) (fun k hk => by have := HsM.out k hk; omega)).mono ?_
        rintro e w5 ⟨A5, c5, rfl, _, q5⟩
        rw [HBn.out]
        have hl0 : ([] : List Int).length = 0 := rfl
        rw [hl0]
        clear hl0
        go_wp2_with fail
        go_ret
        exact ⟨rfl, (q02.trans q4).trans q5⟩
    · obtain ⟨h0, h1⟩ := (isPl_iff _ _).1 hp
      obtain ⟨i, rfl⟩ := Int.eq_ofNat_of_zero_le h0
      have hlt : i < ks.length := by omega
      have d0 : decide ((0 : Int) ≤ (i : Int)) = true := decide_eq_true h0
      have d1 : decide ((i : Int) < (ks.length : Int)) = true := decide_eq_true h1
      obtain ⟨h3, hM, _⟩ := keyOk_parts (Hst.out.ok i _ (List.getElem?_eq_getElem hlt))
      have HTn := Lib.hid (termAt_at hlt h3)
      have hbl := below_len Hst.out hlt
      have hbi : belowI ks (i : Int) = belowL ks i := by unfold belowI; rw [hp]; rfl
      have hkk := key_of h3
      have hxl : (ofKey ks[i]).xs.length ≤ 2000 := by have := HsM.out _ (List.getElem_mem hlt); simp [ofKey]; omega
      obtain ⟨t, ht⟩ : ∃ t, ofKey ks[i] = t := ⟨_, rfl⟩
      rw [ht] at HTn hbl hkk hM hxl
      have hw := may_wf hM
      have hM2 := may_mono hM (Nat.le_of_lt hlt)
      have hat : atI ks t.key = (i : Int) := by rw [hkk]; exact atI_some Hst.out.dist (List.getElem?_eq_getElem hlt)
      have hf : fullB ks t 0 = false := by unfold fullB newB; rw [hat, decide_eq_false (by omega : ¬ (i : Int) < 0), Bool.and_false]
      have EK : Hid (put3L l ks t 0 = ks) := by unfold Hid put3L; rw [hM2, hf]; show putL ks t.key = _; unfold putL; rw [if_neg (by omega)]
      have EI : Hid (put3I l ks t 0 = (i : Int)) := by unfold Hid put3I; rw [hM2, hf]; show placeI ks t.key = _; unfold placeI; rw [if_neg (by omega)]; exact hat
      have EE : Hid (put3E l ks t 0 = 0) := by unfold Hid put3E; rw [hM2, hf]; rfl
      obtain ⟨LB, hLB⟩ : ∃ LB, (belowI ks (i : Int)).length = LB := ⟨_, rfl⟩
      rw [← hbi, hLB] at hbl
      have HLB := Lib.hid hLB
      obtain ⟨hb1, hb2⟩ := hbl
      clear hp ht h3 hM hM2 hat hf hkk hbi hLB h64
      have b0 := HT2.out.c0
      have b1 := HT2.out.c1
      go_wp2_with fail
      refine (of_any _ _ _ _ _ _ ks i _ rfl Hk2.out (fun k hk => by have := HsM.out k hk; omega)).mono ?_
      rintro e w3 ⟨A3, N, c3, rfl, hN, hA3, q3⟩
      rw [HTn.out] at hN hA3 ⊢
      simp only [Option.getD_some, Option.isSome_some] at hN hA3 ⊢
      have q4 := q3.alloc (Obj.cells #[.int .i64 t.k, .int .i64 t.s, .int .i64 t.p, .slice A3 N c3] 38)
      have q34 := (Q.refl w3).alloc (Obj.cells #[.int .i64 t.k, .int .i64 t.s, .int .i64 t.p, .slice A3 N c3] 38)
      have HX4 := Lib.hid (Box4.new w3 (.int .i64 t.k) (.int .i64 t.s) (.int .i64 t.p) (.slice A3 N c3) 38)
      have HA4 := Lib.hid ((hA3.q (Nat.le_refl _) q34).more q34.size)
      have HT4 := Lib.hid (HT2.out.q q4)
      have Hr4 := Lib.hid ((Hr2.out.q (Nat.le_refl _) q4).more q4.size)
      have Hk4 := Lib.hid ((Hk2.out.q (Nat.le_refl _) q4).more q4.size)
      have HS4 := Lib.hid ((HS2.out.q (Nat.le_refl _) q4).more q4.size)
      have HN := Lib.hid hN
      have hN2 : N ≤ 2000 := by omega
      have hb3 : 0 < N → 2 ≤ LB := fun h => hb2 (by omega)
      clear b0 b1 hN hA3 q34 hb2 HT2 Hr2 Hk2 HS2
      have b0 := HT4.out.c0
      have b1 := HT4.out.c1
      have x0 := HX4.out.c0
      have x1 := HX4.out.c1
      have x2 := HX4.out.c2
      have x3 := HX4.out.c3
      go_wp2_with fail
      generalize w3.alloc (Obj.cells #[.int .i64 t.k, .int .i64 t.s, .int .i64 t.p, .slice A3 N c3] 38) = W4 at *
      refine (put3_any _ _ _ _ _ _ _ _ _ _ _ _ l ks t 0 _ rfl Hr4.out rfl Hln.out Hk4.out HS4.out HN.out HA4.out hw Hst.out.dist (fun k hk => by have := HsM.out k hk; omega) (by omega) (by omega) (by omega)).mono ?_
      rintro e w5 ⟨A5, c5, S5, d5, rfl, hk5, hS5, q5, _⟩
      rw [EK.out] at hk5 hS5 ⊢
      rw [EI.out, EE.out]
      have q6 := q5.alloc (Obj.cells #[.slice A5 ks.length c5, .slice S5 (layI ks).length d5] 27)
      have q56 := (Q.refl w5).alloc (Obj.cells #[.slice A5 ks.length c5, .slice S5 (layI ks).length d5] 27)
      have HB6 := Lib.hid (BoxT.new w5 (.slice A5 ks.length c5) (.slice S5 (layI ks).length d5) 27)
      have Hc6 := Lib.hid ((hk5.q (Nat.le_refl _) q56).more q56.size)
      have Hd6 := Lib.hid ((hS5.q (Nat.le_refl _) q56).more q56.size)
      have HT6 := Lib.hid (HT4.out.q q6)
      have HX6 := Lib.hid (HX4.out.q q6)
      have Ha6 := Lib.hid ((Hk4.out.q (Nat.le_refl _) q6).more q6.size)
      have Hb6 := Lib.hid ((HS4.out.q (Nat.le_refl _) q6).more q6.size)
      have q06 := (q02.trans q4).trans q6
      clear b0 b1 x0 x1 x2 x3 hk5 hS5 q56
      have HCS : Hid (∀ W, Q (w5.alloc (Obj.cells #[.slice A5 ks.length c5, .slice S5 (layI ks).length d5] 27)) W → Calls Try.prog 22 #[.agg #[.slice A ks.length c, .slice S sl.length d], .agg #[.slice A5 ks.length c5, .slice S5 (layI ks).length d5]] W fun e w' => e = .returned (.bool true) ∧ Q W w') := fun W p => by
        have := Hs.refSame_any A S A5 S5 _ c _ d _ c5 _ d5 ks ks (layI ks) (layI ks) W rfl Hln.out rfl rfl ((Ha6.out.q (Nat.le_refl _) p).more p.size) ((Hb6.out.q (Nat.le_refl _) p).more p.size) ((Hc6.out.q (Nat.le_refl _) p).more p.size) ((Hd6.out.q (Nat.le_refl _) p).more p.size) (by unfold maxLen; omega) (fun k hk => by have := HsM.out k hk; unfold maxLen; omega) (by have := Hlz.out; unfold maxLen; omega)
        rw [tab_refl] at this
        exact this
      have HCB : Hid (∀ W, Q (w5.alloc (Obj.cells #[.slice A5 ks.length c5, .slice S5 (layI ks).length d5] 27)) W → Calls Try.prog 23 #[.agg #[.slice A ks.length c, .slice S sl.length d], .int .i64 (i : Int)] W (RowPost (belowI ks (i : Int)) W)) := fun W p => below_any _ _ _ _ _ _ ks i W rfl ((Ha6.out.q (Nat.le_refl _) p).more p.size) (by omega) (fun k hk => by have := HsM.out k hk; omega)
      have b0 := HT6.out.c0
      have b1 := HT6.out.c1
      have p0 := HB6.out.c0
      have p1 := HB6.out.c1
      have x3 := HX6.out.c3
      have hbl := HT6.out.lt
      have hpl := HB6.out.lt
      have hxl := HX6.out.lt
      have e0 : ((i : Int) == (i : Int)) = true := by simp
      clear HX4 HT4 HA4 Hr4 Hk4 HS4
      by_cases h1N : 1 < N
      · have h1i : (1 : Int) < (N : Int) := by omega
        have hres : decide ((2 : Int) ≤ (LB : Int)) = true := decide_eq_true (by have := hb3 (by omega); omega)
        have hres2 : (2 : Int) ≤ (LB : Int) := by have := hb3 (by omega); omega
        have hw2 : IntKind.i64.wrap (1 + 1) = 2 := rfl
        have hw3 : IntKind.i64.wrap 2 = 2 := rfl
        go_wp2_with fail
        generalize w5.alloc (Obj.cells #[.slice A5 ks.length c5, .slice S5 (layI ks).length d5] 27) = W6 at *
        go_region_held3 (fun w' => w'.cell? ⟨w.heap.size, 0, none⟩ = some (.slice A ks.length c) ∧ w'.cell? ⟨w.heap.size, 1, none⟩ = some (.slice S sl.length d) ∧ w'.cell? ⟨w5.heap.size, 0, none⟩ = some (.slice A5 ks.length c5) ∧ w'.cell? ⟨w5.heap.size, 1, none⟩ = some (.slice S5 (layI ks).length d5) ∧ w'.cell? ⟨w3.heap.size, 3, none⟩ = some (.slice A3 N c3))
          (first
            | go_keep
            | exact ⟨(r8.cell (p := ⟨w.heap.size, 0, none⟩) hbl).trans b0, (r8.cell (p := ⟨w.heap.size, 1, none⟩) hbl).trans b1, (r8.cell (p := ⟨w5.heap.size, 0, none⟩) hpl).trans p0, (r8.cell (p := ⟨w5.heap.size, 1, none⟩) hpl).trans p1, (r8.cell (p := ⟨w3.heap.size, 3, none⟩) hxl).trans x3⟩
            | exact ⟨(r7.cell (p := ⟨w.heap.size, 0, none⟩) hbl).trans b0, (r7.cell (p := ⟨w.heap.size, 1, none⟩) hbl).trans b1, (r7.cell (p := ⟨w5.heap.size, 0, none⟩) hpl).trans p0, (r7.cell (p := ⟨w5.heap.size, 1, none⟩) hpl).trans p1, (r7.cell (p := ⟨w3.heap.size, 3, none⟩) hxl).trans x3⟩)
          (first
            | (go_at_call 22; (with_reducible refine (HCS.out _ (Q.refl W6).drew).mono ?_); rintro e w7 ⟨rfl, q7⟩; have r7 := (Q.refl W6).drew.trans q7)
            | (go_at_call 23; (with_reducible refine (HCB.out _ r7).mono ?_); rintro e w8 ⟨A8, c8, rfl, _, q8⟩; rw [HLB.out]; have r8 := r7.trans q8))
        all_goals go_wp2_with fail
        all_goals go_ret
        all_goals exact ⟨ret_true (by first | rfl | (simp; done) | (simp; omega) | exact decide_eq_true (by omega)), q06.trans r8⟩
      · have h1i : ¬ (1 : Int) < (N : Int) := by omega
        have hw1 : IntKind.i64.wrap (1 + (N : Int)) = 1 + (N : Int) := IntWalk.i64_in _ (by omega)
        go_wp2_with fail
        generalize w5.alloc (Obj.cells #[.slice A5 ks.length c5, .slice S5 (layI ks).length d5] 27) = W6 at *
        go_region_held3 (fun w' => w'.cell? ⟨w.heap.size, 0, none⟩ = some (.slice A ks.length c) ∧ w'.cell? ⟨w.heap.size, 1, none⟩ = some (.slice S sl.length d) ∧ w'.cell? ⟨w5.heap.size, 0, none⟩ = some (.slice A5 ks.length c5) ∧ w'.cell? ⟨w5.heap.size, 1, none⟩ = some (.slice S5 (layI ks).length d5) ∧ w'.cell? ⟨w3.heap.size, 3, none⟩ = some (.slice A3 N c3))
          (first
            | go_keep
            | exact ⟨(r8.cell (p := ⟨w.heap.size, 0, none⟩) hbl).trans b0, (r8.cell (p := ⟨w.heap.size, 1, none⟩) hbl).trans b1, (r8.cell (p := ⟨w5.heap.size, 0, none⟩) hpl).trans p0, (r8.cell (p := ⟨w5.heap.size, 1, none⟩) hpl).trans p1, (r8.cell (p := ⟨w3.heap.size, 3, none⟩) hxl).trans x3⟩
            | exact ⟨(r7.cell (p := ⟨w.heap.size, 0, none⟩) hbl).trans b0, (r7.cell (p := ⟨w.heap.size, 1, none⟩) hbl).trans b1, (r7.cell (p := ⟨w5.heap.size, 0, none⟩) hpl).trans p0, (r7.cell (p := ⟨w5.heap.size, 1, none⟩) hpl).trans p1, (r7.cell (p := ⟨w3.heap.size, 3, none⟩) hxl).trans x3⟩)
          (first
            | (go_at_call 22; (with_reducible refine (HCS.out _ (Q.refl W6).drew).mono ?_); rintro e w7 ⟨rfl, q7⟩; have r7 := (Q.refl W6).drew.trans q7)
            | (go_at_call 23; (with_reducible refine (HCB.out _ r7).mono ?_); rintro e w8 ⟨A8, c8, rfl, _, q8⟩; rw [HLB.out]; have r8 := r7.trans q8))
        all_goals go_wp2_with fail
        all_goals go_ret
        all_goals exact ⟨ret_true (by have := hb3; first | rfl | (simp; omega) | exact decide_eq_true (by omega)), q06.trans r8⟩

set_option maxRecDepth 100000 in
theorem lifted (os : Os) (started : os.Started) (H : Type) (enc : TypeId × Value → H) :
    ReturnsInHanded {} Try.checked os 9 .any (Rows.termAllSpec.pre6 enc Try.prog Try.f9 Rows.termAllRow.domain false) (Rows.termAllSpec.post enc Try.prog Try.f9 false true false false) := by
  refine returnsInHanded_of_change_sized (C := Try.checked) own started (by kernel_rfl) Try.func9
    (ChangeSpec.witness6 (enc := enc) (C := Try.checked) false ⟨#[], #[.slice none 0 0, .agg #[.slice none 0 0, .slice none 0 0], .int .i64 0], []⟩ 8 (by kernel_rfl) (by kernel_rfl) (by kernel_rfl) (by kernel_rfl)) ?_
  intro W base args ds gs before hval0 hW hcnd hsz0 _
  have hval : ∀ (j : Nat) t v, Try.f9.params[j]? = some t → args[j]? = some v → Value.okWide Try.prog W .any base t v := hval0
  have hW' := hW
  obtain ⟨p, q, hA0, hV, rfl, hfz, hnd⟩ := hW
  have hA : DataW.TrodAll enc Try.prog W 0 (fun _ => true) true Try.f9.params.toList args.toList ds p := hA0
  rw [Try.params9] at hA hval
  obtain ⟨v0, vs0, d0, ds0, p0, q0, hargs, rfl, rfl, h0, r0⟩ := trodAll_cons hA
  obtain ⟨v1, vs1, d1, ds1, p1, q1, rfl, rfl, rfl, h1, r1⟩ := trodAll_cons r0
  obtain ⟨v2, vs2, d2, ds2, p2, q2, rfl, rfl, rfl, h2, r2⟩ := trodAll_cons r1
  obtain ⟨rfl, rfl, rfl⟩ := trodAll_nil r2
  obtain rfl : args = #[v0, v1, v2] := by cases args; simp_all
  obtain ⟨rfl, rfl⟩ := trodVars_none hV
  have z0 : ∀ n ∈ d0.weights Try.prog 36, n ≤ reachBytes := fun n hn => by
    have := List.all_eq_true.1 hsz0 n (DataW.weights_mem_each (j := 0) (t := 36) (d := d0) (by rw [Try.params9]; rfl) rfl n hn)
    simpa using this
  have z1 : ∀ n ∈ d1.weights Try.prog 27, n ≤ reachBytes := fun n hn => by
    have := List.all_eq_true.1 hsz0 n (DataW.weights_mem_each (j := 1) (t := 27) (d := d1) (by rw [Try.params9]; rfl) rfl n hn)
    simpa using this
  have _z2 : ∀ n ∈ d2.weights Try.prog 3, n ≤ reachBytes := fun n hn => by
    have := List.all_eq_true.1 hsz0 n (DataW.weights_mem_each (j := 2) (t := 3) (d := d2) (by rw [Try.params9]; rfl) rfl n hn)
    simpa using this
  obtain ⟨L, nl, cl, l, rfl, hnl, hr, hll, hsz, _⟩ := Sg.open_sigs (hval 0 36 v0 rfl rfl) h0
  obtain ⟨A, n, c, S, m, d, ks, sl, rfl, hn, hm, hk, hS, hl, hs, hsl⟩ := open_table (hval 1 27 v1 rfl rfl) h1 z1
  obtain ⟨id, rfl, _⟩ := open_int Try.underlying3 (hval 2 3 v2 rfl rfl) h2
  clear hA0 hval0
  refine (walk L A S nl cl n c m d l ks sl id W hnl hr hll hsz hn hm hk hS hl hs hsl).mono fun e W' ⟨he, hg⟩ => ?_
  subst he
  exact ⟨_, rfl, post_law laid (by rw [Try.params9]; decide +kernel) rfl rfl (by kernel_rfl) Try.underlying4 hW' hg⟩

/-- THE STATEMENT -/
theorem proved : Rows.TermAllSaid :=
  OpenClaim.holds_of_wide 9 Try.f9 rfl rfl rfl rfl rfl rfl rfl ⟨rfl, rfl, rfl, rfl, rfl⟩ rfl rfl rfl rfl rfl (by kernel_rfl) Try.func9 (by kernel_rfl)
    (of_decide_eq_true (by kernel_rfl)) (by unfold Func.isWrapper; first | (rw [if_pos (by decide +kernel)]; kernel_rfl) | (rw [if_neg (by decide +kernel)]; exact ⟨rfl, rfl⟩))
    (fun os started H enc _ => lifted os started H enc)
end Go.Proofs.Ytdedlkeeifgajaa.termAll
