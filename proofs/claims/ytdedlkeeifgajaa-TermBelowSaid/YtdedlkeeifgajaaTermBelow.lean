/-
  TermBelow: a term's parts stand ahead of it; what it is made of has all that its parts are made of, and nothing more but it. Proved for every row, table and number: no condition.
-/
import Derived.Test.YtdedlkeeifgajaaTermOpen
import Derived.Test.YtdedlkeeifgajaaRows
import Derived.Test.YtdedlkeeifgajaaTermXF
namespace Go.Proofs.Ytdedlkeeifgajaa.termBelow
open Go.ChangeShapes Go.WideShapes Go.RowKit Kit Go.Deep Go.Joins Hs Tm

theorem below_le (ks : List (List Int)) (y : Nat) : (belowL ks y).length ≤ y + 1 := by
  obtain ⟨f, _, e⟩ := below_is ks y
  rw [e]
  unfold castL
  rw [List.length_map]
  have := List.length_filter_le f (List.range (y + 1))
  rwa [List.length_range] at this

set_option maxRecDepth 100000 in
set_option maxHeartbeats 4000000 in
theorem walk (L A S : Option Addr) (nl cl n c m d : Nat) (l : List Sg.Sig) (ks : List (List Int)) (sl : List Int) (id : Int) (w : World) (hnl : nl = l.length) (hr : Sg.Row w w.heap.size L l) (hll : l.length ≤ maxLen) (hsz : Sg.Sized l) (hn : n = ks.length) (hm : m = sl.length) (hk : Keys w w.heap.size A ks) (hS : Ints w w.heap.size S sl)
    (hl : ks.length ≤ 1152921504606846976) (hs : ∀ k ∈ ks, k.length ≤ 1152921504606846976) (hsl : sl.length ≤ 1152921504606846976) :
    Calls Try.prog 6 #[.slice L nl cl, .agg #[.slice A n c, .slice S m d], .int .i64 id] w fun e w' => e = .returned (.bool true) ∧ Q w w' := by
  subst hnl
  subst hn
  subst hm
  have q0 := (Q.refl w).alloc (Obj.cells #[Value.slice A ks.length c, Value.slice S sl.length d] 27)
  have Hr := Lib.hid ((hr.q (Nat.le_refl _) q0).more q0.size)
  have Hk := Lib.hid ((hk.q (Nat.le_refl _) q0).more q0.size)
  have HS := Lib.hid ((hS.q (Nat.le_refl _) q0).more q0.size)
  have HT := Lib.hid (BoxT.new w (Value.slice A ks.length c) (Value.slice S sl.length d) 27)
  have Hsb := Lib.hid hs
  clear hr hk hS hs
  go_enter Try.func6, Try.ntmps6
  go_wp2_with fail
  generalize w.alloc (Obj.cells #[Value.slice A ks.length c, Value.slice S sl.length d] 27) = W0 at *
  refine (shown3_any _).mono ?_
  rintro e w1 ⟨rfl, q1⟩
  have HT1 := Lib.hid (HT.out.q q1)
  have b0 := HT1.out.c0
  have b1 := HT1.out.c1
  go_wp2_with fail
  refine (of3_any _ _ _ _ _ _ _ _ _ l ks sl _ rfl ((Hr.out.q (Nat.le_refl _) q1).more q1.size) rfl rfl ((Hk.out.q (Nat.le_refl _) q1).more q1.size) ((HS.out.q (Nat.le_refl _) q1).more q1.size) hll hsz hl Hsb.out hsl).mono ?_
  rintro e w2 ⟨rfl, q2⟩
  have q12 := q1.trans q2
  have q02 := q0.trans q12
  clear b0 b1
  cases hof : ofB l ks sl
  · go_wp2_with fail
    go_ret
    exact ⟨rfl, q02⟩
  · have hof' := hof
    unfold ofB at hof'
    simp only [Bool.and_eq_true, decide_eq_true_eq] at hof'
    obtain ⟨⟨⟨h64, _⟩, hfew⟩, hst0⟩ := hof'
    obtain ⟨hst, hsle⟩ := (store_iff l ks sl).1 hst0
    have hsum := few_sum hfew
    have Hst := Lib.hid hst
    have HsM : Hid (∀ k ∈ ks, k.length ≤ 2000) := fun k hk => by have := mem_len hk; omega
    have hks : ks.length ≤ 2000 := by omega
    have hfl : ks.flatten.length ≤ 2000 := by omega
    have HT2 := Lib.hid (HT.out.q q12)
    have Hr2 := Lib.hid ((Hr.out.q (Nat.le_refl _) q12).more q12.size)
    have Hk2 := Lib.hid ((Hk.out.q (Nat.le_refl _) q12).more q12.size)
    have HS2 : Hid (Ints w2 w2.heap.size S (layI ks)) := by have := (HS.out.q (Nat.le_refl _) q12).more q12.size; rw [hsle] at this; exact this
    have Hln : Hid (sl.length = (layI ks).length) := by unfold Hid; rw [hsle]
    have Hlz : Hid ((layI ks).length ≤ 20000) := by unfold Hid; rw [layI_length]; have := sizeN_le ks.length; omega
    clear hof hfew hst0 hst hsle hsum HT Hr Hk HS HT1 q0 q1 q2 q12 hll hsz hl hsl Hsb
    by_cases h0 : 0 ≤ id
    · have d0 : decide (id < 0) = false := decide_eq_false (by omega)
      by_cases h1 : id < (ks.length : Int)
      · have d1 : decide ((ks.length : Int) ≤ id) = false := decide_eq_false (by omega)
        obtain ⟨i, rfl⟩ := Int.eq_ofNat_of_zero_le h0
        have hlt : i < ks.length := by omega
        obtain ⟨h3, hM, _⟩ := keyOk_parts (Hst.out.ok i _ (List.getElem?_eq_getElem hlt))
        have HTn := Lib.hid (termAt_at hlt h3)
        have ha : argsOf ks i = (ofKey ks[i]).xs := by unfold argsOf; rw [termAt_at hlt h3]; rfl
        have hxl : (ofKey ks[i]).xs.length ≤ 2000 := by have := HsM.out _ (List.getElem_mem hlt); simp [ofKey]; omega
        obtain ⟨t, ht⟩ : ∃ t, ofKey ks[i] = t := ⟨_, rfl⟩
        rw [ht] at HTn hM ha hxl
        have Ha := Lib.hid ha
        have HP : Hid (∀ x ∈ t.xs, 0 ≤ x ∧ x < (i : Int)) := fun x hx => by
          unfold mayB at hM
          simp only [Bool.and_eq_true] at hM
          have h2 := hM.2
          unfold allPl at h2
          rw [List.all_eq_true] at h2
          exact (isPl_iff _ _).1 (h2 x hx)
        have hmk := make_bools ks.length (by omega)
        clear ht h3 hM h64 ha
        have b0 := HT2.out.c0
        have b1 := HT2.out.c1
        have n0 : (0 : Int) ≤ (i : Int) := by omega
        have n1 : (i : Int) < (ks.length : Int) := by omega
        go_wp2_with fail
        refine (of_any _ _ _ _ _ _ ks i _ rfl Hk2.out (fun k hk => by have := HsM.out k hk; omega)).mono ?_
        rintro e w3 ⟨A3, N, c3, rfl, hN, hA3, q3⟩
        rw [HTn.out] at hN hA3 ⊢
        simp only [Option.getD_some, Option.isSome_some] at hN hA3 ⊢
        have q4 := q3.alloc (Obj.cells #[.int .i64 t.k, .int .i64 t.s, .int .i64 t.p, .slice A3 N c3] 38)
        have q34 := (Q.refl w3).alloc (Obj.cells #[.int .i64 t.k, .int .i64 t.s, .int .i64 t.p, .slice A3 N c3] 38)
        have HX4 := Lib.hid (Box4.new w3 (.int .i64 t.k) (.int .i64 t.s) (.int .i64 t.p) (.slice A3 N c3) 38)
        have HA4 := Lib.hid ((hA3.q (Nat.le_refl _) q34).more q34.size)
        have HT4 := Lib.hid (HT2.out.q q4)
        have Hk4 := Lib.hid ((Hk2.out.q (Nat.le_refl _) q4).more q4.size)
        have HN := Lib.hid hN
        have hN2 : N ≤ 2000 := by omega
        clear b0 b1 hN hA3 q34 HT2 Hr2 Hk2 HS2
        have b0 := HT4.out.c0
        have b1 := HT4.out.c1
        go_wp2_with fail
        generalize w3.alloc (Obj.cells #[.int .i64 t.k, .int .i64 t.s, .int .i64 t.p, .slice A3 N c3] 38) = W4 at *
        refine (belowF_in _ _ _ _ _ ks i _ Hk4.out hlt (by omega) (fun k hk => by have := HsM.out k hk; omega)).mono ?_
        rintro e w5 ⟨A5, c5, rfl, hI5, q5, _⟩
        obtain ⟨LB, hLB⟩ : ∃ LB, (belowL ks i).length = LB := ⟨_, rfl⟩
        rw [hLB]
        have HLB := Lib.hid hLB
        have HI5 := Lib.hid hI5
        have HT5 := Lib.hid (HT4.out.q q5)
        have HX5 := Lib.hid (HX4.out.q q5)
        have HA5 := Lib.hid ((HA4.out.q (Nat.le_refl _) q5).more q5.size)
        have Hk5 := Lib.hid ((Hk4.out.q (Nat.le_refl _) q5).more q5.size)
        have q05 := (q02.trans q4).trans q5
        have hMd := OwnB.made w5 ks.length 4
        have hMs := hMd.set (s := i) (by simpa using hlt) true
        rw [World.setCell_alloc_new] at hMs
        have HMs := Lib.hid hMs
        have m0 := hMd.2 i false (by rw [List.getElem?_replicate, if_pos hlt])
        obtain ⟨m1, m2⟩ := m0
        have qM := (Q.refl w5).alloc (.cells ((madeCells #[.bool false] ks.length).setIfInBounds i (.bool true)) 4)
        have Hone : Hid (∀ x, getB ((List.replicate ks.length false).set i true) x = true ↔ x = i ∨ ∃ y : Nat, (y : Int) ∈ t.xs.take 0 ∧ Made ks y x) := fun x => by
          rw [marks_one hlt x]
          simp
        clear b0 b1 hI5 hLB hMd hMs HT4 HX4 HA4 Hk4
        have b0 := HT5.out.c0
        go_wp2_with fail
        clear hmk m1 m2 b0
        go_loopw [12, 13, 14] (fun j _ _ wr => ∃ (k : Nat) (mk : List Bool), k ≤ N ∧ j = .int .i64 k ∧ Hid (mk.length = ks.length) ∧ Hid (∀ x, getB mk x = true ↔ x = i ∨ ∃ y : Nat, (y : Int) ∈ t.xs.take k ∧ Made ks y x) ∧ Hid (OwnB wr w5.heap.size mk) ∧ Q w5 wr) (fun j _ _ _ => N - (intOf j).toNat)
        case atStart => exact ⟨0, _, Nat.zero_le _, rfl, Lib.hid (by simp), Hone, HMs, qM⟩
        case round =>
          clear Hone HMs qM
          obtain ⟨j, mk, hj, rfl, HL, HG, HO, qr⟩ := hrel
          have x3 := (HX5.out.q qr).c3
          have b0 := (HT5.out.q qr).c0
          have b1 := (HT5.out.q qr).c1
          by_cases hjN : j < N
          · have hjx : j < t.xs.length := by have := HN.out; omega
            obtain ⟨ad, rfl, hba, c0⟩ := ((HA5.out.q (Nat.le_refl _) qr).more qr.size).at_ hjx
            obtain ⟨p0, p1⟩ := HP.out _ (List.getElem_mem hjx)
            obtain ⟨y, hy⟩ := Int.eq_ofNat_of_zero_le p0
            have Hy := Lib.hid hy
            have Htk := Lib.hid (mem_take_succ hjx)
            rw [hy] at c0 p0 p1
            have dy0 : decide ((y : Int) < 0) = false := decide_eq_false (by omega)
            have dy1 : decide ((i : Int) ≤ (y : Int)) = false := decide_eq_false (by omega)
            have hyk : y < ks.length := by omega
            have hyi : y < i := by omega
            have HCB : Hid (∀ W, Q wr W → Calls Try.prog 23 #[.agg #[.slice A ks.length c, .slice S sl.length d], .int .i64 (y : Int)] W (RowPostF (belowL ks y) W)) := fun W p => by
              have qq := qr.trans p
              exact belowF_in _ _ _ _ _ ks y W ((Hk5.out.q (Nat.le_refl _) qq).more qq.size) hyk (by omega) (fun k hk => by have := HsM.out k hk; omega)
            have hbl := (HT5.out.q qr).lt
            have hxl2 := (HX5.out.q qr).lt
            have j0 : (0 : Int) ≤ (j : Int) := by omega
            have j1 : (j : Int) < (N : Int) := by omega
            have hadl : (ad.add j).block < wr.heap.size := by rw [add_block]; exact hba
            clear hy
            go_upto_region 13 with fail
            go_region_held3 (fun w' => w'.cell? ⟨w.heap.size, 0, none⟩ = some (.slice A ks.length c) ∧ w'.cell? ⟨w.heap.size, 1, none⟩ = some (.slice S sl.length d) ∧ w'.cell? ⟨w3.heap.size, 3, none⟩ = some (.slice (some ad) N c3) ∧ w'.cell? (ad.add j) = some (.int .i64 (y : Int)))
              (first
                | go_keep
                | exact ⟨(r6.cell (p := ⟨w.heap.size, 0, none⟩) hbl).trans b0, (r6.cell (p := ⟨w.heap.size, 1, none⟩) hbl).trans b1, (r6.cell (p := ⟨w3.heap.size, 3, none⟩) hxl2).trans x3, (r6.cell (p := ad.add j) hadl).trans c0⟩)
              (first
                | (go_at_call 23; (with_reducible refine (HCB.out _ (Q.refl wr).drew).mono ?_); rintro e w6 ⟨A6, c6, rfl, hI6, q6, hA6⟩; have HI6 := Lib.hid hI6; have HA6 := Lib.hid hA6; clear hI6 hA6; have r6 := (Q.refl wr).drew.trans q6))
            have hgl := HO.out.1
            have HO6 := Lib.hid (HO.out.q r6)
            have HIO : Hid (IntsO w6 w5.heap.size w5.heap.size A6 (belowL ks y)) := fun h0 => by
              obtain ⟨ad6, e6, hb6, hc6⟩ := HI6.out h0
              have h6 : wr.heap.size ≤ ad6.block := HA6.out ad6 e6
              exact ⟨ad6, e6, hb6, by omega, by omega, hc6⟩
            obtain ⟨PB, hPB⟩ : ∃ PB, belowL ks y = PB := ⟨_, rfl⟩
            have HPm : Hid (∀ x : Int, x ∈ PB ↔ ∃ n : Nat, Made ks y n ∧ x = (n : Int)) := fun x => by rw [← hPB]; exact (below_is ks y).mem x
            have hPl : PB.length ≤ 5000 := by have := below_le ks y; rw [hPB] at this; omega
            rw [hPB] at HIO ⊢
            obtain ⟨M, hMl⟩ : ∃ M, PB.length = M := ⟨_, rfl⟩
            rw [hMl] at hPl ⊢
            have HMl := Lib.hid hMl
            have qr6 := qr.trans r6
            clear hPB hMl HI6 HA6 HCB b0 b1 x3 c0
            go_wp2_with fail
            go_loopw [14] (fun q wr' => ∃ (k : Nat) (mk' : List Bool), k ≤ M ∧ q = .int .i64 k ∧ Hid (mk'.length = ks.length) ∧ Hid (∀ x : Nat, getB mk' x = true ↔ getB mk x = true ∨ (x : Int) ∈ PB.take k) ∧ Hid (OwnB wr' w5.heap.size mk') ∧ Hid (IntsO wr' w5.heap.size w5.heap.size A6 PB) ∧ Q w5 wr') (fun q _ => M - (intOf q).toNat)
            case atStart => exact ⟨0, mk, Nat.zero_le _, rfl, HL, Lib.hid (fun x => by simp), HO6, HIO, qr6⟩
            case round =>
              clear HO6 HIO
              obtain ⟨k, mk', hk, rfl, HL', HG', HO', HI', qr'⟩ := hrel
              by_cases hkM : k < M
              · have hkx : k < PB.length := by have := HMl.out; omega
                obtain ⟨ad6, rfl, hb6, c6'⟩ := HI'.out.ints.at_ hkx
                obtain ⟨z, hz1, hz2⟩ := (HPm.out PB[k]).1 (List.getElem_mem hkx)
                have hzl := hz1.le
                have Hz2 := Lib.hid hz2
                have Htk' := Lib.hid (mem_take_succ hkx)
                rw [hz2] at c6'
                have dz0 : decide ((z : Int) < 0) = false := decide_eq_false (by omega)
                have dz1 : decide ((i : Int) ≤ (z : Int)) = false := decide_eq_false (by omega)
                have z0 : (0 : Int) ≤ (z : Int) := by omega
                have z1 : (z : Int) < (ks.length : Int) := by omega
                have hzm : z < mk'.length := by have := HL'.out; omega
                have hcz := HO'.out.2 z _ (List.getElem?_eq_getElem hzm)
                obtain ⟨hz3, hz4⟩ := hcz
                have Hzm := Lib.hid hzm
                have k0 : (0 : Int) ≤ (k : Int) := by omega
                have k1 : (k : Int) < (M : Int) := by omega
                clear hz2
                go_wp2_with fail
                go_roundw
                case rel =>
                  refine ⟨k + 1, mk'.set z true, by omega, by go_num, Lib.hid (by rw [List.length_set]; exact HL'.out), Lib.hid (fun x => ?_), Lib.hid (HO'.out.set Hzm.out true), Lib.hid (HI'.out.set (.inl rfl) _), qr'.setCell (p := ⟨w5.heap.size, z, none⟩) (Nat.le_refl _) _⟩
                  rw [getB_set Hzm.out, HG'.out x, Htk'.out, Hz2.out]
                  constructor
                  · rintro (h | h | h)
                    · exact .inr (.inr (by rw [h]))
                    · exact .inl h
                    · exact .inr (.inl h)
                  · rintro (h | h | h)
                    · exact .inr (.inl h)
                    · exact .inr (.inr h)
                    · exact .inl (by omega)
                case measure => simp [intOf]; omega
              · go_wp2_with fail
                go_roundw
                case rel =>
                  refine ⟨j + 1, mk', by omega, by go_num, HL', Lib.hid (fun x => ?_), HO', qr'⟩
                  have ePB : PB.take k = PB := List.take_of_length_le (by have := HMl.out; omega)
                  rw [HG'.out x, HG.out x, ePB, HPm.out]
                  constructor
                  · rintro ((h | ⟨y', h1, h2⟩) | ⟨n, h1, h2⟩)
                    · exact .inl h
                    · exact .inr ⟨y', (Htk.out _).2 (.inl h1), h2⟩
                    · obtain rfl : x = n := by omega
                      exact .inr ⟨y, (Htk.out _).2 (.inr Hy.out.symm), h1⟩
                  · rintro (h | ⟨y', h1, h2⟩)
                    · exact .inl (.inl h)
                    · rcases (Htk.out _).1 h1 with h1 | h1
                      · exact .inl (.inr ⟨y', h1, h2⟩)
                      · have hyy : y' = y := by have := Hy.out; omega
                        subst hyy
                        exact .inr ⟨x, h2, rfl⟩
                case measure => simp [intOf]; omega
          · have HMk : Hid (∀ x, getB mk x = true ↔ Made ks i x) := fun x => by
              rw [HG.out x, List.take_of_length_le (by have := HN.out; omega), made_iff, Ha.out]
              constructor
              · rintro (h | ⟨y', h1, h2⟩)
                · exact .inl h
                · exact .inr ⟨y', h1, by have := HP.out _ h1; omega, h2⟩
              · rintro (h | ⟨y', h1, _, h2⟩)
                · exact .inl h
                · exact .inr ⟨y', h1, h2⟩
            have HAll : Hid (belowL ks i = castL (upF mk ks.length)) := below_upF hlt HMk.out
            have Hlu : Hid ((upF mk ks.length).length = LB) := by
              have := HLB.out
              rw [HAll.out] at this
              unfold castL at this
              rwa [List.length_map] at this
            have HIr := Lib.hid ((HI5.out.q (Nat.le_refl _) qr).more qr.size)
            have hLB2 : LB ≤ 2000 := by
              rw [← Hlu.out]
              unfold upF
              have := List.length_filter_le (getB mk) (List.range ks.length)
              simp at this
              omega
            have hLB3 : LB ≤ ks.length := by
              rw [← Hlu.out]
              unfold upF
              have := List.length_filter_le (getB mk) (List.range ks.length)
              simp at this
              omega
            clear b0 b1
            go_wp2_with fail
            go_loopw [15, 16] (fun a b wr' => ∃ (p k : Nat), p ≤ ks.length ∧ b = .int .i64 p ∧ a = .int .i64 k ∧ k ≤ p ∧ Hid (k = (upF mk p).length) ∧ wr = wr') (fun _ b _ => ks.length - (intOf b).toNat)
            case atStart => exact ⟨0, 0, Nat.zero_le _, rfl, rfl, Nat.le_refl _, Lib.hid rfl, rfl⟩
            case round =>
              obtain ⟨p, k, hp, rfl, rfl, hkp, HK, rfl⟩ := hrel
              by_cases hpl : p < ks.length
              · have hpm : p < mk.length := by have := HL.out; omega
                obtain ⟨hc1, hc2⟩ := HO.out.2 p _ (List.getElem?_eq_getElem hpm)
                have p0 : (0 : Int) ≤ (p : Int) := by omega
                have p1 : (p : Int) < (ks.length : Int) := by omega
                cases hb : mk[p]
                · rw [hb] at hc1
                  have HU : Hid (upF mk (p + 1) = upF mk p) := upF_no (by unfold getB; rw [List.getElem?_eq_getElem hpm, hb]; rfl)
                  clear hb
                  go_wp2_with fail
                  go_roundw
                  case rel => exact ⟨p + 1, k, by omega, by go_num, rfl, by omega, Lib.hid (by rw [HU.out]; exact HK.out), trivial⟩
                  case measure => simp [intOf]; omega
                · rw [hb] at hc1
                  have hgb : getB mk p = true := by unfold getB; rw [List.getElem?_eq_getElem hpm, hb]; rfl
                  have HU : Hid (upF mk (p + 1) = upF mk p ++ [p]) := upF_yes hgb
                  have hat := upF_at hpl hgb
                  rw [← HAll.out, ← HK.out] at hat
                  have hkl := (List.getElem?_eq_some_iff.1 hat).1
                  obtain ⟨ad5, rfl, hb5, c5'⟩ := HIr.out.at_ hkl
                  have he5 := (List.getElem?_eq_some_iff.1 hat).2
                  rw [he5] at c5'
                  have k0 : (0 : Int) ≤ (k : Int) := by omega
                  have hkL : k < LB := by rw [← HLB.out]; exact hkl
                  have k1 : (k : Int) < (LB : Int) := by omega
                  have dk : decide ((LB : Int) ≤ (k : Int)) = false := decide_eq_false (by omega)
                  have hpp : ((p : Int) != (p : Int)) = false := by simp
                  clear hb hat hgb he5 hkl
                  go_wp2_with fail
                  go_roundw
                  case rel => exact ⟨p + 1, k + 1, by omega, by go_num, by go_num, by omega, Lib.hid (by rw [HU.out, List.length_append, HK.out]; rfl), trivial⟩
                  case measure => simp [intOf]; omega
              · obtain rfl : p = ks.length := by omega
                have hkL : ((k : Int) == (LB : Int)) = true := by have h1 := HK.out; rw [Hlu.out] at h1; rw [h1]; simp
                go_wp2_with fail
                go_ret
                exact ⟨rfl, q05.trans qr⟩
      · have d1 : decide ((ks.length : Int) ≤ id) = true := decide_eq_true (by omega)
        have b0 := HT2.out.c0
        go_wp2_with fail
        go_ret
        exact ⟨rfl, q02⟩
    · have d0 : decide (id < 0) = true := decide_eq_true (by omega)
      have b0 := HT2.out.c0
      go_wp2_with fail
      go_ret
      exact ⟨rfl, q02⟩

set_option maxRecDepth 100000 in
theorem lifted (os : Os) (started : os.Started) (H : Type) (enc : TypeId × Value → H) :
    ReturnsInHanded {} Try.checked os 6 .any (Rows.termBelowSpec.pre6 enc Try.prog Try.f6 Rows.termBelowRow.domain false) (Rows.termBelowSpec.post enc Try.prog Try.f6 false true false false) := by
  refine returnsInHanded_of_change_sized (C := Try.checked) own started (by kernel_rfl) Try.func6
    (ChangeSpec.witness6 (enc := enc) (C := Try.checked) false ⟨#[], #[.slice none 0 0, .agg #[.slice none 0 0, .slice none 0 0], .int .i64 0], []⟩ 8 (by kernel_rfl) (by kernel_rfl) (by kernel_rfl) (by kernel_rfl)) ?_
  intro W base args ds gs before hval0 hW hcnd hsz0 _
  have hval : ∀ (j : Nat) t v, Try.f6.params[j]? = some t → args[j]? = some v → Value.okWide Try.prog W .any base t v := hval0
  have hW' := hW
  obtain ⟨p, q, hA0, hV, rfl, hfz, hnd⟩ := hW
  have hA : DataW.TrodAll enc Try.prog W 0 (fun _ => true) true Try.f6.params.toList args.toList ds p := hA0
  rw [Try.params6] at hA hval
  obtain ⟨v0, vs0, d0, ds0, p0, q0, hargs, rfl, rfl, h0, r0⟩ := trodAll_cons hA
  obtain ⟨v1, vs1, d1, ds1, p1, q1, rfl, rfl, rfl, h1, r1⟩ := trodAll_cons r0
  obtain ⟨v2, vs2, d2, ds2, p2, q2, rfl, rfl, rfl, h2, r2⟩ := trodAll_cons r1
  obtain ⟨rfl, rfl, rfl⟩ := trodAll_nil r2
  obtain rfl : args = #[v0, v1, v2] := by cases args; simp_all
  obtain ⟨rfl, rfl⟩ := trodVars_none hV
  have z0 : ∀ n ∈ d0.weights Try.prog 36, n ≤ reachBytes := fun n hn => by
    have := List.all_eq_true.1 hsz0 n (DataW.weights_mem_each (j := 0) (t := 36) (d := d0) (by rw [Try.params6]; rfl) rfl n hn)
    simpa using this
  have z1 : ∀ n ∈ d1.weights Try.prog 27, n ≤ reachBytes := fun n hn => by
    have := List.all_eq_true.1 hsz0 n (DataW.weights_mem_each (j := 1) (t := 27) (d := d1) (by rw [Try.params6]; rfl) rfl n hn)
    simpa using this
  have _z2 : ∀ n ∈ d2.weights Try.prog 3, n ≤ reachBytes := fun n hn => by
    have := List.all_eq_true.1 hsz0 n (DataW.weights_mem_each (j := 2) (t := 3) (d := d2) (by rw [Try.params6]; rfl) rfl n hn)
    simpa using this
  obtain ⟨L, nl, cl, l, rfl, hnl, hr, hll, hsz, _⟩ := Sg.open_sigs (hval 0 36 v0 rfl rfl) h0
  obtain ⟨A, n, c, S, m, d, ks, sl, rfl, hn, hm, hk, hS, hl, hs, hsl⟩ := open_table (hval 1 27 v1 rfl rfl) h1 z1
  obtain ⟨id, rfl, _⟩ := open_int Try.underlying3 (hval 2 3 v2 rfl rfl) h2
  clear hA0 hval0
  refine (walk L A S nl cl n c m d l ks sl id W hnl hr hll hsz hn hm hk hS hl hs hsl).mono fun e W' ⟨he, hg⟩ => ?_
  subst he
  exact ⟨_, rfl, post_law laid (by rw [Try.params6]; decide +kernel) rfl rfl (by kernel_rfl) Try.underlying4 hW' hg⟩

/-- THE STATEMENT -/
theorem proved : Rows.TermBelowSaid :=
  OpenClaim.holds_of_wide 6 Try.f6 rfl rfl rfl rfl rfl rfl rfl ⟨rfl, rfl, rfl, rfl, rfl⟩ rfl rfl rfl rfl rfl (by kernel_rfl) Try.func6 (by kernel_rfl)
    (of_decide_eq_true (by kernel_rfl)) (by unfold Func.isWrapper; first | (rw [if_pos (by decide +kernel)]; kernel_rfl) | (rw [if_neg (by decide +kernel)]; exact ⟨rfl, rfl⟩))
    (fun os started H enc _ => lifted os started H enc)
end Go.Proofs.Ytdedlkeeifgajaa.termBelow
