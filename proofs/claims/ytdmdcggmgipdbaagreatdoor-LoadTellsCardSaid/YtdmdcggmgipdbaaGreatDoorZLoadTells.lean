/-
  LoadTells.
-/
import Derived.Test.YtdmdcggmgipdbaaGreatDoorPx
import Derived.Test.YtdmdcggmgipdbaaGreatDoorPy
import Derived.Test.YtdmdcggmgipdbaaGreatDoorRows
import Derived.OpenShut
import Derived.RegionTactic
namespace Go.Proofs.YtdmdcggmgipdbaaGreatDoor.loadTells
open Go.ChangeShapes Go.WideShapes Go.ChangeAt Go.RowKit Kit Rw Ld
open Go.Proofs.YtdmdcggmgipdbaaGreatDoor.Sg (Sig Row Sized)
open Go.Proofs.YtdmdcggmgipdbaaGreatDoor.Hs (Keys Ints BoxT layI)
open Go.Proofs.YtdmdcggmgipdbaaGreatDoor.Ex (cellsS)
theorem same9 (A A' : Option Addr) (c c' : Nat) (l : List Tg) (w : World) (hr : Rds w w.heap.size A (cellsG l)) (hr' : Rds w w.heap.size A' (cellsG l)) (hl : l.length ≤ 1000000) :
    Calls Tryz.prog 15 #[.slice A l.length c, .slice A' l.length c'] w fun e w' => e = .returned (.bool true) ∧ Q w w' := by
  have h := Ex.same7_any A A' l.length c l.length c' l l w rfl rfl hr hr' hl
  rw [(sameB_iff l l).2 rfl] at h
  refine h.mono ?_
  rintro e w' ⟨rfl, n, rfl⟩
  exact ⟨rfl, (Q.refl w).drewN n⟩
set_option maxRecDepth 100000 in
set_option maxHeartbeats 8000000 in
theorem walk (R A S B : Option Addr) (nl cl n c m d nb cb : Nat) (L : List Sig) (ks : List (List Int)) (sl : List Int) (names : List ByteArray) (id : Int) (w : World) (hnl : nl = L.length) (hr : Row w w.heap.size R L) (hll : L.length ≤ maxLen) (hsz : Sized L) (hn : n = ks.length) (hm : m = sl.length) (hk : Keys w w.heap.size A ks) (hS : Ints w w.heap.size S sl)
    (hl : ks.length ≤ 1152921504606846976) (hs : ∀ k ∈ ks, k.length ≤ 1152921504606846976) (hsl : sl.length ≤ 1152921504606846976) (hnb : nb = names.length) (hN : Rds w w.heap.size B (cellsS names)) :
    Calls Tryz.prog 3 #[.agg #[.slice R nl cl, .slice A n c, .slice S m d, .slice B nb cb, .int .i64 id]] w fun e w' => e = .returned (.bool true) ∧ Q w w' := by
  subst hnl hn hm hnb
  have q0 := ((Q.refl w).alloc (Obj.cells #[.slice R L.length cl, .slice A ks.length c, .slice S sl.length d, .slice B names.length cb, .int .i64 id] 29)).alloc (Obj.cells #[.slice A ks.length c, .slice S sl.length d] 26)
  have hT := BoxT.new (w.alloc (Obj.cells #[.slice R L.length cl, .slice A ks.length c, .slice S sl.length d, .slice B names.length cb, .int .i64 id] 29)) (Value.slice A ks.length c) (Value.slice S sl.length d) 26
  rw [show (w.alloc (Obj.cells #[.slice R L.length cl, .slice A ks.length c, .slice S sl.length d, .slice B names.length cb, .int .i64 id] 29)).heap.size = w.heap.size + 1 by simp] at hT
  have HT := Lib.hid hT
  have HR := Lib.hid ((hr.q (Nat.le_refl _) q0).more q0.size)
  have HK := Lib.hid ((hk.q (Nat.le_refl _) q0).more q0.size)
  have HS := Lib.hid ((hS.q (Nat.le_refl _) q0).more q0.size)
  have HN := Lib.hid (hN.q q0)
  have HQ0 := Lib.hid q0
  have HSz := Lib.hid hsz
  have HX := Lib.hid hs
  clear hr hk hS hN q0 hT hsz hs
  go_enter Tryz.func3, Tryz.ntmps3
  go_wp2_with fail
  generalize (w.alloc (Obj.cells #[.slice R L.length cl, .slice A ks.length c, .slice S sl.length d, .slice B names.length cb, .int .i64 id] 29)).alloc (Obj.cells #[.slice A ks.length c, .slice S sl.length d] 26) = W0 at *
  refine (shown9_any _).mono ?_
  rintro e w1 ⟨rfl, q1⟩
  have HQ1 := Lib.hid q1
  clear q1
  by_cases h100 : 100 < names.length
  · have d1 : decide ((100 : Int) < (names.length : Int)) = true := decide_eq_true (by omega)
    go_wp2_with fail
    go_ret
    exact ⟨rfl, HQ0.out.trans HQ1.out⟩
  · have d1 : decide ((100 : Int) < (names.length : Int)) = false := decide_eq_false (by omega)
    have h100' : names.length ≤ 100 := by omega
    clear h100
    go_wp2_with fail
    go_loopw [8] (fun iv wr => ∃ k : Nat, k ≤ names.length ∧ iv = .int .i64 k ∧ Hid (∀ (j : Nat) a, names[j]? = some a → j < k → a.size ≤ 50) ∧ w1 = wr) (fun iv _ => names.length - (intOf iv).toNat)
    case atStart => exact ⟨0, Nat.zero_le _, rfl, Lib.hid (fun j a _ h => absurd h (by omega)), rfl⟩
    case round =>
      obtain ⟨k, hk, rfl, HA, rfl⟩ := hrel
      by_cases hlt : k < names.length
      · obtain ⟨ad, rfl, had, hc0⟩ := (HN.out.q HQ1.out) (by rw [Ex.cellsS_len]; omega)
        have hc := hc0 k _ (Ex.cellsS_at hlt)
        clear hc0
        by_cases h50 : 50 < names[k].size
        · have d5 : decide ((50 : Int) < (names[k].size : Int)) = true := decide_eq_true (by omega)
          generalize names[k] = a at *
          clear h50
          go_wp2_with fail
          go_ret
          exact ⟨rfl, HQ0.out.trans HQ1.out⟩
        · have d5 : decide ((50 : Int) < (names[k].size : Int)) = false := decide_eq_false (by omega)
          have HA2 : Hid (∀ (j : Nat) a, names[j]? = some a → j < k + 1 → a.size ≤ 50) := fun j a hj h => by
            rcases Nat.lt_or_eq_of_le (Nat.le_of_lt_succ h) with h1 | h1
            · exact HA.out j a hj h1
            · subst h1
              rw [List.getElem?_eq_getElem hlt] at hj
              injection hj with hj
              rw [← hj]; omega
          generalize names[k] = a at *
          clear h50
          go_wp2_with fail
          go_roundw
          case rel => exact ⟨k + 1, by omega, by go_num, HA2, by trivial⟩
          case measure => simp [intOf]; omega
      · have hx : ∀ a ∈ names, a.size ≤ 50 := fun a ha => by
          obtain ⟨j, hj, rfl⟩ := List.getElem_of_mem ha
          exact HA.out j _ (List.getElem?_eq_getElem hj) (by omega)
        have CN1 := Lib.hid (named9_any B names.length cb names w1 rfl (HN.out.q HQ1.out) (by omega) hx)
        have CN2 := Lib.hid (fun (W : World) (q : Q w1 W) => refNamed_any B names.length cb names W rfl ((HN.out.q HQ1.out).q q) (by omega))
        have CO := Lib.hid (fun (W : World) (q : Q W0 W) => of9_any R A S B L.length cl ks.length c sl.length d names.length cb L ks sl names W rfl ((HR.out.q (Nat.le_refl _) q).more q.size) rfl rfl ((HK.out.q (Nat.le_refl _) q).more q.size) ((HS.out.q (Nat.le_refl _) q).more q.size) rfl (HN.out.q q) hll HSz.out hl HX.out hsl)
        clear hx HA
        generalize namedB names = nb at *
        go_wp2_with fail
        refine CN1.out.mono ?_
        rintro e w2 ⟨rfl, q2⟩
        have Q2 := Lib.hid q2
        clear q2 CN1
        go_wp2_with fail
        refine (CN2.out _ Q2.out).mono ?_
        rintro e w3 ⟨rfl, q3⟩
        have Q3 := Lib.hid (HQ1.out.trans (Q2.out.trans q3))
        clear q3 Q2 CN2 HQ1
        have b0 := (HT.out.q Q3.out).c0
        have b1 := (HT.out.q Q3.out).c1
        go_wp2_with fail
        refine (CO.out _ Q3.out).mono ?_
        rintro e w4 ⟨rfl, q4⟩
        have Q4 := Lib.hid (Q3.out.trans q4)
        clear q4 b0 b1 CO
        cases hof : of9B L ks sl names
        · clear hof
          go_wp2_with fail
          go_ret
          exact ⟨rfl, HQ0.out.trans Q4.out⟩
        · obtain ⟨hok, rfl⟩ := of9_sto hof
          have hst : Sto W0 R A S B L ks names := ⟨HR.out, HK.out, HS.out, HN.out⟩
          have C1 := Lib.hid (fun (W : World) (q : Q W0 W) => nodes9_any R A S B L.length cl ks.length c (layI ks).length d names.length cb L ks names id 0 W rfl rfl rfl rfl (hst.q q) hok (by omega))
          have C2 := Lib.hid (fun (W : World) (q : Q W0 W) => refNodes_any R A S B L.length cl ks.length c (layI ks).length d names.length cb L ks names id W rfl (hst.q q).row rfl (hst.q q).keys rfl (hst.q q).nms hok.store (by have := hok.klen; omega) (hok.kx (by omega)) hok.l20 hok.n20 hok.l8)
          have C3 := Lib.hid (fun (W : World) (q : Q W0 W) => ltext_any R A S B L.length cl ks.length c (layI ks).length d names.length cb L ks names id 0 W rfl rfl rfl rfl (hst.q q) hok (by omega))
          have C4 := Lib.hid (fun (W : World) (q : Q W0 W) => refText9_any R A S B L.length cl ks.length c (layI ks).length d names.length cb L ks names id W rfl (hst.q q).row rfl (hst.q q).keys rfl (hst.q q).nms hok.store hok.dstL (by have := hok.klen; omega) (hok.kx (by omega)) hok.l20 hok.n20 hok.l8)
          have hV : (nodesV L names ks id).length ≤ 1000000 := by
            unfold nodesV
            split
            · rename_i h0
              obtain ⟨i, ha⟩ := at0 hok.store hok.dstL hok.l20 hok.n20 h0
              rw [ha.id, Int.toNat_natCast]
              have := ha.few
              omega
            · simp
          clear hok hst hof HR HK HS HN
          generalize nodesV L names ks id = V at *
          generalize nodesE L names ks id = E at *
          generalize textV L names ks id = T at *
          have b0 := (HT.out.q Q4.out).c0
          have b1 := (HT.out.q Q4.out).c1
          go_wp2_with fail
          refine (C1.out _ Q4.out).mono ?_
          rintro e w5 ⟨A5, c5, rfl, hr5, q5⟩
          have HR5 := Lib.hid hr5
          have Q5 := Lib.hid (Q4.out.trans q5)
          clear b0 b1 q5 hr5 C1
          have b0 := (HT.out.q Q5.out).c0
          have b1 := (HT.out.q Q5.out).c1
          go_wp2_with fail
          refine (C2.out _ Q5.out).mono ?_
          rintro e w6 ⟨A6, c6, rfl, hr6, q6⟩
          have CS := Lib.hid (fun (W : World) (q : Q w6 W) => same9 A5 A6 c5 c6 V W (HR5.out.q (q6.trans q)) (hr6.q q) hV)
          have Q6 := Lib.hid (Q5.out.trans q6)
          clear b0 b1 q6 hr6 C2
          have b0 := (HT.out.q Q6.out).c0
          have b1 := (HT.out.q Q6.out).c1
          go_wp2_with fail
          refine wp_region_held_drew (S := fun w' => w'.cell? ⟨w.heap.size + 1, 0, none⟩ = some (.slice A ks.length c) ∧ w'.cell? ⟨w.heap.size + 1, 1, none⟩ = some (.slice S (layI ks).length d)) (by kernel_rfl) ?_ (fun hHeld => ?_)
          · exact ⟨(HT.out.q (Q6.out.trans (Q.refl w6).drew)).c0, (HT.out.q (Q6.out.trans (Q.refl w6).drew)).c1⟩
          refine take_w (i := 0) (d := some 66) (v := ?_) rfl (by kernel_rfl) (by kernel_rfl) (by kernel_rfl) (fun _ _ _ h => h) rfl (by rfl) ?_ (by assumption) ?_
          rotate_left
          · (intro w hSw; (try dsimp only at hSw); go_simp; (try with_reducible rfl))
          try simp only [Act.put, List.setIfInBounds_toArray, List.set_cons_zero, List.set_cons_succ]
          refine take_w (i := 1) (d := some 67) (v := ?_) rfl (by kernel_rfl) (by kernel_rfl) (by kernel_rfl) (fun _ _ _ h => h) rfl (by rfl) ?_ (by assumption) ?_
          rotate_left
          · (intro w hSw; (try dsimp only at hSw); go_simp; (try with_reducible rfl))
          try simp only [Act.put, List.setIfInBounds_toArray, List.set_cons_zero, List.set_cons_succ]
          refine take_w (i := 2) (d := some 68) (v := ?_) rfl (by kernel_rfl) (by kernel_rfl) (by kernel_rfl) (fun _ _ _ h => h) rfl (by rfl) ?_ (by assumption) ?_
          rotate_left
          · (intro w hSw; (try dsimp only at hSw); go_simp; (try with_reducible rfl))
          try simp only [Act.put, List.setIfInBounds_toArray, List.set_cons_zero, List.set_cons_succ]
          refine take_w (i := 3) (d := some 69) (v := ?_) rfl (by kernel_rfl) (by kernel_rfl) (by kernel_rfl) (fun _ _ _ h => h) rfl (by rfl) ?_ (by assumption) ?_
          rotate_left
          · (intro w hSw; (try dsimp only at hSw); go_simp; (try with_reducible rfl))
          try simp only [Act.put, List.setIfInBounds_toArray, List.set_cons_zero, List.set_cons_succ]
          refine call_w (i := 4) rfl (by kernel_rfl) (by rfl) (fun K hK => ?_)
          go_simp
          go_at_call 15
          refine (CS.out _ (Q.refl w6).drew).mono ?_
          rintro e w7 ⟨rfl, q7⟩
          have p7 := Lib.hid (Q6.out.trans ((Q.refl w6).drew.trans q7))
          refine hK.out _ _ ?_ (fun hHeld => ?_)
          · exact ⟨(HT.out.q p7.out).c0, (HT.out.q p7.out).c1⟩
          clear hK K
          try simp only [Act.put, List.setIfInBounds_toArray, List.set_cons_zero, List.set_cons_succ]
          refine take_w (i := 5) (d := some 71) (v := ?_) rfl (by kernel_rfl) (by kernel_rfl) (by kernel_rfl) (fun _ _ _ h => h) rfl (by rfl) ?_ (by assumption) ?_
          rotate_left
          · (intro w hSw; (try dsimp only at hSw); go_simp; (try with_reducible rfl))
          try simp only [Act.put, List.setIfInBounds_toArray, List.set_cons_zero, List.set_cons_succ]
          refine take_w (i := 6) (d := some 72) (v := ?_) rfl (by kernel_rfl) (by kernel_rfl) (by kernel_rfl) (fun _ _ _ h => h) rfl (by rfl) ?_ (by assumption) ?_
          rotate_left
          · (intro w hSw; (try dsimp only at hSw); go_simp; (try with_reducible rfl))
          try simp only [Act.put, List.setIfInBounds_toArray, List.set_cons_zero, List.set_cons_succ]
          refine take_w (i := 7) (d := some 73) (v := ?_) rfl (by kernel_rfl) (by kernel_rfl) (by kernel_rfl) (fun _ _ _ h => h) rfl (by rfl) ?_ (by assumption) ?_
          rotate_left
          · (intro w hSw; (try dsimp only at hSw); go_simp; (try with_reducible rfl))
          try simp only [Act.put, List.setIfInBounds_toArray, List.set_cons_zero, List.set_cons_succ]
          refine take_w (i := 8) (d := some 74) (v := ?_) rfl (by kernel_rfl) (by kernel_rfl) (by kernel_rfl) (fun _ _ _ h => h) rfl (by rfl) ?_ (by assumption) ?_
          rotate_left
          · (intro w hSw; (try dsimp only at hSw); go_simp; (try with_reducible rfl))
          try simp only [Act.put, List.setIfInBounds_toArray, List.set_cons_zero, List.set_cons_succ]
          refine take_w (i := 9) (d := some 75) (v := ?_) rfl (by kernel_rfl) (by kernel_rfl) (by kernel_rfl) (fun _ _ _ h => h) rfl (by rfl) ?_ (by assumption) ?_
          rotate_left
          · (intro w hSw; (try dsimp only at hSw); go_simp; (try with_reducible rfl))
          try simp only [Act.put, List.setIfInBounds_toArray, List.set_cons_zero, List.set_cons_succ]
          refine take_w (i := 10) (d := some 76) (v := ?_) rfl (by kernel_rfl) (by kernel_rfl) (by kernel_rfl) (fun _ _ _ h => h) rfl (by rfl) ?_ (by assumption) ?_
          rotate_left
          · (intro w hSw; (try dsimp only at hSw); go_simp; (try with_reducible rfl))
          try simp only [Act.put, List.setIfInBounds_toArray, List.set_cons_zero, List.set_cons_succ]
          refine take_w (i := 11) (d := some 77) (v := ?_) rfl (by kernel_rfl) (by kernel_rfl) (by kernel_rfl) (fun _ _ _ h => h) rfl (by rfl) ?_ (by assumption) ?_
          rotate_left
          · (intro w hSw; (try dsimp only at hSw); go_simp; (try with_reducible rfl))
          try simp only [Act.put, List.setIfInBounds_toArray, List.set_cons_zero, List.set_cons_succ]
          refine take_w (i := 12) (d := some 78) (v := ?_) rfl (by kernel_rfl) (by kernel_rfl) (by kernel_rfl) (fun _ _ _ h => h) rfl (by rfl) ?_ (by assumption) ?_
          rotate_left
          · (intro w hSw; (try dsimp only at hSw); go_simp; (try with_reducible rfl))
          try simp only [Act.put, List.setIfInBounds_toArray, List.set_cons_zero, List.set_cons_succ]
          refine take_w (i := 13) (d := some 79) (v := ?_) rfl (by kernel_rfl) (by kernel_rfl) (by kernel_rfl) (fun _ _ _ h => h) rfl (by rfl) ?_ (by assumption) ?_
          rotate_left
          · (intro w hSw; (try dsimp only at hSw); go_simp; (try with_reducible rfl))
          try simp only [Act.put, List.setIfInBounds_toArray, List.set_cons_zero, List.set_cons_succ]
          refine take_w (i := 14) (d := some 80) (v := ?_) rfl (by kernel_rfl) (by kernel_rfl) (by kernel_rfl) (fun _ _ _ h => h) rfl (by rfl) ?_ (by assumption) ?_
          rotate_left
          · (intro w hSw; (try dsimp only at hSw); go_simp; (try with_reducible rfl))
          try simp only [Act.put, List.setIfInBounds_toArray, List.set_cons_zero, List.set_cons_succ]
          refine take_w (i := 15) (d := some 81) (v := ?_) rfl (by kernel_rfl) (by kernel_rfl) (by kernel_rfl) (fun _ _ _ h => h) rfl (by rfl) ?_ (by assumption) ?_
          rotate_left
          · (intro w hSw; (try dsimp only at hSw); go_simp; (try with_reducible rfl))
          try simp only [Act.put, List.setIfInBounds_toArray, List.set_cons_zero, List.set_cons_succ]
          refine take_w (i := 17) (d := some 83) (v := ?_) rfl (by kernel_rfl) (by kernel_rfl) (by kernel_rfl) (fun _ _ _ h => h) rfl (by rfl) ?_ (by assumption) ?_
          rotate_left
          · (intro w hSw; (try dsimp only at hSw); go_simp; (try with_reducible rfl))
          try simp only [Act.put, List.setIfInBounds_toArray, List.set_cons_zero, List.set_cons_succ]
          refine take_w (i := 18) (d := some 84) (v := ?_) rfl (by kernel_rfl) (by kernel_rfl) (by kernel_rfl) (fun _ _ _ h => h) rfl (by rfl) ?_ (by assumption) ?_
          rotate_left
          · (intro w hSw; (try dsimp only at hSw); go_simp; (try with_reducible rfl))
          try simp only [Act.put, List.setIfInBounds_toArray, List.set_cons_zero, List.set_cons_succ]
          refine take_w (i := 19) (d := some 85) (v := ?_) rfl (by kernel_rfl) (by kernel_rfl) (by kernel_rfl) (fun _ _ _ h => h) rfl (by rfl) ?_ (by assumption) ?_
          rotate_left
          · (intro w hSw; (try dsimp only at hSw); go_simp; (try with_reducible rfl))
          try simp only [Act.put, List.setIfInBounds_toArray, List.set_cons_zero, List.set_cons_succ]
          refine take_w (i := 20) (d := some 86) (v := ?_) rfl (by kernel_rfl) (by kernel_rfl) (by kernel_rfl) (fun _ _ _ h => h) rfl (by rfl) ?_ (by assumption) ?_
          rotate_left
          · (intro w hSw; (try dsimp only at hSw); go_simp; (try with_reducible rfl))
          try simp only [Act.put, List.setIfInBounds_toArray, List.set_cons_zero, List.set_cons_succ]
          refine call_w (i := 16) rfl (by kernel_rfl) (by rfl) (fun K hK => ?_)
          go_simp
          go_at_call 16
          refine (C3.out _ p7.out).mono ?_
          rintro e w8 ⟨rfl, q8⟩
          have p8 := Lib.hid (p7.out.trans q8)
          refine hK.out _ _ ?_ (fun hHeld => ?_)
          · exact ⟨(HT.out.q p8.out).c0, (HT.out.q p8.out).c1⟩
          clear hK K
          try simp only [Act.put, List.setIfInBounds_toArray, List.set_cons_zero, List.set_cons_succ]
          refine call_w (i := 21) rfl (by kernel_rfl) (by rfl) (fun K hK => ?_)
          go_simp
          go_at_call 17
          refine (C4.out _ p8.out).mono ?_
          rintro e w9 ⟨rfl, q9⟩
          have p9 := Lib.hid (p8.out.trans q9)
          refine hK.out _ _ ?_ (fun hHeld => ?_)
          · exact ⟨(HT.out.q p9.out).c0, (HT.out.q p9.out).c1⟩
          clear hK K
          try simp only [Act.put, List.setIfInBounds_toArray, List.set_cons_zero, List.set_cons_succ]
          refine take_w (i := 22) (d := some 88) (v := ?_) rfl (by kernel_rfl) (by kernel_rfl) (by kernel_rfl) (fun _ _ _ h => h) rfl (by rfl) ?_ (by assumption) ?_
          rotate_left
          · (intro w hSw; (try dsimp only at hSw); go_simp; (try with_reducible rfl))
          try simp only [Act.put, List.setIfInBounds_toArray, List.set_cons_zero, List.set_cons_succ]
          refine take_w (i := 23) (d := some 89) (v := ?_) rfl (by kernel_rfl) (by kernel_rfl) (by kernel_rfl) (fun _ _ _ h => h) rfl (by rfl) ?_ (by assumption) ?_
          rotate_left
          · (intro w hSw; (try dsimp only at hSw); go_simp; (try with_reducible rfl))
          try simp only [Act.put, List.setIfInBounds_toArray, List.set_cons_zero, List.set_cons_succ]
          refine take_w (i := 24) (d := some 2) (v := ?_) rfl (by kernel_rfl) (by kernel_rfl) (by kernel_rfl) (fun _ _ _ h => h) rfl (by rfl) ?_ (by assumption) ?_
          rotate_left
          · (intro w hSw; (try dsimp only at hSw); go_simp; (try with_reducible rfl))
          try simp only [Act.put, List.setIfInBounds_toArray, List.set_cons_zero, List.set_cons_succ]
          refine wpAnyH_done (by kernel_rfl) ?_ _
          go_wp2_with fail
          go_ret
          exact ⟨by first | rfl | simp, HQ0.out.trans p9.out⟩
theorem reads (os : Os) {H : Type} (enc : TypeId × Value → H) : ∃ places, DataW.whole enc Tryz.prog ((laidWorld os).forCall (fun _ _ => 0) ⟨#[], #[.agg #[.slice none 0 0, .slice none 0 0, .slice none 0 0, .slice none 0 0, .int .i64 0]], []⟩).memory Tryz.f3.params.toList Rows.loadTellsSpec.vars false (#[.agg #[.slice none 0 0, .slice none 0 0, .slice none 0 0, .slice none 0 0, .int .i64 0]] : Array Value).toList 8 = some ([.agg [.nil, .agg [.nil, .nil], .nil, .lit (.int .i64 0)]], [], places) :=
  ⟨[], by kernel_rfl⟩

set_option maxRecDepth 100000 in
theorem contract (H : Type) (enc : TypeId × Value → H) (W : World) (base : Nat) (args : Array Value) (ds gs : List (DataW H)) (before : List MemPlace)
    (hval : ∀ (j : Nat) t v, Tryz.f3.params[j]? = some t → args[j]? = some v → Value.okWide Tryz.prog W .any base t v)
    (hW : DataW.Whole enc Tryz.prog Tryz.f3.params.toList Rows.loadTellsSpec.vars false W args.toList ds gs before)
    (hsz0 : (DataW.weightsEach Tryz.prog (Tryz.f3.params.toList ++ Rows.loadTellsSpec.plain.varTypes Tryz.prog) (ds ++ gs)).all (· ≤ reachBytes) = true) :
    Calls Tryz.prog 3 args W fun e W' => ∃ v, e = .returned v ∧ Rows.loadTellsSpec.post enc Tryz.prog Tryz.f3 false true false false W args v W' := by
  have hW' := hW
  obtain ⟨p, q, hA0, hV, rfl, hfz, hnd⟩ := hW
  have hA : DataW.TrodAll enc Tryz.prog W 0 (fun _ => true) true Tryz.f3.params.toList args.toList ds p := hA0
  rw [Tryz.params3] at hA hval
  obtain ⟨v0, vs0, d0, ds0, p0, q0, hargs, rfl, rfl, h0, r0⟩ := trodAll_cons hA
  obtain ⟨rfl, rfl, rfl⟩ := trodAll_nil r0
  obtain rfl : args = #[v0] := by cases args; simp_all
  obtain ⟨rfl, rfl⟩ := trodVars_none hV
  have z0 : ∀ n ∈ d0.weights Tryz.prog 29, n ≤ reachBytes := fun n hn => by
    have := List.all_eq_true.1 hsz0 n (DataW.weights_mem_each (j := 0) (t := 29) (d := d0) (by rw [Tryz.params3]; rfl) rfl n hn)
    simpa using this
  clear hsz0
  obtain ⟨R, nl, cl, L, A, n, c, S, m, d, ks, sl, B, nb, cb, names, x0, rfl, a1, a2, a3, a4, b1, b2, b3, b4, b5, b6, b7, e1, e2⟩ := Ex.open_LoadTellsIn (hval 0 29 v0 rfl rfl) h0 z0
  clear hA0
  refine (walk R A S B nl cl n c m d nb cb L ks sl names x0 W a1 a2 a3 a4 b1 b2 b3 b4 b5 b6 b7 e1 e2).mono fun e W' ⟨he, hg⟩ => ?_
  subst he
  exact ⟨_, rfl, post_law laid (by rw [Tryz.params3]; decide +kernel) rfl rfl (by kernel_rfl) Tryz.underlying4 hW' hg⟩

set_option maxRecDepth 100000 in
theorem lifted (os : Os) (started : os.Started) (H : Type) (enc : TypeId × Value → H) (F : Stop.Interp) :
    ReturnsInHanded {} Tryz.checked os 3 .any ((OpenSpec.ofChange Rows.loadTellsSpec).preRow enc Tryz.prog Tryz.f3 Rows.loadTellsRow.domain false Rows.loadTellsRow.laid) (((OpenSpec.ofChange Rows.loadTellsSpec).at F).post enc Tryz.prog Tryz.f3 false true false false) := by
  obtain ⟨places, hx⟩ := reads os enc
  refine returnsInHanded_of_row (C := Tryz.checked) (s := OpenSpec.ofChange Rows.loadTellsSpec) own started (by kernel_rfl) Tryz.func3
    (witness_row_at (enc := enc) (C := Tryz.checked) false (laidWorld os) #[.agg #[.slice none 0 0, .slice none 0 0, .slice none 0 0, .slice none 0 0, .int .i64 0]] rfl (laid_vars os _) (by kernel_rfl) (by kernel_rfl)
      (OpenSpec.preRow_of_cond 8 hx (by kernel_rfl) (fun k hk => by cases hk) (by kernel_rfl) (laid_met os _))) ?_
  intro W base args ds gs before hval hW _ _ hsz _ _ _
  exact contract H enc W base args ds gs before hval hW hsz

theorem said : Rows.LoadTellsSaid :=
  OpenClaim.holds_of_cond 3 Tryz.f3 rfl rfl rfl rfl rfl rfl rfl ⟨rfl, rfl, rfl, rfl, rfl⟩ rfl rfl rfl rfl rfl (by kernel_rfl) Tryz.func3 (by kernel_rfl)
    (of_decide_eq_true (by kernel_rfl)) (by unfold Func.isWrapper; first | (rw [if_pos (by decide +kernel)]; kernel_rfl) | (rw [if_neg (by decide +kernel)]; exact ⟨rfl, rfl⟩))
    (fun os started H enc _ F => by rw [OpenClaim.pre_eq_preRow]; exact lifted os started H enc F)

theorem plain (f : FuncId) (fn : Func) (hf : Tryz.pinned.checked.prog.funcNamed "tammy/tammylaw09.LoadTells" = some f) (hfn : Tryz.pinned.checked.prog.funcs[f]? = some fn) :
    false = Tryz.pinned.checked.prog.looks [] ∧ ∀ (j : Nat) t, fn.params[j]? = some t → Tryz.pinned.checked.prog.wantsStandIn t = false := by
  obtain rfl : f = 3 := Option.some.inj ((show Tryz.prog.funcNamed "tammy/tammylaw09.LoadTells" = some 3 by kernel_rfl).symm.trans hf) |>.symm
  obtain rfl : fn = Tryz.f3 := (Option.some.inj (Tryz.func3.symm.trans hfn)).symm
  refine ⟨by kernel_rfl, fun j t ht => ?_⟩
  rw [Tryz.params3] at ht
  have hm := Array.mem_of_getElem? ht
  simp only [List.mem_toArray, List.mem_cons, List.not_mem_nil, or_false] at hm
  rcases hm with rfl
  · exact (show Tryz.prog.wantsStandIn 29 = false by kernel_rfl)

/-- THE STATEMENT: the tied card -/
theorem card : Rows.LoadTellsCardSaid :=
  Claim7.holds_tied_plain_at .later [] _ _ _ _ said (fun _ h => by cases h) (by kernel_rfl) (fun _ h => by cases h) loadTells_row_tie rfl ⟨rfl, rfl⟩ (by kernel_rfl) rfl plain (by kernel_rfl)
end Go.Proofs.YtdmdcggmgipdbaaGreatDoor.loadTells
