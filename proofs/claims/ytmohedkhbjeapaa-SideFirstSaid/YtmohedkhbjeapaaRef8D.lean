/-
  Contracts of the document's Turn, vary.
-/
import Derived.Test.YtmohedkhbjeapaaRef8C
namespace Go.Proofs.Ytmohedkhbjeapaa.Ex
open Go.RowKit Kit Rw
open Go.Proofs.Ytmohedkhbjeapaa.Sg (Sig findI Row refFind_any)

theorem np_leaf {t : Tg} (hm : mayN t = true) (hk : t.1 = 0 ∨ t.1 = 1 ∨ t.1 = 2) : np t = 0 := by
  unfold np partsN
  unfold mayN at hm
  rw [if_neg (by omega)]
  by_cases h1 : t.1 = 0 ∨ t.1 = 1
  · rw [if_pos h1] at hm
    simp only [Bool.and_eq_true, beq_iff_eq] at hm
    omega
  · rw [if_neg h1, if_pos (by omega)] at hm
    simp only [Bool.and_eq_true, beq_iff_eq] at hm
    omega
theorem byte_is (v : UInt8) (k : Nat) (hk : k < 256) : ((v.toNat : Int) == (k : Int)) = decide (v = UInt8.ofNat k) := by
  rw [Bool.eq_iff_iff]
  simp only [beq_iff_eq, decide_eq_true_eq]
  constructor
  · intro h
    apply UInt8.toNat.inj
    rw [UInt8.toNat_ofNat']
    omega
  · rintro rfl
    rw [UInt8.toNat_ofNat']
    omega
set_option maxHeartbeats 1000000 in
theorem turn_any (s v : UInt8) (w : World) :
    Calls Try.prog 32 #[.int .u8 (s.toNat : Int), .int .u8 (v.toNat : Int)] w fun e w' => e = .returned (.int .u8 ((turnB s v).toNat : Int)) ∧ Q w w' := by
  have e43 : ((v.toNat : Int) == 43) = decide (v = 43) := byte_is v 43 (by decide)
  have e45 : ((v.toNat : Int) == 45) = decide (v = 45) := byte_is v 45 (by decide)
  have e76 : ((s.toNat : Int) == 76) = decide (s = 76) := byte_is s 76 (by decide)
  have e82 : ((s.toNat : Int) == 82) = decide (s = 82) := byte_is s 82 (by decide)
  have HT : Hid (turnB s v = if v = 43 then s else if v = 45 ∧ s = 76 then 82 else if v = 45 ∧ s = 82 then 76 else 66) := rfl
  by_cases h1 : v = 43
  · rw [decide_eq_true h1] at e43
    rw [if_pos h1] at HT
    clear e45 e76 e82 h1
    generalize (v.toNat : Int) = vv at *
    generalize hsx : (s.toNat : Int) = ss at *
    have HS := Lib.hid hsx
    clear hsx
    go_enter Try.func32, Try.ntmps32
    go_wp2_with fail
    go_ret
    exact ⟨by rw [HT.out, HS.out]; rfl, Q.refl _⟩
  · rw [decide_eq_false h1] at e43
    rw [if_neg h1] at HT
    clear h1
    by_cases h2 : v = 45
    · rw [decide_eq_true h2] at e45
      by_cases h3 : s = 76
      · rw [decide_eq_true h3] at e76
        rw [if_pos ⟨h2, h3⟩] at HT
        clear h2 h3 e82
        generalize (v.toNat : Int) = vv at *
        generalize (s.toNat : Int) = ss at *
        go_enter Try.func32, Try.ntmps32
        go_wp2_with fail
        go_ret
        exact ⟨by rw [HT.out]; rfl, Q.refl _⟩
      · rw [decide_eq_false h3] at e76
        rw [if_neg (fun h => h3 h.2)] at HT
        by_cases h4 : s = 82
        · rw [decide_eq_true h4] at e82
          rw [if_pos ⟨h2, h4⟩] at HT
          clear h2 h3 h4
          generalize (v.toNat : Int) = vv at *
          generalize (s.toNat : Int) = ss at *
          go_enter Try.func32, Try.ntmps32
          go_wp2_with fail
          go_ret
          exact ⟨by rw [HT.out]; rfl, Q.refl _⟩
        · rw [decide_eq_false h4] at e82
          rw [if_neg (fun h => h4 h.2)] at HT
          clear h2 h3 h4
          generalize (v.toNat : Int) = vv at *
          generalize (s.toNat : Int) = ss at *
          go_enter Try.func32, Try.ntmps32
          go_wp2_with fail
          go_ret
          exact ⟨by rw [HT.out]; rfl, Q.refl _⟩
    · rw [decide_eq_false h2] at e45
      rw [if_neg (fun h => h2 h.1), if_neg (fun h => h2 h.1)] at HT
      clear h2 e76 e82
      generalize (v.toNat : Int) = vv at *
      generalize (s.toNat : Int) = ss at *
      go_enter Try.func32, Try.ntmps32
      go_wp2_with fail
      go_ret
      exact ⟨by rw [HT.out]; rfl, Q.refl _⟩

set_option maxRecDepth 100000 in
set_option maxHeartbeats 4000000 in
theorem vary_any (A : Option Addr) (m c : Nat) (L : List Sig) (n : Tg) (k : Nat) (w : World) (hm : m = L.length) (hr : Row w w.heap.size A L) (hl : L.length ≤ 1000) (hmay : mayN n = true) (hk : k < np n) :
    Calls Try.prog 33 #[.slice A m c, .agg #[.int .i64 n.1, .string n.2.1, .int .i64 n.2.2], .int .i64 (k : Int)] w fun e w' => e = .returned (.int .u8 ((varyB L n k).toNat : Int)) ∧ Q w w' := by
  subst hm
  have hq := (Q.refl w).alloc (Obj.cells #[.int .i64 n.1, .string n.2.1, .int .i64 n.2.2] 38)
  have HO := Lib.hid (own_new8 w [.int .i64 n.1, .string n.2.1, .int .i64 n.2.2] 38)
  have x0 := (HO.out.2 0 _ rfl).1
  have x1 := (HO.out.2 1 _ rfl).1
  have x2 := (HO.out.2 2 _ rfl).1
  have hr1 := (hr.q (Nat.le_refl _) hq).more hq.size
  have CF := Lib.hid (fun W (h : Row W W.heap.size A L) => refFind_any A L.length c L n.2.1 W rfl h (by unfold maxLen; omega))
  have CK := Lib.hid (known_any A L.length c L n _ rfl hr1 hl)
  have HR := Lib.hid hr1
  have HQ := Lib.hid hq
  clear hr hq
  by_cases h45 : n.1 = 4 ∨ n.1 = 5
  · have HV : Hid (varyB L n k = 43) := by unfold Hid varyB; rw [if_pos h45]
    clear CF CK hr1
    rcases h45 with h | h
    · rw [h] at x0 ⊢
      clear h
      go_enter Try.func33, Try.ntmps33
      go_wp2_with fail
      go_ret
      exact ⟨by rw [HV.out]; rfl, (Q.refl w).alloc _⟩
    · rw [h] at x0 ⊢
      clear h
      go_enter Try.func33, Try.ntmps33
      go_wp2_with fail
      go_ret
      exact ⟨by rw [HV.out]; rfl, (Q.refl w).alloc _⟩
  · have e4 : (n.1 == 4) = false := beq_eq_false_iff_ne.2 fun h => h45 (.inl h)
    have e5 : (n.1 == 5) = false := beq_eq_false_iff_ne.2 fun h => h45 (.inr h)
    cases hkn : knownB L n
    · have HV : Hid (varyB L n k = 61) := by unfold Hid varyB; rw [if_neg h45, hkn, if_pos rfl]
      rw [hkn] at CK
      clear CF hr1 h45 hkn hmay hk
      generalize n.1 = kd at *
      go_enter Try.func33, Try.ntmps33
      go_wp2_with (go_at_call 24; refine CK.out.mono ?_; rintro e w1 ⟨rfl, q1⟩; have HQ1 := Lib.hid (HQ.out.trans q1))
      go_ret
      exact ⟨by rw [HV.out]; rfl, HQ1.out⟩
    · rw [hkn] at CK
      rcases findI_cases n.2.1 L 0 with hf | ⟨j, hj, hf, _⟩
      · rw [known_no hf] at hkn; cases hkn
      rw [Nat.zero_add] at hf
      obtain ⟨hka, ha⟩ := known_at hj hf
      rw [hf] at CF
      by_cases h6 : n.1 = 6
      · obtain ⟨_, f, hfe, f1, f8⟩ := np_proj hmay h6
        obtain ⟨f', rfl⟩ : ∃ f', f = f' + 1 := ⟨f - 1, by omega⟩
        rw [if_neg (by omega), hkn, hfe] at hka
        have hsz : f' < L[j].2.size := by have := of_decide_eq_true hka.symm; omega
        have HV : Hid (varyB L n k = L[j].2[f']) := by
          unfold Hid varyB
          rw [if_neg h45, hkn, if_neg (by simp), if_pos h6, ha, hfe]
          have e : (((f' + 1 : Nat) : Int) - 1).toNat = f' := by omega
          rw [e, List.getElem?_eq_getElem (by simpa using hsz)]
          rfl
        have hN1 : n.2.2 - 1 = (f' : Int) := by omega
        clear hfe
        have hr1' := HR.out
        obtain ⟨ad, rfl, hb, a0, a1⟩ := hr1'.at_ hj
        have e6 : (n.1 == 6) = true := beq_iff_eq.2 h6
        have HA1 : Hid (∀ W, Q (w.alloc (Obj.cells #[.int .i64 n.1, .string n.2.1, .int .i64 n.2.2] 38)) W → W.cell? ⟨(ad.add (j * 2)).block, (ad.add (j * 2)).off + 1, none⟩ = some (.string L[j].2)) := fun W q => (q.cell (p := ⟨(ad.add (j * 2)).block, (ad.add (j * 2)).off + 1, none⟩) (by show (ad.add (j * 2)).block < _; rw [add_block]; exact hb)).trans a1
        have d0 : decide ((j : Int) < (L.length : Int)) = true := decide_eq_true (by omega)
        clear hr1 h45 hkn hmay hf hka ha a0 a1 x0 x1 x2 h6
        generalize n.1 = kd at *
        go_enter Try.func33, Try.ntmps33
        go_wp2_with (first
          | (go_at_call 24; refine CK.out.mono ?_; rintro e w1 ⟨rfl, q1⟩; have HQ1 := Lib.hid (HQ.out.trans q1); have HR1 := Lib.hid ((HR.out.q (Nat.le_refl _) q1).more q1.size); have a1 := HA1.out _ q1; have x0 := ((HO.out.q q1).2 0 _ rfl).1; have x1 := ((HO.out.q q1).2 1 _ rfl).1; have x2 := ((HO.out.q q1).2 2 _ rfl).1)
          | (go_at_call 25; refine (CF.out _ HR1.out).mono ?_; rintro e w2 ⟨rfl, rfl⟩))
        go_ret
        exact ⟨by rw [HV.out]; rfl, HQ1.out⟩
      · have h36 : n.1 = 3 ∨ n.1 = 6 := by
          rcases may_kinds hmay with h | h | h | h | h | h | h
          · rw [np_leaf hmay (.inl h)] at hk; omega
          · rw [np_leaf hmay (.inr (.inl h))] at hk; omega
          · rw [np_leaf hmay (.inr (.inr h))] at hk; omega
          · exact .inl h
          · exact absurd (.inl h) h45
          · exact absurd (.inr h) h45
          · exact .inr h
        have h3 : n.1 = 3 := h36.resolve_right h6
        rw [if_pos h3, hkn] at hka
        have hNk : (k : Int) < n.2.2 := by
          have := (parts_nat hmay).1
          unfold partsN at this
          rw [if_neg h6] at this
          omega
        have hsz : k < L[j].2.size := by have := of_decide_eq_true hka.symm; omega
        have HV : Hid (varyB L n k = L[j].2[k]) := by
          unfold Hid varyB
          rw [if_neg h45, hkn, if_neg (by simp), if_neg h6, ha, List.getElem?_eq_getElem (by simpa using hsz)]
          rfl
        have hr1' := HR.out
        obtain ⟨ad, rfl, hb, a0, a1⟩ := hr1'.at_ hj
        have e6 : (n.1 == 6) = false := beq_eq_false_iff_ne.2 h6
        have HA1 : Hid (∀ W, Q (w.alloc (Obj.cells #[.int .i64 n.1, .string n.2.1, .int .i64 n.2.2] 38)) W → W.cell? ⟨(ad.add (j * 2)).block, (ad.add (j * 2)).off + 1, none⟩ = some (.string L[j].2)) := fun W q => (q.cell (p := ⟨(ad.add (j * 2)).block, (ad.add (j * 2)).off + 1, none⟩) (by show (ad.add (j * 2)).block < _; rw [add_block]; exact hb)).trans a1
        have d0 : decide ((j : Int) < (L.length : Int)) = true := decide_eq_true (by omega)
        clear hr1 h45 hkn hmay hf hka ha a0 a1 x0 x1 x2 h6 h3 h36
        generalize n.1 = kd at *
        go_enter Try.func33, Try.ntmps33
        go_wp2_with (first
          | (go_at_call 24; refine CK.out.mono ?_; rintro e w1 ⟨rfl, q1⟩; have HQ1 := Lib.hid (HQ.out.trans q1); have HR1 := Lib.hid ((HR.out.q (Nat.le_refl _) q1).more q1.size); have a1 := HA1.out _ q1; have x0 := ((HO.out.q q1).2 0 _ rfl).1; have x1 := ((HO.out.q q1).2 1 _ rfl).1; have x2 := ((HO.out.q q1).2 2 _ rfl).1)
          | (go_at_call 25; refine (CF.out _ HR1.out).mono ?_; rintro e w2 ⟨rfl, rfl⟩))
        go_ret
        exact ⟨by rw [HV.out]; rfl, HQ1.out⟩
end Go.Proofs.Ytmohedkhbjeapaa.Ex
