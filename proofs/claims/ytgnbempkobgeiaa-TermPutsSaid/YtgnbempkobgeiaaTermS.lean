/-
  Which tables are stores; contract of the document's Right.
-/
import Derived.Test.YtgnbempkobgeiaaTermQ
namespace Go.Proofs.Ytgnbempkobgeiaa.Tm
open Go.RowKit Kit Hs

def keyOk (l : List Sg.Sig) (key : List Int) (i : Nat) : Bool := decide (3 ≤ key.length) && mayB l i (ofKey key) && !(decide (i < 2) && ((ofKey key).k != (i : Int)))
def stF (l : List Sg.Sig) : List (List Int) → Nat → Bool
  | [], _ => true
  | k :: r, i => keyOk l k i && stF l r (i + 1)
def storeB (l : List Sg.Sig) (ks : List (List Int)) (sl : List Int) : Bool := rightB ks sl && decide (2 ≤ ks.length) && stF l ks 0
theorem stF_at (l : List Sg.Sig) (ks : List (List Int)) (i : Nat) (h : i < ks.length) : stF l (ks.drop i) i = (keyOk l ks[i] i && stF l (ks.drop (i + 1)) (i + 1)) := by
  rw [List.drop_eq_getElem_cons h]; rfl
theorem stF_end (l : List Sg.Sig) (ks : List (List Int)) (i : Nat) (h : ks.length ≤ i) : stF l (ks.drop i) i = true := by
  rw [List.drop_eq_nil_of_le h]; rfl
theorem stF_get {l : List Sg.Sig} : ∀ {ks : List (List Int)} {j : Nat}, stF l ks j = true → ∀ (i : Nat) (key : List Int), ks[i]? = some key → keyOk l key (j + i) = true
  | [], _, _, i, key, h => by simp at h
  | k :: r, j, h, i, key, hk => by
    simp only [stF, Bool.and_eq_true] at h
    cases i with
    | zero => obtain rfl : k = key := by simpa using hk
              exact h.1
    | succ i => have := stF_get h.2 i key (by simpa using hk)
                rwa [show j + 1 + i = j + (i + 1) by omega] at this
theorem stF_of {l : List Sg.Sig} : ∀ {ks : List (List Int)} {j : Nat}, (∀ (i : Nat) (key : List Int), ks[i]? = some key → keyOk l key (j + i) = true) → stF l ks j = true
  | [], _, _ => rfl
  | k :: r, j, h => by
    simp only [stF, Bool.and_eq_true]
    refine ⟨h 0 k rfl, stF_of fun i key hk => ?_⟩
    have := h (i + 1) key (by simpa using hk)
    rwa [show j + (i + 1) = j + 1 + i by omega] at this
/-- a store -/
structure Store (l : List Sg.Sig) (ks : List (List Int)) : Prop where
  dist : Dist ks
  two : 2 ≤ ks.length
  ok : ∀ (i : Nat) (key : List Int), ks[i]? = some key → keyOk l key i = true
theorem store_iff (l : List Sg.Sig) (ks : List (List Int)) (sl : List Int) : storeB l ks sl = true ↔ Store l ks ∧ sl = layI ks := by
  unfold storeB
  rw [Bool.and_eq_true, Bool.and_eq_true, decide_eq_true_eq, right_iff]
  constructor
  · rintro ⟨⟨⟨h1, h2⟩, h3⟩, h4⟩
    exact ⟨⟨h1, h3, fun i key hk => by have := stF_get h4 i key hk; rwa [Nat.zero_add] at this⟩, h2⟩
  · rintro ⟨⟨h1, h3, h4⟩, h2⟩
    exact ⟨⟨⟨h1, h2⟩, h3⟩, stF_of fun i key hk => by rw [Nat.zero_add]; exact h4 i key hk⟩
theorem ofKey_at {key : List Int} (h3 : 3 ≤ key.length) : ofKey key = ⟨key[0], key[1], key[2], key.drop 3⟩ := by
  have h0 : 0 < key.length := by omega
  have h1 : 1 < key.length := by omega
  have h2 : 2 < key.length := by omega
  simp [ofKey, h0, h1, h2]

set_option maxRecDepth 100000 in
set_option maxHeartbeats 2000000 in
theorem refRight3_any (L A S : Option Addr) (nl cl n c m d : Nat) (l : List Sg.Sig) (ks : List (List Int)) (sl : List Int) (w : World) (hnl : nl = l.length) (hr : Sg.Row w w.heap.size L l) (hn : n = ks.length) (hm : m = sl.length) (hk : Keys w w.heap.size A ks) (hS : Ints w w.heap.size S sl)
    (hs : ∀ k ∈ ks, k.length ≤ maxLen) (hl : ks.length ≤ 5000) (hsl : sl.length ≤ maxLen) :
    Calls Try.prog 19 #[.slice L nl cl, .agg #[.slice A n c, .slice S m d]] w fun e w' => e = .returned (.bool (storeB l ks sl)) ∧ Q w w' := by
  subst hnl
  subst hn
  subst hm
  have q0 := (Q.refl w).alloc (Obj.cells #[Value.slice A ks.length c, Value.slice S sl.length d] 26)
  have Hr := Lib.hid ((hr.q (Nat.le_refl _) q0).more q0.size)
  have Hk := Lib.hid ((hk.q (Nat.le_refl _) q0).more q0.size)
  have HS := Lib.hid ((hS.q (Nat.le_refl _) q0).more q0.size)
  have HB := Lib.hid (BoxT.new w (Value.slice A ks.length c) (Value.slice S sl.length d) 26)
  have HsM := Lib.hid hs
  have HD : Hid (storeB l ks sl = (rightB ks sl && decide (2 ≤ ks.length) && stF l ks 0)) := rfl
  clear hr hk hS hs
  go_enter Try.func19, Try.ntmps19
  go_wp2_with fail
  generalize w.alloc (Obj.cells #[Value.slice A ks.length c, Value.slice S sl.length d] 26) = W0 at *
  refine (refRight_any _ _ _ _ _ _ ks sl _ rfl rfl Hk.out HS.out HsM.out hl hsl).mono ?_
  rintro e w1 ⟨rfl, q1⟩
  have HB1 := Lib.hid (HB.out.q q1)
  have b0 := HB1.out.c0
  cases hR : rightB ks sl
  · rw [hR] at HD
    go_wp2_with fail
    go_ret
    exact ⟨by rw [HD.out]; rfl, q0.trans q1⟩
  · rw [hR] at HD
    by_cases h2 : 2 ≤ ks.length
    · have d2 : decide ((ks.length : Int) < 2) = false := decide_eq_false (by omega)
      have HD2 : Hid (storeB l ks sl = stF l ks 0) := by unfold Hid; rw [HD.out, decide_eq_true h2]; rfl
      have Hr1 := Lib.hid ((Hr.out.q (Nat.le_refl _) q1).more q1.size)
      have Hk1 := Lib.hid ((Hk.out.q (Nat.le_refl _) q1).more q1.size)
      have q01 := q0.trans q1
      clear b0 hR HD
      have b0 := HB1.out.c0
      go_wp2_with fail
      go_loopw [6, 7, 8] (fun i _ _ wr => ∃ k : Nat, k ≤ ks.length ∧ i = .int .i64 k ∧ Hid (stF l ks 0 = stF l (ks.drop k) k) ∧ Q w1 wr) (fun i _ _ _ => ks.length - (intOf i).toNat)
      case atStart => exact ⟨0, Nat.zero_le _, rfl, Lib.hid rfl, Q.refl _⟩
      case round =>
        obtain ⟨k, hkl, rfl, HF, qr⟩ := hrel
        clear b0
        have HBr := Lib.hid (HB1.out.q qr)
        have b0 := HBr.out.c0
        have b1 := HBr.out.c1
        by_cases hlt : k < ks.length
        · have HS1 := Lib.hid (stF_at l ks k hlt)
          have Hkr := Lib.hid ((Hk1.out.q (Nat.le_refl _) qr).more qr.size)
          by_cases h3 : 3 ≤ ks[k].length
          · have HT := Lib.hid (termAt_at hlt h3)
            obtain ⟨t, ht⟩ : ∃ t, ofKey ks[k] = t := ⟨_, rfl⟩
            rw [ht] at HT
            have HK : Hid (keyOk l ks[k] k = (mayB l k t && !(decide (k < 2) && (t.k != (k : Int))))) := by unfold Hid keyOk; rw [decide_eq_true h3, ht]; rfl
            have Hl : Hid (t.xs.length ≤ maxLen) := by unfold Hid; rw [← ht]; have := HsM.out _ (List.getElem_mem hlt); simp [ofKey]; omega
            clear ht h3
            go_wp2_with fail
            refine (refOf_any _ _ _ _ _ _ ks k _ rfl Hkr.out).mono ?_
            rintro e w2 ⟨A1, n1, c1, rfl, hn1, hA1, q2⟩
            rw [HT.out] at hn1 hA1 ⊢
            simp only [Option.getD_some, Option.isSome_some] at hn1 hA1 ⊢
            have Hn1 := Lib.hid hn1
            have q23 := q2.alloc (Obj.cells #[.int .i64 t.k, .int .i64 t.s, .int .i64 t.p, .slice A1 n1 c1] 28)
            have q3 := (Q.refl w2).alloc (Obj.cells #[.int .i64 t.k, .int .i64 t.s, .int .i64 t.p, .slice A1 n1 c1] 28)
            have HA1 := Lib.hid ((hA1.q (Nat.le_refl _) q3).more q3.size)
            have X := Box4.new w2 (.int .i64 t.k) (.int .i64 t.s) (.int .i64 t.p) (.slice A1 n1 c1) 28
            have qr3 := qr.trans q23
            have HX := Lib.hid X
            clear hn1 hA1 X b0 b1
            go_wp2_with fail
            generalize w2.alloc (Obj.cells #[.int .i64 t.k, .int .i64 t.s, .int .i64 t.p, .slice A1 n1 c1] 28) = W3 at *
            refine (refmay_any _ _ _ _ _ _ k l t _ rfl ((Hr1.out.q (Nat.le_refl _) qr3).more qr3.size) Hn1.out HA1.out Hl.out).mono ?_
            rintro e w4 ⟨rfl, q4⟩
            have qr4 := qr3.trans q4
            have x0 := (HX.out.q q4).c0
            cases hM : mayB l k t
            · have HR : Hid (storeB l ks sl = false) := by unfold Hid; rw [HD2.out, HF.out, HS1.out, HK.out, hM]; rfl
              go_wp2_with fail
              go_ret
              exact ⟨by rw [HR.out]; rfl, q01.trans qr4⟩
            · by_cases hk2 : k < 2
              · have d3 : decide ((k : Int) < 2) = true := decide_eq_true (by omega)
                cases hne : (t.k != (k : Int))
                · have HR : Hid (stF l (ks.drop k) k = stF l (ks.drop (k + 1)) (k + 1)) := by unfold Hid; rw [HS1.out, HK.out, hM, hne, Bool.and_false]; rfl
                  clear hk2
                  go_wp2_with fail
                  go_roundw
                  case rel => exact ⟨k + 1, by omega, by go_num, Lib.hid (HF.out.trans HR.out), qr4⟩
                  case measure => simp [intOf]; omega
                · have HR : Hid (storeB l ks sl = false) := by unfold Hid; rw [HD2.out, HF.out, HS1.out, HK.out, hM, hne, decide_eq_true hk2]; rfl
                  clear hk2
                  go_wp2_with fail
                  go_ret
                  exact ⟨by rw [HR.out]; rfl, q01.trans qr4⟩
              · have d3 : decide ((k : Int) < 2) = false := decide_eq_false (by omega)
                have HR : Hid (stF l (ks.drop k) k = stF l (ks.drop (k + 1)) (k + 1)) := by unfold Hid; rw [HS1.out, HK.out, hM, decide_eq_false hk2]; rfl
                clear hk2
                go_wp2_with fail
                go_roundw
                case rel => exact ⟨k + 1, by omega, by go_num, Lib.hid (HF.out.trans HR.out), qr4⟩
                case measure => simp [intOf]; omega
          · have HT := Lib.hid (termAt_short hlt (Nat.lt_of_not_le h3))
            have HR : Hid (storeB l ks sl = false) := by unfold Hid; rw [HD2.out, HF.out, HS1.out, keyOk, decide_eq_false h3]; rfl
            clear h3
            go_wp2_with fail
            refine (refOf_any _ _ _ _ _ _ ks k _ rfl Hkr.out).mono ?_
            rintro e w2 ⟨A1, n1, c1, rfl, hn1, hA1, q2⟩
            rw [HT.out]
            simp only [Option.getD_none, Option.isSome_none, Tm.none]
            have q23 := q2.alloc (Obj.cells #[.int .i64 0, .int .i64 0, .int .i64 0, .slice A1 n1 c1] 28)
            clear hn1 hA1 b0 b1
            go_wp2_with fail
            go_ret
            exact ⟨by rw [HR.out]; rfl, q01.trans (qr.trans q23)⟩
        · have HS1 := Lib.hid (stF_end l ks k (by omega))
          go_wp2_with fail
          go_ret
          exact ⟨by rw [HD2.out, HF.out, HS1.out]; rfl, q01.trans qr⟩
    · have d2 : decide ((ks.length : Int) < 2) = true := decide_eq_true (by omega)
      have HD2 : Hid (storeB l ks sl = false) := by unfold Hid; rw [HD.out, decide_eq_false h2]; rfl
      go_wp2_with fail
      go_ret
      exact ⟨by rw [HD2.out]; rfl, q0.trans q1⟩
end Go.Proofs.Ytgnbempkobgeiaa.Tm
