/-
  Contracts of the statements' own functions of layer 3: of, shown; and a term as an argument, opened.
-/
import Derived.Test.YtgnbempkobgeiaaTermZ
import Derived.Test.YtgnbempkobgeiaaRef1Open
namespace Go.Proofs.Ytgnbempkobgeiaa.Tm
open Go.RowKit Kit Hs

def ofB (l : List Sg.Sig) (ks : List (List Int)) (sl : List Int) : Bool := decide (l.length ≤ 64) && Sg.rightB l && fewB ks sl.length && storeB l ks sl

set_option maxRecDepth 100000 in
set_option maxHeartbeats 1000000 in
theorem of3_any (L A S : Option Addr) (nl cl n c m d : Nat) (l : List Sg.Sig) (ks : List (List Int)) (sl : List Int) (w : World) (hnl : nl = l.length) (hr : Sg.Row w w.heap.size L l) (hn : n = ks.length) (hm : m = sl.length) (hk : Keys w w.heap.size A ks) (hS : Ints w w.heap.size S sl)
    (hll : l.length ≤ maxLen) (hsz : Sg.Sized l) (hl : ks.length ≤ 1152921504606846976) (hs : ∀ k ∈ ks, k.length ≤ 1152921504606846976) (hsl : sl.length ≤ 1152921504606846976) :
    Calls Try.prog 10 #[.slice L nl cl, .agg #[.slice A n c, .slice S m d]] w fun e w' => e = .returned (.bool (ofB l ks sl)) ∧ Q w w' := by
  subst hnl
  subst hn
  subst hm
  have q0 := (Q.refl w).alloc (Obj.cells #[Value.slice A ks.length c, Value.slice S sl.length d] 26)
  have Hr := Lib.hid ((hr.q (Nat.le_refl _) q0).more q0.size)
  have Hk := Lib.hid ((hk.q (Nat.le_refl _) q0).more q0.size)
  have HS := Lib.hid ((hS.q (Nat.le_refl _) q0).more q0.size)
  have HB := Lib.hid (BoxT.new w (Value.slice A ks.length c) (Value.slice S sl.length d) 26)
  have HsM := Lib.hid hs
  have HD : Hid (ofB l ks sl = (decide (l.length ≤ 64) && Sg.rightB l && fewB ks sl.length && storeB l ks sl)) := rfl
  clear hr hk hS hs
  by_cases h64 : l.length ≤ 64
  · have d64 : decide ((l.length : Int) ≤ 64) = true := decide_eq_true (by omega)
    cases hR : Sg.rightB l
    · have HR : Hid (ofB l ks sl = false) := by unfold Hid; rw [HD.out, hR, Bool.and_false]; rfl
      go_enter Try.func10, Try.ntmps10
      go_wp2_with fail
      refine (Sg.refRight_any _ _ _ l _ rfl Hr.out hll hsz).mono ?_
      rintro e w1 ⟨rfl, rfl⟩
      go_wp2_with fail
      go_ret
      exact ⟨by rw [HR.out]; rfl, q0⟩
    · cases hf : fewB ks sl.length
      · have HR : Hid (ofB l ks sl = false) := by unfold Hid; rw [HD.out, hf, Bool.and_false]; rfl
        go_enter Try.func10, Try.ntmps10
        go_wp2_with fail
        refine (Sg.refRight_any _ _ _ l _ rfl Hr.out hll hsz).mono ?_
        rintro e w1 ⟨rfl, rfl⟩
        go_wp2_with fail
        refine (refFew_any _ _ _ _ _ _ ks _ rfl Hk.out hl HsM.out hsl).mono ?_
        rintro e w2 ⟨rfl, q2⟩
        go_wp2_with fail
        go_ret
        exact ⟨by rw [HR.out]; rfl, q0.trans q2⟩
      · have HR : Hid (ofB l ks sl = storeB l ks sl) := by unfold Hid; rw [HD.out, decide_eq_true h64, hR, hf]; rfl
        have hsum := few_sum hf
        go_enter Try.func10, Try.ntmps10
        go_wp2_with fail
        generalize w.alloc (Obj.cells #[Value.slice A ks.length c, Value.slice S sl.length d] 26) = W0 at *
        refine (Sg.refRight_any _ _ _ l _ rfl Hr.out hll hsz).mono ?_
        rintro e w1 ⟨rfl, rfl⟩
        have b0 := HB.out.c0
        have b1 := HB.out.c1
        go_wp2_with fail
        refine (refFew_any _ _ _ _ _ _ ks _ rfl Hk.out hl HsM.out hsl).mono ?_
        rintro e w2 ⟨rfl, q2⟩
        clear b0 b1
        have b0 := (HB.out.q q2).c0
        have b1 := (HB.out.q q2).c1
        go_wp2_with fail
        refine (refRight3_any _ _ _ _ _ _ _ _ _ l ks sl _ rfl ((Hr.out.q (Nat.le_refl _) q2).more q2.size) rfl rfl ((Hk.out.q (Nat.le_refl _) q2).more q2.size) ((HS.out.q (Nat.le_refl _) q2).more q2.size) (fun k hk => by have := mem_len hk; unfold maxLen; omega) (by omega) (by unfold maxLen; omega)).mono ?_
        rintro e w3 ⟨rfl, q3⟩
        go_wp2_with fail
        go_ret
        exact ⟨by rw [HR.out]; rfl, (q0.trans q2).trans q3⟩
  · have d64 : decide ((l.length : Int) ≤ 64) = false := decide_eq_false (by omega)
    have HR : Hid (ofB l ks sl = false) := by unfold Hid; rw [HD.out, decide_eq_false h64]; rfl
    go_enter Try.func10, Try.ntmps10
    go_wp2_with fail
    go_ret
    exact ⟨by rw [HR.out]; rfl, q0⟩

/-! ### the document's example -/
def varT : Tm := ⟨2, 0, 0, []⟩
def third : List (List Int) := [[0, 0, 0], [1, 0, 0], [2, 0, 0]]
theorem varT_wf : Wf varT.k := ⟨by decide, by decide⟩
theorem size3 : sizeN 3 = 8 := by unfold sizeN; rw [sizeG_ge (by omega)]
theorem third_L : put3L [] first3 varT 9 = third := rfl
theorem third_I : put3I [] first3 varT 9 = 2 := rfl
theorem third_E : put3E [] first3 varT 9 = 0 := rfl
theorem third_B : belowI third 2 = [2] := rfl
theorem dist_first : Dist first3 := rdF_dist rfl
theorem store_third : Store [] third := ⟨rdF_dist rfl, by decide, fun i key hk => by
  have h : stF [] third 0 = true := rfl
  have := stF_get h i key hk
  rwa [Nat.zero_add] at this⟩

set_option maxRecDepth 100000 in
set_option maxHeartbeats 1000000 in
theorem shown3_any (w : World) : Calls Try.prog 9 #[] w fun e w' => e = .returned (.bool true) ∧ Q w w' := by
  have hl1 : (layI first3).length = 8 := by rw [layI_length]; exact size2
  have hl3 : (layI third).length = 8 := by rw [layI_length]; exact size3
  have Hl1 := Lib.hid hl1
  have Hl3 := Lib.hid hl3
  clear hl1 hl3
  go_enter Try.func9, Try.ntmps9
  go_wp2_with fail
  refine (new_any _).mono ?_
  rintro e w1 ⟨A1, c1, S1, d1, rfl, hk1, hS1, q1⟩
  have Hk1 := Lib.hid hk1
  have HS1 := Lib.hid hS1
  clear hk1 hS1
  go_wp2_with fail
  refine (put3_any none A1 S1 none 0 0 2 c1 8 d1 0 0 [] first3 varT 9 _ rfl (fun h => absurd h (by simp)) rfl Hl1.out.symm Hk1.out HS1.out rfl (fun h => absurd h (by simp [varT])) varT_wf dist_first (by simp [first3]) (by simp [first3]) (by simp [first3]) (by simp [varT])).mono ?_
  rintro e w2 ⟨A2, c2, S2, d2, rfl, hk2, hS2, q2, hcp⟩
  rw [third_L] at hk2 hS2 hcp ⊢
  rw [third_I, third_E, Hl3.out]
  have hlt : third.length = 3 := rfl
  rw [hlt]
  have Hk2 := Lib.hid hk2
  have HS2 := Lib.hid hS2
  have Hcp := Lib.hid hcp
  have q3 := (Q.refl w2).alloc (Obj.cells #[.slice A2 3 c2, .slice S2 8 d2] 26)
  have bb := BoxT.new w2 (.slice A2 3 c2) (.slice S2 8 d2) 26
  have HB := Lib.hid bb
  clear hk2 hS2 hcp hlt bb
  go_wp2_with fail
  generalize w2.alloc (Obj.cells #[.slice A2 3 c2, .slice S2 8 d2] 26) = W3 at *
  refine (right3_any none A2 S2 0 0 3 c2 8 d2 [] third _ rfl (fun h => absurd h (by simp)) rfl size3.symm ((Hk2.out.q (Nat.le_refl _) q3).more q3.size) ((HS2.out.q (Nat.le_refl _) q3).more q3.size) store_third (by simp [third]) (by simp [third]) Hcp.out).mono ?_
  rintro e w4 ⟨rfl, q4⟩
  have q34 := q3.trans q4
  have b0 := (HB.out.q q4).c0
  have b1 := (HB.out.q q4).c1
  go_wp2_with fail
  refine (below_any _ _ _ _ _ _ third 2 _ rfl ((Hk2.out.q (Nat.le_refl _) q34).more q34.size) (by simp [third]) (by simp [third])).mono ?_
  rintro e w5 ⟨A5, c5, rfl, _, q5⟩
  rw [third_B]
  have hl5 : ([2] : List Int).length = 1 := rfl
  rw [hl5]
  clear hl5
  go_wp2_with fail
  go_ret
  exact ⟨rfl, ((q1.trans q2).trans q34).trans q5⟩
end Go.Proofs.Ytgnbempkobgeiaa.Tm
