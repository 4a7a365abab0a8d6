/-
  Contracts of the document's answer of layer 1: Con, Args, Find, Right.
-/
import Derived.Test.YtoabdeobaogkoaaSigG
namespace Go.Proofs.Ytoabdeobaogkoaa.Sg
open Go.RowKit Kit

set_option maxHeartbeats 400000 in
theorem con_any (s : ByteArray) (w : World) :
    Calls Try.prog 20 #[.string s] w fun e w' => e = .returned (.bool (nameB 97 122 s.data.toList)) ∧ w = w' := by
  by_cases h0 : 0 < s.size
  · have HC : Hid ((nmB s.data.toList && inB 97 122 s[0].toNat) = nameB 97 122 s.data.toList) := con_of_nm s.data.toList (by simpa using h0)
    cases hn : nmB s.data.toList
    · rw [hn] at HC
      go_enter Try.func20, Try.ntmps20
      go_wp2_with fail
      refine (name_any _ _).mono ?_
      rintro e w1 ⟨rfl, rfl⟩
      go_wp2_with fail
      go_ret
      exact ⟨by rw [← HC.out]; rfl, rfl⟩
    · rw [hn] at HC
      go_enter Try.func20, Try.ntmps20
      go_wp2_with fail
      refine (name_any _ _).mono ?_
      rintro e w1 ⟨rfl, rfl⟩
      go_wp2_with fail
      refine (small_any _ _).mono ?_
      rintro e w1 ⟨rfl, rfl⟩
      go_wp2_with fail
      go_ret
      exact ⟨by rw [← HC.out]; rfl, rfl⟩
  · have e : s.data.toList = [] := List.eq_nil_of_length_eq_zero (by have : s.data.toList.length = s.size := by simp
                                                                     omega)
    have hn : nmB s.data.toList = false := by rw [e]; rfl
    have HR : Hid (nameB 97 122 s.data.toList = false) := by unfold Hid; rw [e]; rfl
    clear e
    go_enter Try.func20, Try.ntmps20
    go_wp2_with fail
    refine (name_any _ _).mono ?_
    rintro e w1 ⟨rfl, rfl⟩
    go_wp2_with fail
    go_ret
    exact ⟨by rw [HR.out]; rfl, rfl⟩

set_option maxHeartbeats 400000 in
theorem args_any (s : ByteArray) (w : World) (hs : s.size ≤ maxLen) :
    Calls Try.prog 21 #[.string s] w fun e w' => e = .returned (.bool (argsB s.data.toList)) ∧ w = w' := by
  unfold maxLen at hs
  have HL : Hid (s.data.toList.length = s.size) := by unfold Hid; simp
  go_enter Try.func21, Try.ntmps21
  go_wp2_with fail
  go_loop [3] (fun i => ∃ k : Nat, k ≤ s.size ∧ i = .int .i64 k ∧ Hid (((s.data.toList.take k).all fun c => argB c.toNat) = true)) (fun i => s.size - (intOf i).toNat)
  case atStart => exact ⟨0, Nat.zero_le _, rfl, Lib.hid (by simp)⟩
  case round =>
    obtain ⟨k, hk, rfl, hr⟩ := hrel
    by_cases hlt : k < s.size
    · have HT := Lib.hid (take_snoc s k hlt)
      have HA : Hid (argB s[k].toNat = (((s[k].toNat : Int) == 43) || ((s[k].toNat : Int) == 45) || ((s[k].toNat : Int) == 61))) := rfl
      cases hg : argB s[k].toNat
      · have HF : Hid (argsB s.data.toList = false) := by
          unfold Hid argsB
          rw [Bool.and_eq_false_iff]
          right
          rw [← List.take_append_drop (k + 1) s.data.toList, HT.out]
          simp [hg]
        have hA := HA.out
        rw [hg] at hA
        simp only [Bool.false_eq, Bool.or_eq_false_iff] at hA
        obtain ⟨⟨a1, a2⟩, a3⟩ := hA
        have b1 : ((s[k].toNat : Int) != 43) = true := by rw [bne, a1]; rfl
        have b2 : ((s[k].toNat : Int) != 45) = true := by rw [bne, a2]; rfl
        have b3 : ((s[k].toNat : Int) != 61) = true := by rw [bne, a3]; rfl
        clear hg
        go_wp2_with fail
        go_ret
        exact ⟨by rw [HF.out]; rfl, rfl⟩
      · have HF : Hid (((s.data.toList.take (k + 1)).all fun c => argB c.toNat) = true) := by
          unfold Hid
          rw [HT.out, all_take_snoc, hr.out, hg]; rfl
        have hA := HA.out
        rw [hg] at hA
        have hA3 : (s[k].toNat : Int) = 43 ∨ (s[k].toNat : Int) = 45 ∨ (s[k].toNat : Int) = 61 := by
          simpa [or_assoc] using hA.symm
        clear hA hg
        rcases hA3 with a | a | a
        all_goals
          go_wp2_with fail
          go_round
          case rel => exact ⟨k + 1, by omega, by go_num, HF⟩
          case measure => simp [intOf]; omega
    · have HF : Hid (argsB s.data.toList = decide ((s.size : Int) ≤ 8)) := by
        have h := hr.out
        rw [List.take_of_length_le (by simp; omega)] at h
        unfold Hid argsB
        rw [h, HL.out, Bool.and_true, Bool.eq_iff_iff]
        simp only [decide_eq_true_eq]
        omega
      go_wp2_with fail
      go_ret
      exact ⟨by rw [HF.out]; rfl, rfl⟩

set_option maxHeartbeats 400000 in
theorem refFind_any (A : Option Addr) (n c : Nat) (l : List Sig) (t : ByteArray) (w : World) (hn : n = l.length) (hr : Row w w.heap.size A l) (hl : l.length ≤ maxLen) :
    Calls Try.prog 22 #[.slice A n c, .string t] w fun e w' => e = .returned (.int .i64 (findI t l 0)) ∧ w = w' := by
  subst hn
  unfold maxLen at hl
  go_enter Try.func22, Try.ntmps22
  go_wp2_with fail
  go_loop [5] (fun i => ∃ k : Nat, k ≤ l.length ∧ i = .int .i64 k ∧ Hid (findI t l 0 = findI t (l.drop k) k)) (fun i => l.length - (intOf i).toNat)
  case atStart => exact ⟨0, Nat.zero_le _, rfl, Lib.hid (by simp)⟩
  case round =>
    obtain ⟨k, hk, rfl, HF⟩ := hrel
    by_cases hlt : k < l.length
    · obtain ⟨ad, rfl, hb, c0, c1⟩ := hr.at_ hlt
      have HS := Lib.hid (findI_at t l k hlt)
      clear hr c1
      cases he : eqS l[k].1 t
      · have HS' : Hid (findI t (l.drop k) k = findI t (l.drop (k + 1)) (k + 1)) := by have := HS.out; rw [he] at this; exact this
        have he' : (l[k].1.toList == t.toList) = false := he
        clear he
        go_wp2_with fail
        go_round
        case rel => exact ⟨k + 1, by omega, by go_num, Lib.hid (HF.out.trans HS'.out)⟩
        case measure => simp [intOf]; omega
      · have HS' : Hid (findI t (l.drop k) k = k) := by have := HS.out; rw [he] at this; exact this
        have he' : (l[k].1.toList == t.toList) = true := he
        clear he
        go_wp2_with fail
        go_ret
        exact ⟨by rw [HF.out, HS'.out]; rfl, rfl⟩
    · have HS := Lib.hid (findI_end t l k (by omega))
      go_wp2_with fail
      go_ret
      exact ⟨by rw [HF.out, HS.out]; rfl, rfl⟩

/-! ### what is found of a row's own name -/
theorem findI_le (t : ByteArray) : ∀ (l : List Sig) (k j : Nat) (h : j < l.length), l[j].1 = t → (k : Int) ≤ findI t l k ∧ findI t l k ≤ k + j
  | s :: l, k, 0, _, e => by
    have e' : s.1 = t := e
    rw [findI, if_pos ((eqS_iff _ _).2 e')]
    omega
  | s :: l, k, j + 1, h, e => by
    rw [findI]
    split
    · omega
    · have := findI_le t l (k + 1) j (by simpa using h) (by simpa using e)
      omega

/-- the texts of a row are of a size that can be -/
def Sized (l : List Sig) : Prop := ∀ s ∈ l, s.1.size ≤ maxLen ∧ s.2.size ≤ maxLen

def refRightG (L : List Sig) : List Sig → Nat → Bool
  | [], _ => true
  | s :: l, k => (conB s.1 && partsB s.2 && !decide (findI s.1 L 0 < (k : Int))) && refRightG L l (k + 1)
theorem refRightG_at (L l : List Sig) (k : Nat) (h : k < l.length) : refRightG L (l.drop k) k = ((conB l[k].1 && partsB l[k].2 && !decide (findI l[k].1 L 0 < (k : Int))) && refRightG L (l.drop (k + 1)) (k + 1)) := by
  rw [List.drop_eq_getElem_cons h]; rfl
theorem refRightG_end (L l : List Sig) (k : Nat) (h : l.length ≤ k) : refRightG L (l.drop k) k = true := by
  rw [List.drop_eq_nil_of_le h]; rfl
theorem refRightG_eq (l : List Sig) : ∀ (d k : Nat), d = l.length - k → refRightG l (l.drop k) k = rightG l (l.drop k) k := by
  intro d
  induction d with
  | zero => intro k hk; rw [refRightG_end l l k (by omega), rightG_end l l k (by omega)]
  | succ d ih =>
    intro k hk
    have hlt : k < l.length := by omega
    rw [refRightG_at l l k hlt, rightG_at l l k hlt, ih (k + 1) (by omega)]
    have hf := findI_le l[k].1 l 0 k hlt rfl
    have e : (!decide (findI l[k].1 l 0 < (k : Int))) = (findI l[k].1 l 0 == (k : Int)) := by
      rw [Bool.eq_iff_iff]; simp only [Bool.not_eq_true', decide_eq_false_iff_not, beq_iff_eq]; omega
    rw [e]

set_option maxHeartbeats 400000 in
theorem refRight_any (A : Option Addr) (n c : Nat) (l : List Sig) (w : World) (hn : n = l.length) (hr : Row w w.heap.size A l) (hl : l.length ≤ maxLen) (hs : Sized l) :
    Calls Try.prog 10 #[.slice A n c] w fun e w' => e = .returned (.bool (rightB l)) ∧ w = w' := by
  subst hn
  have hl' := hl
  unfold maxLen at hl'
  have HE : Hid (refRightG l l 0 = rightG l l 0) := refRightG_eq l l.length 0 (by omega)
  have HRow := Lib.hid hr
  clear hr
  go_enter Try.func10, Try.ntmps10
  go_wp2_with fail
  go_loop [3, 4] (fun i _ => ∃ k : Nat, k ≤ l.length ∧ i = .int .i64 k ∧ Hid (refRightG l l 0 = refRightG l (l.drop k) k)) (fun i _ => l.length - (intOf i).toNat)
  case atStart => exact ⟨0, Nat.zero_le _, rfl, Lib.hid (by simp)⟩
  case round =>
    obtain ⟨k, hk, rfl, HF⟩ := hrel
    by_cases hlt : k < l.length
    · obtain ⟨ad, rfl, hb, c0, c1⟩ := HRow.out.at_ hlt
      have HS := Lib.hid (refRightG_at l l k hlt)
      have hsk := (hs l[k] (List.getElem_mem hlt)).2
      have HB : Hid (refRightG l (l.drop k) k = false → rightB l = false) := fun h => by
        unfold rightB
        rw [← HE.out, HF.out, h, Bool.and_false]
      cases h1 : nameB 97 122 l[k].1.data.toList
      · have HS' : Hid (rightB l = false) := HB.out (by rw [HS.out, conB, h1]; rfl)
        go_wp2_with fail
        refine (con_any _ _).mono ?_
        rintro e w1 ⟨rfl, rfl⟩
        go_wp2_with fail
        go_ret
        exact ⟨by rw [HS'.out]; rfl, rfl⟩
      · cases h2 : argsB l[k].2.data.toList
        · have HS' : Hid (rightB l = false) := HB.out (by rw [HS.out, conB, partsB, h1, h2]; rfl)
          go_wp2_with fail
          refine (con_any _ _).mono ?_
          rintro e w1 ⟨rfl, rfl⟩
          go_wp2_with fail
          refine (args_any _ _ hsk).mono ?_
          rintro e w1 ⟨rfl, rfl⟩
          go_wp2_with fail
          go_ret
          exact ⟨by rw [HS'.out]; rfl, rfl⟩
        · by_cases h3 : findI l[k].1 l 0 < (k : Int)
          · have HS' : Hid (rightB l = false) := HB.out (by rw [HS.out, conB, partsB, h1, h2, decide_eq_true h3]; rfl)
            go_wp2_with fail
            refine (con_any _ _).mono ?_
            rintro e w1 ⟨rfl, rfl⟩
            go_wp2_with fail
            refine (args_any _ _ hsk).mono ?_
            rintro e w1 ⟨rfl, rfl⟩
            go_wp2_with fail
            refine (refFind_any _ _ _ l _ _ rfl HRow.out hl).mono ?_
            rintro e w1 ⟨rfl, rfl⟩
            go_wp2_with fail
            go_ret
            exact ⟨by rw [HS'.out]; rfl, rfl⟩
          · have HS' : Hid (refRightG l (l.drop k) k = refRightG l (l.drop (k + 1)) (k + 1)) := by unfold Hid; rw [HS.out, conB, partsB, h1, h2, decide_eq_false h3]; rfl
            go_wp2_with fail
            refine (con_any _ _).mono ?_
            rintro e w1 ⟨rfl, rfl⟩
            go_wp2_with fail
            refine (args_any _ _ hsk).mono ?_
            rintro e w1 ⟨rfl, rfl⟩
            go_wp2_with fail
            refine (refFind_any _ _ _ l _ _ rfl HRow.out hl).mono ?_
            rintro e w1 ⟨rfl, rfl⟩
            go_wp2_with fail
            go_round
            case rel => exact ⟨k + 1, by omega, by go_num, Lib.hid (HF.out.trans HS'.out)⟩
            case measure => simp [intOf]; omega
    · have HS : Hid (rightB l = decide ((l.length : Int) ≤ 64)) := by
        unfold Hid rightB
        rw [← HE.out, HF.out, refRightG_end l l k (by omega), Bool.and_true, Bool.eq_iff_iff]
        simp only [decide_eq_true_eq]
        omega
      go_wp2_with fail
      go_ret
      exact ⟨by rw [HS.out]; rfl, rfl⟩
end Go.Proofs.Ytoabdeobaogkoaa.Sg
