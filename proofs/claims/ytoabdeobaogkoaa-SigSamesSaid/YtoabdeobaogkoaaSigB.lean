/-
  Contracts of package sig's names: isName, IsCon, IsVar, areArgs.
-/
import Derived.Test.YtoabdeobaogkoaaSigA
namespace Go.Proofs.Ytoabdeobaogkoaa.Sg
open Go.RowKit Kit

theorem take_snoc (s : ByteArray) (k : Nat) (h : k < s.size) : s.data.toList.take (k + 1) = s.data.toList.take k ++ [s[k]] := by
  rw [List.take_succ_eq_append_getElem (by simpa using h)]; rfl

def restB (l : List UInt8) : Bool := (l.drop 1).all fun c => goesB c.toNat
theorem restB_snoc (l : List UInt8) (c : UInt8) (h : 1 ≤ l.length) : restB (l ++ [c]) = (restB l && goesB c.toNat) := by
  cases l with
  | nil => simp at h
  | cons a l => simp [restB]

/-- a name whose first byte lies from lo to hi -/
def nameB (lo hi : Int) (l : List UInt8) : Bool :=
  match l with
  | [] => false
  | c :: _ => decide (l.length ≤ 20) && inB lo hi c.toNat && restB l

theorem nameB_short (lo hi : Int) (s : ByteArray) (h : s.size < 1) : nameB lo hi s.data.toList = false := by
  have : s.data.toList.length < 1 := by simpa using h
  match hs : s.data.toList with
  | [] => rfl
  | _ :: _ => rw [hs] at this; simp at this
theorem nameB_long (lo hi : Int) (s : ByteArray) (h : 20 < s.size) : nameB lo hi s.data.toList = false := by
  have h : 20 < s.data.toList.length := by simpa using h
  match hs : s.data.toList with
  | [] => rfl
  | c :: l =>
    rw [hs] at h
    simp only [nameB, decide_eq_false (by omega : ¬ (c :: l).length ≤ 20), Bool.false_and]
theorem nameB_mid (lo hi : Int) (s : ByteArray) (h0 : 0 < s.size) (h : s.size ≤ 20) : nameB lo hi s.data.toList = (inB lo hi (s[0]'h0).toNat && restB s.data.toList) := by
  have h' : s.data.toList.length ≤ 20 := by simpa using h
  have e : s.data.toList = s[0]'h0 :: s.data.toList.drop 1 := by
    exact List.drop_eq_getElem_cons (l := s.data.toList) (i := 0) (by simpa using h0)
  generalize s[0]'h0 = c at e ⊢
  rw [e] at h'
  rw [e]
  simp only [nameB, decide_eq_true h', Bool.true_and]

set_option maxHeartbeats 400000 in
theorem isName_any (lo hi : Int) (s : ByteArray) (w : World) :
    Calls Try.prog 25 #[.string s, .func (Fn.func 26) #[.agg #[.int .u8 lo, .int .u8 hi]] #[]] w fun e w' => e = .returned (.bool (nameB lo hi s.data.toList)) ∧ Q w w' := by
  by_cases h0 : s.size < 1
  · have HR := Lib.hid (nameB_short lo hi s h0)
    go_enter Try.func25, Try.ntmps25
    go_wp2_with fail
    go_ret
    exact ⟨by rw [HR.out]; rfl, Q.refl _⟩
  · by_cases h20 : 20 < s.size
    · have HR := Lib.hid (nameB_long lo hi s h20)
      go_enter Try.func25, Try.ntmps25
      go_wp2_with fail
      go_ret
      exact ⟨by rw [HR.out]; rfl, Q.refl _⟩
    · have h1 : 0 < s.size := by omega
      have d1 : decide ((s.size : Int) < 1) = false := by simp; omega
      have d2 : decide (20 < (s.size : Int)) = false := by simp; omega
      have HR := Lib.hid (nameB_mid lo hi s h1 (by omega))
      cases hb : inB lo hi (s[0]'h1).toNat
      · rw [hb] at HR
        go_enter Try.func25, Try.ntmps25
        go_wp2_with fail
        refine (has_any _ _ _ _).mono ?_
        rintro e w1 ⟨rfl, q1⟩
        go_wp2_with fail
        go_ret
        exact ⟨by rw [HR.out]; rfl, q1⟩
      · rw [hb, Bool.true_and] at HR
        go_enter Try.func25, Try.ntmps25
        go_wp2_with fail
        refine (has_any _ _ _ _).mono ?_
        rintro e w1 ⟨rfl, q1⟩
        go_wp2_with fail
        go_loopw [5] (fun i wr => ∃ k : Nat, 1 ≤ k ∧ k ≤ s.size ∧ i = .int .i64 k ∧ restB (s.data.toList.take k) = true ∧ Q w wr) (fun i _ => s.size - (intOf i).toNat)
        case atStart => exact ⟨1, Nat.le_refl _, by omega, rfl, by simp [restB], q1⟩
        case round =>
          obtain ⟨k, hk1, hk, rfl, hr0, qr⟩ := hrel
          have hr := Lib.hid hr0
          clear hr0
          by_cases hlt : k < s.size
          · have HS := Lib.hid (restB_snoc (s.data.toList.take k) s[k] (by simp; omega))
            have HT := Lib.hid (take_snoc s k hlt)
            cases hg : goesB s[k].toNat
            · have HF : Hid (restB s.data.toList = false) := by
                unfold Hid
                rw [← List.take_append_drop (k + 1) s.data.toList, HT.out, restB, List.drop_append_of_le_length (by simp), List.drop_append_of_le_length (by simp; omega)]
                simp [hg]
              go_wp2_with fail
              refine (goesOn_any _ _).mono ?_
              rintro e w2 ⟨rfl, q2⟩
              go_wp2_with fail
              go_ret
              exact ⟨by rw [HR.out, HF.out]; rfl, qr.trans q2⟩
            · have HF : Hid (restB (s.data.toList.take (k + 1)) = true) := by
                unfold Hid
                rw [HT.out, HS.out, hr.out, hg]; rfl
              go_wp2_with fail
              refine (goesOn_any _ _).mono ?_
              rintro e w2 ⟨rfl, q2⟩
              go_wp2_with fail
              go_roundw
              case rel => exact ⟨k + 1, by omega, by omega, by go_num, HF.out, qr.trans q2⟩
              case measure => simp [intOf]; omega
          · have HF : Hid (restB s.data.toList = true) := by
              have := hr.out
              rw [List.take_of_length_le (by simp; omega)] at this
              exact this
            go_wp2_with fail
            go_ret
            exact ⟨by rw [HR.out, HF.out]; rfl, qr⟩

theorem isCon_any (s : ByteArray) (w : World) :
    Calls Try.prog 16 #[.string s] w fun e w' => e = .returned (.bool (nameB 97 122 s.data.toList)) ∧ Q w w' := by
  go_enter Try.func16, Try.ntmps16
  go_wp2_with fail
  refine (isName_any _ _ _ _).mono ?_
  rintro e w1 ⟨rfl, q1⟩
  go_wp2_with fail
  go_ret
  exact ⟨rfl, q1⟩
theorem isVar_any (s : ByteArray) (w : World) :
    Calls Try.prog 17 #[.string s] w fun e w' => e = .returned (.bool (nameB 65 90 s.data.toList)) ∧ Q w w' := by
  go_enter Try.func17, Try.ntmps17
  go_wp2_with fail
  refine (isName_any _ _ _ _).mono ?_
  rintro e w1 ⟨rfl, q1⟩
  go_wp2_with fail
  go_ret
  exact ⟨rfl, q1⟩

/-! ### parts -/
def argB (c : Int) : Bool := c == 43 || c == 45 || c == 61
def argsB (l : List UInt8) : Bool := decide (l.length ≤ 8) && l.all fun c => argB c.toNat
theorem all_take_snoc {f : UInt8 → Bool} {l : List UInt8} {c : UInt8} : (l ++ [c]).all f = (l.all f && f c) := by simp

set_option maxHeartbeats 400000 in
theorem areArgs_any (s : ByteArray) (w : World) :
    Calls Try.prog 28 #[.string s] w fun e w' => e = .returned (.bool (argsB s.data.toList)) ∧ w = w' := by
  have hlen : s.data.toList.length = s.size := by simp
  by_cases h8 : 8 < s.size
  · have HR : Hid (argsB s.data.toList = false) := by
      unfold Hid argsB
      rw [decide_eq_false (by rw [hlen]; omega)]; rfl
    clear hlen
    go_enter Try.func28, Try.ntmps28
    go_wp2_with fail
    go_ret
    exact ⟨by rw [HR.out]; rfl, rfl⟩
  · have HR : Hid (argsB s.data.toList = s.data.toList.all fun c => argB c.toNat) := by
      unfold Hid argsB
      rw [decide_eq_true (by rw [hlen]; omega)]; rfl
    clear hlen
    have d8 : decide (8 < (s.size : Int)) = false := by simp; omega
    go_enter Try.func28, Try.ntmps28
    go_wp2_with fail
    go_loop [3, 9] (fun _ i => ∃ k : Nat, k ≤ s.size ∧ i = .int .i64 k ∧ ((s.data.toList.take k).all fun c => argB c.toNat) = true) (fun _ i => s.size - (intOf i).toNat)
    case atStart => exact ⟨0, Nat.zero_le _, rfl, by simp⟩
    case round =>
      obtain ⟨k, hk, rfl, hr0⟩ := hrel
      have hr := Lib.hid hr0
      clear hr0
      by_cases hlt : k < s.size
      · have HT := Lib.hid (take_snoc s k hlt)
        have HA : Hid (argB s[k].toNat = (((s[k].toNat : Int) == 43) || ((s[k].toNat : Int) == 45) || ((s[k].toNat : Int) == 61))) := rfl
        cases hg : argB s[k].toNat
        · have HF : Hid ((s.data.toList.all fun c => argB c.toNat) = false) := by
            unfold Hid
            rw [← List.take_append_drop (k + 1) s.data.toList, HT.out]
            simp [hg]
          have hA := HA.out
          rw [hg] at hA
          simp only [Bool.false_eq, Bool.or_eq_false_iff] at hA
          obtain ⟨⟨a1, a2⟩, a3⟩ := hA
          have b1 : ((s[k].toNat : Int) != 43) = true := by rw [bne, a1]; rfl
          have b2 : ((s[k].toNat : Int) != 45) = true := by rw [bne, a2]; rfl
          have b3 : ((s[k].toNat : Int) != 61) = true := by rw [bne, a3]; rfl
          clear hg
          go_wp2_with fail
          go_ret
          exact ⟨by rw [HR.out, HF.out]; rfl, rfl⟩
        · have HF : Hid (((s.data.toList.take (k + 1)).all fun c => argB c.toNat) = true) := by
            unfold Hid
            rw [HT.out, all_take_snoc, hr.out, hg]; rfl
          have hA := HA.out
          rw [hg] at hA
          have hA3 : (s[k].toNat : Int) = 43 ∨ (s[k].toNat : Int) = 45 ∨ (s[k].toNat : Int) = 61 := by
            simpa [or_assoc] using hA.symm
          clear hA hg
          rcases hA3 with a | a | a
          all_goals
            go_wp2_with fail
            go_round
            case rel => exact ⟨k + 1, by omega, by go_num, HF.out⟩
            case measure => simp [intOf]; omega
      · have HF : Hid ((s.data.toList.all fun c => argB c.toNat) = true) := by
          have := hr.out
          rw [List.take_of_length_le (by simp; omega)] at this
          exact this
        go_wp2_with fail
        go_ret
        exact ⟨by rw [HR.out, HF.out]; rfl, rfl⟩

end Go.Proofs.Ytoabdeobaogkoaa.Sg
