/-
  Contracts of the names of package sig: span.has, goesOn, isName, IsCon, IsVar; and of isPart.
-/
import Derived.Test.YtmbdbmjnibfmgaaDoorRefNm
import Derived.Test.YtmbdbmjnibfmgaaDoorKitTg
namespace Go.Proofs.YtmbdbmjnibfmgaaDoor.Ex
open Go.RowKit Kit Nm Rw

theorem hasN_any (lo hi c : Int) (w : World) :
    Calls Tryd.prog 64 #[.agg #[.int .u8 lo, .int .u8 hi], .int .u8 c] w fun e w' => e = .returned (.bool (inB lo hi c)) ∧ Q w w' := by
  by_cases h1 : lo ≤ c
  · by_cases h2 : c ≤ hi
    · go_enter Tryd.func64, Tryd.ntmps64
      go_wp2
      go_ret
      exact ⟨by simp [inB, h1, h2], (Q.refl _).alloc _⟩
    · go_enter Tryd.func64, Tryd.ntmps64
      go_wp2
      go_ret
      exact ⟨by simp [inB, h1, h2], (Q.refl _).alloc _⟩
  · go_enter Tryd.func64, Tryd.ntmps64
    go_wp2
    go_ret
    exact ⟨by rw [inB, decide_eq_false (by omega : ¬ lo ≤ c)]; rfl, (Q.refl _).alloc _⟩

theorem goesN_any (c : Int) (w : World) :
    Calls Tryd.prog 69 #[.int .u8 c] w fun e w' => e = .returned (.bool (goesB c)) ∧ Q w w' := by
  cases h1 : inB 97 122 c
  · cases h2 : inB 65 90 c
    · cases h3 : inB 48 57 c
      · have HR : Hid (goesB c = (c == 95)) := by simp [goesB, h1, h2, h3, Hid]
        go_enter Tryd.func69, Tryd.ntmps69
        go_wp2_with fail
        refine (hasN_any _ _ _ _).mono ?_
        rintro e w1 ⟨rfl, q1⟩
        go_wp2_with fail
        refine (hasN_any _ _ _ _).mono ?_
        rintro e w2 ⟨rfl, q2⟩
        go_wp2_with fail
        refine (hasN_any _ _ _ _).mono ?_
        rintro e w3 ⟨rfl, q3⟩
        go_wp2_with fail
        go_ret
        exact ⟨by rw [HR.out]; rfl, (q1.trans q2).trans q3⟩
      · have HR : Hid (goesB c = true) := by simp [goesB, h3, Hid]
        go_enter Tryd.func69, Tryd.ntmps69
        go_wp2_with fail
        refine (hasN_any _ _ _ _).mono ?_
        rintro e w1 ⟨rfl, q1⟩
        go_wp2_with fail
        refine (hasN_any _ _ _ _).mono ?_
        rintro e w2 ⟨rfl, q2⟩
        go_wp2_with fail
        refine (hasN_any _ _ _ _).mono ?_
        rintro e w3 ⟨rfl, q3⟩
        go_wp2_with fail
        go_ret
        exact ⟨by rw [HR.out]; rfl, (q1.trans q2).trans q3⟩
    · have HR : Hid (goesB c = true) := by simp [goesB, h2, Hid]
      go_enter Tryd.func69, Tryd.ntmps69
      go_wp2_with fail
      refine (hasN_any _ _ _ _).mono ?_
      rintro e w1 ⟨rfl, q1⟩
      go_wp2_with fail
      refine (hasN_any _ _ _ _).mono ?_
      rintro e w2 ⟨rfl, q2⟩
      go_wp2_with fail
      go_ret
      exact ⟨by rw [HR.out]; rfl, q1.trans q2⟩
  · have HR : Hid (goesB c = true) := by simp [goesB, h1, Hid]
    go_enter Tryd.func69, Tryd.ntmps69
    go_wp2_with fail
    refine (hasN_any _ _ _ _).mono ?_
    rintro e w1 ⟨rfl, q1⟩
    go_wp2_with fail
    go_ret
    exact ⟨by rw [HR.out]; rfl, q1⟩

set_option maxHeartbeats 400000 in
theorem nameN_any (lo hi : Int) (s : ByteArray) (w : World) :
    Calls Tryd.prog 63 #[.string s, .func (Fn.func 64) #[.agg #[.int .u8 lo, .int .u8 hi]] #[]] w fun e w' => e = .returned (.bool (nameB lo hi s.data.toList)) ∧ Q w w' := by
  by_cases h0 : s.size < 1
  · have HR := Lib.hid (nameB_short lo hi s h0)
    go_enter Tryd.func63, Tryd.ntmps63
    go_wp2_with fail
    go_ret
    exact ⟨by rw [HR.out]; rfl, Q.refl _⟩
  · by_cases h20 : 20 < s.size
    · have HR := Lib.hid (nameB_long lo hi s h20)
      go_enter Tryd.func63, Tryd.ntmps63
      go_wp2_with fail
      go_ret
      exact ⟨by rw [HR.out]; rfl, Q.refl _⟩
    · have h1 : 0 < s.size := by omega
      have d1 : decide ((s.size : Int) < 1) = false := by simp; omega
      have d2 : decide (20 < (s.size : Int)) = false := by simp; omega
      have HR := Lib.hid (nameB_mid lo hi s h1 (by omega))
      cases hb : inB lo hi (s[0]'h1).toNat
      · rw [hb] at HR
        go_enter Tryd.func63, Tryd.ntmps63
        go_wp2_with fail
        refine (hasN_any _ _ _ _).mono ?_
        rintro e w1 ⟨rfl, q1⟩
        go_wp2_with fail
        go_ret
        exact ⟨by rw [HR.out]; rfl, q1⟩
      · rw [hb, Bool.true_and] at HR
        go_enter Tryd.func63, Tryd.ntmps63
        go_wp2_with fail
        refine (hasN_any _ _ _ _).mono ?_
        rintro e w1 ⟨rfl, q1⟩
        go_wp2_with fail
        go_loopw [5] (fun i wr => ∃ k : Nat, 1 ≤ k ∧ k ≤ s.size ∧ i = .int .i64 k ∧ restB (s.data.toList.take k) = true ∧ Q w wr) (fun i _ => s.size - (intOf i).toNat)
        case atStart => exact ⟨1, Nat.le_refl _, by omega, rfl, by simp [restB], q1⟩
        case round =>
          obtain ⟨k, hk1, hk, rfl, hr0, qr⟩ := hrel
          have hr := Lib.hid hr0
          clear hr0
          by_cases hlt : k < s.size
          · have HS := Lib.hid (restB_snoc (s.data.toList.take k) s[k] (by simp; omega))
            have HT := Lib.hid (take_snoc s k hlt)
            cases hg : goesB s[k].toNat
            · have HF : Hid (restB s.data.toList = false) := by
                unfold Hid
                rw [← List.take_append_drop (k + 1) s.data.toList, HT.out, restB, List.drop_append_of_le_length (by simp), List.drop_append_of_le_length (by simp; omega)]
                simp [hg]
              go_wp2_with fail
              refine (goesN_any _ _).mono ?_
              rintro e w2 ⟨rfl, q2⟩
              go_wp2_with fail
              go_ret
              exact ⟨by rw [HR.out, HF.out]; rfl, qr.trans q2⟩
            · have HF : Hid (restB (s.data.toList.take (k + 1)) = true) := by
                unfold Hid
                rw [HT.out, HS.out, hr.out, hg]; rfl
              go_wp2_with fail
              refine (goesN_any _ _).mono ?_
              rintro e w2 ⟨rfl, q2⟩
              go_wp2_with fail
              go_roundw
              case rel => exact ⟨k + 1, by omega, by omega, by go_num, HF.out, qr.trans q2⟩
              case measure => simp [intOf]; omega
          · have HF : Hid (restB s.data.toList = true) := by
              have := hr.out
              rw [List.take_of_length_le (by simp; omega)] at this
              exact this
            go_wp2_with fail
            go_ret
            exact ⟨by rw [HR.out, HF.out]; rfl, qr⟩

theorem isCon_any (s : ByteArray) (w : World) :
    Calls Tryd.prog 51 #[.string s] w fun e w' => e = .returned (.bool (nameB 97 122 s.data.toList)) ∧ Q w w' := by
  go_enter Tryd.func51, Tryd.ntmps51
  go_wp2_with fail
  refine (nameN_any _ _ _ _).mono ?_
  rintro e w1 ⟨rfl, q1⟩
  go_wp2_with fail
  go_ret
  exact ⟨rfl, q1⟩
theorem isVar_any (s : ByteArray) (w : World) :
    Calls Tryd.prog 50 #[.string s] w fun e w' => e = .returned (.bool (nameB 65 90 s.data.toList)) ∧ Q w w' := by
  go_enter Tryd.func50, Tryd.ntmps50
  go_wp2_with fail
  refine (nameN_any _ _ _ _).mono ?_
  rintro e w1 ⟨rfl, q1⟩
  go_wp2_with fail
  go_ret
  exact ⟨rfl, q1⟩


def partB (n : Int) : Bool := decide (1 ≤ n) && decide (n ≤ 8)
theorem isPart_any (n : Int) (w : World) :
    Calls Tryd.prog 56 #[.int .i64 n] w fun e w' => e = .returned (.bool (partB n)) ∧ w = w' := by
  by_cases h1 : 1 ≤ n
  · by_cases h2 : n ≤ 8
    · go_enter Tryd.func56, Tryd.ntmps56
      go_wp2
      go_ret
      exact ⟨by simp [partB, h1, h2], rfl⟩
    · go_enter Tryd.func56, Tryd.ntmps56
      go_wp2
      go_ret
      exact ⟨by simp [partB, h1, h2], rfl⟩
  · go_enter Tryd.func56, Tryd.ntmps56
    go_wp2
    go_ret
    exact ⟨by rw [partB, decide_eq_false (by omega : ¬ 1 ≤ n)]; rfl, rfl⟩

end Go.Proofs.YtmbdbmjnibfmgaaDoor.Ex
