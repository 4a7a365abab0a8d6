/-
  Contract of the document's token: names and numbers.
-/
import Derived.Test.YtmbdbmjnibfmgaaDoorRef6D
namespace Go.Proofs.YtmbdbmjnibfmgaaDoor.Lx
open Go.RowKit Kit Rw

def tokR (p : Nat) : Option (Nat × Nat) → Ending
  | none => .returned (.tuple #[.int .i64 0, .int .i64 (p : Int)])
  | some (k, m) => .returned (.tuple #[.int .i64 (k : Int), .int .i64 ((p + m + 1 : Nat) : Int)])
theorem goes_or (c : UInt8) : goes c = (ltr c || fig c || ((c.toNat : Int) == 95)) := rfl
theorem cut_ref (s : ByteArray) (k e : Nat) (h : k ≤ e) (he : e ≤ s.size) (u : World) : (Instr.slice 9 (.string s) (some (.int .i64 (k : Int))) (some (.int .i64 (e : Int))) none).run Tryd.prog u = .ok (.string (s.extract k e)) u := by
  have := run_slice_string (P := Tryd.prog) (w := u) 9 s .i64 .i64 (k : Int) (e : Int) Tryd.underlying9 (by omega) (by omega) (by omega)
  rw [this, show ((e : Int)).toNat = e by omega, show ((k : Int)).toNat = k by omega]

set_option maxRecDepth 100000 in
set_option maxHeartbeats 2000000 in
theorem token_name (s : ByteArray) (p : Nat) (w : World) (hp : p < s.size) (hs : s.size ≤ 1000000) (hc : ltr s[p] = true) :
    Calls Tryd.prog 19 #[.string s, .int .i64 (p : Int)] w fun e w' => e = tokR p (tk s[p] (from_ s (p + 1))) ∧ w = w' := by
  obtain ⟨h1, h2⟩ := name_len s p hp hc
  have HE := Lib.hid h1
  have C0 : Hid (∀ W, Calls Tryd.prog 35 #[.int .u8 (s[p].toNat : Int)] W fun e W' => e = .returned (.bool true) ∧ W = W') := fun W => by
    have := letter_any (s[p].toNat : Int) W
    have e : ltrI (s[p].toNat : Int) = ltr s[p] := rfl
    rw [e, hc] at this
    exact this
  clear h1 h2 hc
  go_enter Tryd.func19, Tryd.ntmps19
  go_wp2_with (go_at_call 35; refine (C0.out _).mono ?_; rintro e w1 ⟨rfl, rfl⟩)
  go_loopw [6] (fun i wr => ∃ k : Nat, p + 1 ≤ k ∧ k ≤ s.size ∧ i = .int .i64 k ∧ Hid (k + run_ goes s k = p + 1 + run_ goes s (p + 1)) ∧ wr = w) (fun i _ => s.size - (intOf i).toNat)
  case atStart => exact ⟨p + 1, Nat.le_refl _, by omega, by go_num, Lib.hid rfl, rfl⟩
  case round =>
    obtain ⟨k, hpk, hk, rfl, HK, rfl⟩ := hrel
    by_cases hlt : k < s.size
    · have CL : Hid (∀ W, Calls Tryd.prog 35 #[.int .u8 (s[k].toNat : Int)] W fun e W' => e = .returned (.bool (ltr s[k])) ∧ W = W') := fun W => letter_any _ W
      have CF : Hid (∀ W, Calls Tryd.prog 36 #[.int .u8 (s[k].toNat : Int)] W fun e W' => e = .returned (.bool (fig s[k])) ∧ W = W') := fun W => figure_any _ W
      have HG := Lib.hid (goes_or s[k])
      cases hg : goes s[k]
      · have HX : Hid (p + 1 + run_ goes s (p + 1) = k) := by
          have := HK.out
          rw [run_no hlt hg] at this
          unfold Hid; omega
        have hb := HG.out
        rw [hg] at hb
        simp only [Bool.false_eq, Bool.or_eq_false_iff] at hb
        obtain ⟨⟨b1, b2⟩, b3⟩ := hb
        rw [b1] at CL
        rw [b2] at CF
        clear hg b1 b2
        go_wp2_with (first
          | (go_at_call 35; refine (CL.out _).mono ?_; rintro e w1 ⟨rfl, rfl⟩)
          | (go_at_call 36; refine (CF.out _).mono ?_; rintro e w1 ⟨rfl, rfl⟩))
        go_ret2
        exact ⟨by rw [HE.out, tokR, show p + run_ goes s (p + 1) + 1 = k by have := HX.out; omega]; rfl, by trivial⟩
      · have HX : Hid (k + 1 + run_ goes s (k + 1) = p + 1 + run_ goes s (p + 1)) := by
          have := HK.out
          rw [run_yes hlt hg] at this
          unfold Hid; omega
        have hb := HG.out
        rw [hg] at hb
        clear hg
        cases h1 : ltr s[k]
        · rw [h1] at CL
          cases h2 : fig s[k]
          · rw [h2] at CF
            have b3 : ((s[k].toNat : Int) == 95) = true := by rw [h1, h2] at hb; simpa using hb.symm
            clear h1 h2 hb
            go_wp2_with (first
              | (go_at_call 35; refine (CL.out _).mono ?_; rintro e w1 ⟨rfl, rfl⟩)
              | (go_at_call 36; refine (CF.out _).mono ?_; rintro e w1 ⟨rfl, rfl⟩))
            go_roundw
            case rel => exact ⟨k + 1, by omega, by omega, by go_num, HX, by trivial⟩
            case measure => simp [intOf]; omega
          · rw [h2] at CF
            clear h1 h2 hb
            go_wp2_with (first
              | (go_at_call 35; refine (CL.out _).mono ?_; rintro e w1 ⟨rfl, rfl⟩)
              | (go_at_call 36; refine (CF.out _).mono ?_; rintro e w1 ⟨rfl, rfl⟩))
            go_roundw
            case rel => exact ⟨k + 1, by omega, by omega, by go_num, HX, by trivial⟩
            case measure => simp [intOf]; omega
        · rw [h1] at CL
          clear h1 hb
          go_wp2_with (go_at_call 35; refine (CL.out _).mono ?_; rintro e w1 ⟨rfl, rfl⟩)
          go_roundw
          case rel => exact ⟨k + 1, by omega, by omega, by go_num, HX, by trivial⟩
          case measure => simp [intOf]; omega
    · have HX : Hid (p + 1 + run_ goes s (p + 1) = k) := by
        have := HK.out
        rw [run_end (by omega)] at this
        unfold Hid; omega
      go_wp2_with fail
      go_ret2
      exact ⟨by rw [HE.out, tokR, show p + run_ goes s (p + 1) + 1 = k by have := HX.out; omega]; rfl, by trivial⟩

set_option maxRecDepth 100000 in
set_option maxHeartbeats 2000000 in
theorem token_number (s : ByteArray) (p : Nat) (w : World) (hp : p < s.size) (hs : s.size ≤ 1000000) (hc : ltr s[p] = false) (hf : fig s[p] = true) :
    Calls Tryd.prog 19 #[.string s, .int .i64 (p : Int)] w fun e w' => e = tokR p (tk s[p] (from_ s (p + 1))) ∧ w = w' := by
  have HE := Lib.hid (tk_go s p hp)
  have HG : Hid (goE s p s[p] = numE s p ∧ kindC s[p] = 2) := by unfold Hid goE kindC; simp [hc, hf]
  have HS := Lib.hid (num_at s p hp hf)
  have HR := Lib.hid (run_yes hp hf)
  have C0 : Hid (∀ W, Calls Tryd.prog 35 #[.int .u8 (s[p].toNat : Int)] W fun e W' => e = .returned (.bool false) ∧ W = W') := fun W => by
    have := letter_any (s[p].toNat : Int) W
    have e : ltrI (s[p].toNat : Int) = ltr s[p] := rfl
    rw [e, hc] at this
    exact this
  have hb := (fig_iff s[p]).1 hf
  have f1 : decide (48 ≤ (s[p].toNat : Int)) = true := decide_eq_true (by omega)
  have f2 : decide ((s[p].toNat : Int) ≤ 57) = true := decide_eq_true (by omega)
  clear hc hf
  go_enter Tryd.func19, Tryd.ntmps19
  go_wp2_with (go_at_call 35; refine (C0.out _).mono ?_; rintro e w1 ⟨rfl, rfl⟩)
  go_loopw [6] (fun i wr => ∃ k : Nat, p + 1 ≤ k ∧ k ≤ s.size ∧ i = .int .i64 k ∧ Hid (k + run_ fig s k = p + run_ fig s p) ∧ wr = w) (fun i _ => s.size - (intOf i).toNat)
  case atStart => exact ⟨p + 1, Nat.le_refl _, by omega, by go_num, by (have := HR.out; unfold Hid; omega), rfl⟩
  case round =>
    clear f1 f2 hb
    obtain ⟨k, hpk, hk, rfl, HK, rfl⟩ := hrel
    by_cases hlt : k < s.size ∧ fig (s[k]?.getD 0) = true
    · obtain ⟨hlt, hg'⟩ := hlt
      have hg : fig s[k] = true := by simpa [hlt] using hg'
      have HX : Hid (k + 1 + run_ fig s (k + 1) = p + run_ fig s p) := by
        have := HK.out
        rw [run_yes hlt hg] at this
        unfold Hid; omega
      have hb := (fig_iff s[k]).1 hg
      have f1 : decide (48 ≤ (s[k].toNat : Int)) = true := decide_eq_true (by omega)
      have f2 : decide ((s[k].toNat : Int) ≤ 57) = true := decide_eq_true (by omega)
      clear hg hg'
      go_wp2_with fail
      go_roundw
      case rel => exact ⟨k + 1, by omega, by omega, by go_num, HX, by trivial⟩
      case measure => simp [intOf]; omega
    · have HX : Hid (p + run_ fig s p = k) := by
        have h1 := HK.out
        by_cases h : k < s.size
        · have hg : fig s[k] = false := by
            cases hg : fig s[k]
            · rfl
            · exact absurd ⟨h, by simpa [h] using hg⟩ hlt
          rw [run_no h hg] at h1
          unfold Hid; omega
        · rw [run_end (by omega)] at h1
          unfold Hid; omega
      have HC := cut_ref s p k (by omega) hk
      have HS' := HS.out
      rw [HX.out] at HS'
      have CN : Hid (∀ W, Calls Tryd.prog 37 #[.string (s.extract p k)] W fun e W' => (∃ v : Int, e = .returned (.tuple #[.int .i64 v, .bool (decide (numE s p ≠ 0))])) ∧ W = W') := fun W => by
        have := refNumber_any (s.extract p k) W (by simp; omega)
        rw [HS'] at this
        exact this.mono (fun e W' h => ⟨⟨_, h.1⟩, h.2⟩)
      clear HS'
      have stop : (∀ d : Bool, decide (numE s p ≠ 0) = d → (d = true → Hid (tk s[p] (from_ s (p + 1)) = some (2, k - p - 1))) ∧ (d = false → Hid (tk s[p] (from_ s (p + 1)) = none))) := fun d hd => by
        have h1 := HE.out
        rw [HG.out.1, HG.out.2] at h1
        refine ⟨fun e => ?_, fun e => ?_⟩
        · subst e
          have hn : numE s p ≠ 0 := of_decide_eq_true hd
          rw [if_neg hn, numE_run s p hn] at h1
          unfold Hid
          rw [h1, show run_ fig s p - 1 = k - p - 1 by have := HX.out; omega]
          rfl
        · subst e
          have hn : ¬ numE s p ≠ 0 := of_decide_eq_false hd
          rw [if_pos (by omega)] at h1
          exact h1
      have HP := Lib.hid stop
      clear stop
      by_cases h : k < s.size
      · have hg : fig s[k] = false := by
          cases hg : fig s[k]
          · rfl
          · exact absurd ⟨h, by simpa [h] using hg⟩ hlt
        have hb : s[k].toNat < 48 ∨ 57 < s[k].toNat := by
          rcases Nat.lt_or_ge s[k].toNat 48 with h1 | h1
          · exact .inl h1
          · rcases Nat.lt_or_ge 57 s[k].toNat with h2 | h2
            · exact .inr h2
            · rw [(fig_iff s[k]).2 ⟨h1, h2⟩] at hg; cases hg
        clear hlt hg
        rcases hb with hb | hb
        · have f1 : decide (48 ≤ (s[k].toNat : Int)) = false := decide_eq_false (by omega)
          generalize hd : decide (numE s p ≠ 0) = d at CN
          have HQ := Lib.hid (HP.out d hd)
          clear hd
          cases d
          all_goals
            go_wp2_with (go_at_call 37; refine (CN.out _).mono ?_; rintro e w1 ⟨⟨v, rfl⟩, rfl⟩)
            go_ret2
          · exact ⟨by rw [(HQ.out.2 (by trivial)).out]; rfl, by trivial⟩
          · exact ⟨by rw [(HQ.out.1 (by trivial)).out, tokR, show p + (k - p - 1) + 1 = k by omega]; rfl, by trivial⟩
        · have f1 : decide (48 ≤ (s[k].toNat : Int)) = true := decide_eq_true (by omega)
          have f2 : decide ((s[k].toNat : Int) ≤ 57) = false := decide_eq_false (by omega)
          generalize hd : decide (numE s p ≠ 0) = d at CN
          have HQ := Lib.hid (HP.out d hd)
          clear hd
          cases d
          all_goals
            go_wp2_with (go_at_call 37; refine (CN.out _).mono ?_; rintro e w1 ⟨⟨v, rfl⟩, rfl⟩)
            go_ret2
          · exact ⟨by rw [(HQ.out.2 (by trivial)).out]; rfl, by trivial⟩
          · exact ⟨by rw [(HQ.out.1 (by trivial)).out, tokR, show p + (k - p - 1) + 1 = k by omega]; rfl, by trivial⟩
      · clear hlt
        generalize hd : decide (numE s p ≠ 0) = d at CN
        have HQ := Lib.hid (HP.out d hd)
        clear hd
        cases d
        all_goals
          go_wp2_with (go_at_call 37; refine (CN.out _).mono ?_; rintro e w1 ⟨⟨v, rfl⟩, rfl⟩)
          go_ret2
        · exact ⟨by rw [(HQ.out.2 (by trivial)).out]; rfl, by trivial⟩
        · exact ⟨by rw [(HQ.out.1 (by trivial)).out, tokR, show p + (k - p - 1) + 1 = k by omega]; rfl, by trivial⟩
end Go.Proofs.YtmbdbmjnibfmgaaDoor.Lx
