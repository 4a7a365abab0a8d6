/-
  Contract of the document's token, signs; token whole.
-/
import Derived.Test.YtmbdbmjnibfmgaaDoorRef6E
namespace Go.Proofs.YtmbdbmjnibfmgaaDoor.Lx
open Go.RowKit Kit Rw

theorem tk_sign {c : UInt8} {r : List UInt8} (h1 : ltr c = false) (h2 : fig c = false) : tk c r = (signLen c r).map fun m => (3, m) := by
  unfold tk; simp [h1, h2]
theorem tk_two {c : UInt8} {r : List UInt8} (h1 : ltr c = false) (h2 : fig c = false) (h : c = 60 ∨ c = 58) (hr : r.head? = some 61) : tk c r = some (3, 1) := by
  rw [tk_sign h1 h2, signLen, if_pos ⟨h, hr⟩]; rfl
theorem tk_one {c : UInt8} {r : List UInt8} (h1 : ltr c = false) (h2 : fig c = false) (h : ¬ ((c = 60 ∨ c = 58) ∧ r.head? = some 61)) (hr : decide (c ∈ signs) = true) : tk c r = some (3, 0) := by
  rw [tk_sign h1 h2, signLen, if_neg h, if_pos (of_decide_eq_true hr)]; rfl
theorem tk_no {c : UInt8} {r : List UInt8} (h1 : ltr c = false) (h2 : fig c = false) (h : ¬ ((c = 60 ∨ c = 58) ∧ r.head? = some 61)) (hr : decide (c ∈ signs) = false) : tk c r = none := by
  rw [tk_sign h1 h2, signLen, if_neg h, if_neg (of_decide_eq_false hr)]; rfl

set_option maxRecDepth 100000 in
set_option maxHeartbeats 4000000 in
theorem token_sign (s : ByteArray) (p : Nat) (w : World) (hp : p < s.size) (hs : s.size ≤ 1000000) (hc : ltr s[p] = false) (hf : fig s[p] = false) :
    Calls Tryd.prog 19 #[.string s, .int .i64 (p : Int)] w fun e w' => e = tokR p (tk s[p] (from_ s (p + 1))) ∧ w = w' := by
  have HC := Lib.hid hc
  have HF := Lib.hid hf
  have C0 : Hid (∀ W, Calls Tryd.prog 35 #[.int .u8 (s[p].toNat : Int)] W fun e W' => e = .returned (.bool false) ∧ W = W') := fun W => by
    have := letter_any (s[p].toNat : Int) W
    have e : ltrI (s[p].toNat : Int) = ltr s[p] := rfl
    rw [e, hc] at this
    exact this
  have CS : Hid (∀ W, Calls Tryd.prog 38 #[.int .u8 (s[p].toNat : Int)] W fun e W' => e = .returned (.bool (decide (s[p] ∈ signs))) ∧ W = W') := fun W => refSign_any s[p] W
  have hb : s[p].toNat < 48 ∨ 57 < s[p].toNat := by
    rcases Nat.lt_or_ge s[p].toNat 48 with h1 | h1
    · exact .inl h1
    · rcases Nat.lt_or_ge 57 s[p].toNat with h2 | h2
      · exact .inr h2
      · rw [(fig_iff s[p]).2 ⟨h1, h2⟩] at hf; cases hf
  have c60 : (s[p].toNat : Int) = 60 ↔ s[p] = 60 := ⟨fun h => (u8_eq _ _).2 h, fun h => by rw [h]; rfl⟩
  have c58 : (s[p].toNat : Int) = 58 ↔ s[p] = 58 := ⟨fun h => (u8_eq _ _).2 h, fun h => by rw [h]; rfl⟩
  clear hc hf
  by_cases hl : p + 1 < s.size
  · have d1 : decide ((p : Int) + 1 < (s.size : Int)) = true := decide_eq_true (by omega)
    by_cases h61 : s[p + 1] = 61
    · have HD : (from_ s (p + 1)).head? = some 61 := by rw [from_at s (p + 1) hl, ← h61]; rfl
      have e61 : ((s[p + 1].toNat : Int) == 61) = true := by rw [h61]; rfl
      clear h61
      by_cases x60 : s[p] = 60
      · have e60 : ((s[p].toNat : Int) == 60) = true := beq_iff_eq.2 (c60.2 x60)
        have y60 := c60.2 x60
        have HE : Hid (tk s[p] (from_ s (p + 1)) = some (3, 1)) := tk_two HC.out HF.out (.inl x60) HD
        have f1 : decide (48 ≤ (s[p].toNat : Int)) = true := decide_eq_true (by omega)
        have f2 : decide ((s[p].toNat : Int) ≤ 57) = false := decide_eq_false (by omega)
        clear HD c60 c58 hb y60
        clear x60
        go_enter Tryd.func19, Tryd.ntmps19
        go_wp2_with (first | (go_at_call 35; refine (C0.out _).mono ?_; rintro e w1 ⟨rfl, rfl⟩) | (go_at_call 38; refine (CS.out _).mono ?_; rintro e w1 ⟨rfl, rfl⟩))
        go_ret2
        exact ⟨by rw [HE.out, tokR, show p + 1 + 1 = p + 2 by omega]; rfl, by trivial⟩
      · have e60 : ((s[p].toNat : Int) == 60) = false := beq_eq_false_iff_ne.2 (fun h => x60 (c60.1 h))
        by_cases x58 : s[p] = 58
        · have e58 : ((s[p].toNat : Int) == 58) = true := beq_iff_eq.2 (c58.2 x58)
          have y58 := c58.2 x58
          have HE : Hid (tk s[p] (from_ s (p + 1)) = some (3, 1)) := tk_two HC.out HF.out (.inr x58) HD
          have f1 : decide (48 ≤ (s[p].toNat : Int)) = true := decide_eq_true (by omega)
          have f2 : decide ((s[p].toNat : Int) ≤ 57) = false := decide_eq_false (by omega)
          clear HD c60 c58 hb y58
          clear x58 x60
          go_enter Tryd.func19, Tryd.ntmps19
          go_wp2_with (first | (go_at_call 35; refine (C0.out _).mono ?_; rintro e w1 ⟨rfl, rfl⟩) | (go_at_call 38; refine (CS.out _).mono ?_; rintro e w1 ⟨rfl, rfl⟩))
          go_ret2
          exact ⟨by rw [HE.out, tokR, show p + 1 + 1 = p + 2 by omega]; rfl, by trivial⟩
        · have e58 : ((s[p].toNat : Int) == 58) = false := beq_eq_false_iff_ne.2 (fun h => x58 (c58.1 h))
          have HN : ¬ ((s[p] = 60 ∨ s[p] = 58) ∧ (from_ s (p + 1)).head? = some 61) := fun h => h.1.elim x60 x58
          clear x60 x58 HD
          cases hd : decide (s[p] ∈ signs)
          · rw [hd] at CS
            have HE : Hid (tk s[p] (from_ s (p + 1)) = none) := tk_no HC.out HF.out HN hd
            clear hd HN c60 c58
            rcases hb with hb | hb
            · have f1 : decide (48 ≤ (s[p].toNat : Int)) = false := decide_eq_false (by omega)
              clear hb
              go_enter Tryd.func19, Tryd.ntmps19
              go_wp2_with (first | (go_at_call 35; refine (C0.out _).mono ?_; rintro e w1 ⟨rfl, rfl⟩) | (go_at_call 38; refine (CS.out _).mono ?_; rintro e w1 ⟨rfl, rfl⟩))
              go_ret2
              exact ⟨by rw [HE.out]; rfl, by trivial⟩
            · have f1 : decide (48 ≤ (s[p].toNat : Int)) = true := decide_eq_true (by omega)
              have f2 : decide ((s[p].toNat : Int) ≤ 57) = false := decide_eq_false (by omega)
              clear hb
              go_enter Tryd.func19, Tryd.ntmps19
              go_wp2_with (first | (go_at_call 35; refine (C0.out _).mono ?_; rintro e w1 ⟨rfl, rfl⟩) | (go_at_call 38; refine (CS.out _).mono ?_; rintro e w1 ⟨rfl, rfl⟩))
              go_ret2
              exact ⟨by rw [HE.out]; rfl, by trivial⟩
          · rw [hd] at CS
            have HE : Hid (tk s[p] (from_ s (p + 1)) = some (3, 0)) := tk_one HC.out HF.out HN hd
            clear hd HN c60 c58
            rcases hb with hb | hb
            · have f1 : decide (48 ≤ (s[p].toNat : Int)) = false := decide_eq_false (by omega)
              clear hb
              go_enter Tryd.func19, Tryd.ntmps19
              go_wp2_with (first | (go_at_call 35; refine (C0.out _).mono ?_; rintro e w1 ⟨rfl, rfl⟩) | (go_at_call 38; refine (CS.out _).mono ?_; rintro e w1 ⟨rfl, rfl⟩))
              go_ret2
              exact ⟨by rw [HE.out]; rfl, by trivial⟩
            · have f1 : decide (48 ≤ (s[p].toNat : Int)) = true := decide_eq_true (by omega)
              have f2 : decide ((s[p].toNat : Int) ≤ 57) = false := decide_eq_false (by omega)
              clear hb
              go_enter Tryd.func19, Tryd.ntmps19
              go_wp2_with (first | (go_at_call 35; refine (C0.out _).mono ?_; rintro e w1 ⟨rfl, rfl⟩) | (go_at_call 38; refine (CS.out _).mono ?_; rintro e w1 ⟨rfl, rfl⟩))
              go_ret2
              exact ⟨by rw [HE.out]; rfl, by trivial⟩
    · have e61 : ((s[p + 1].toNat : Int) == 61) = false := beq_eq_false_iff_ne.2 (fun h => h61 ((u8_eq _ _).2 h))
      have HN : ¬ ((s[p] = 60 ∨ s[p] = 58) ∧ (from_ s (p + 1)).head? = some 61) := fun h => by
        have h2 := h.2
        rw [from_at s (p + 1) hl] at h2
        injection h2 with h2
        exact h61 h2
      clear h61
      cases hd : decide (s[p] ∈ signs)
      · rw [hd] at CS
        have HE : Hid (tk s[p] (from_ s (p + 1)) = none) := tk_no HC.out HF.out HN hd
        clear hd HN c60 c58
        rcases hb with hb | hb
        · have f1 : decide (48 ≤ (s[p].toNat : Int)) = false := decide_eq_false (by omega)
          clear hb
          go_enter Tryd.func19, Tryd.ntmps19
          go_wp2_with (first | (go_at_call 35; refine (C0.out _).mono ?_; rintro e w1 ⟨rfl, rfl⟩) | (go_at_call 38; refine (CS.out _).mono ?_; rintro e w1 ⟨rfl, rfl⟩))
          go_ret2
          exact ⟨by rw [HE.out]; rfl, by trivial⟩
        · have f1 : decide (48 ≤ (s[p].toNat : Int)) = true := decide_eq_true (by omega)
          have f2 : decide ((s[p].toNat : Int) ≤ 57) = false := decide_eq_false (by omega)
          clear hb
          go_enter Tryd.func19, Tryd.ntmps19
          go_wp2_with (first | (go_at_call 35; refine (C0.out _).mono ?_; rintro e w1 ⟨rfl, rfl⟩) | (go_at_call 38; refine (CS.out _).mono ?_; rintro e w1 ⟨rfl, rfl⟩))
          go_ret2
          exact ⟨by rw [HE.out]; rfl, by trivial⟩
      · rw [hd] at CS
        have HE : Hid (tk s[p] (from_ s (p + 1)) = some (3, 0)) := tk_one HC.out HF.out HN hd
        clear hd HN c60 c58
        rcases hb with hb | hb
        · have f1 : decide (48 ≤ (s[p].toNat : Int)) = false := decide_eq_false (by omega)
          clear hb
          go_enter Tryd.func19, Tryd.ntmps19
          go_wp2_with (first | (go_at_call 35; refine (C0.out _).mono ?_; rintro e w1 ⟨rfl, rfl⟩) | (go_at_call 38; refine (CS.out _).mono ?_; rintro e w1 ⟨rfl, rfl⟩))
          go_ret2
          exact ⟨by rw [HE.out]; rfl, by trivial⟩
        · have f1 : decide (48 ≤ (s[p].toNat : Int)) = true := decide_eq_true (by omega)
          have f2 : decide ((s[p].toNat : Int) ≤ 57) = false := decide_eq_false (by omega)
          clear hb
          go_enter Tryd.func19, Tryd.ntmps19
          go_wp2_with (first | (go_at_call 35; refine (C0.out _).mono ?_; rintro e w1 ⟨rfl, rfl⟩) | (go_at_call 38; refine (CS.out _).mono ?_; rintro e w1 ⟨rfl, rfl⟩))
          go_ret2
          exact ⟨by rw [HE.out]; rfl, by trivial⟩
  · have d1 : decide ((p : Int) + 1 < (s.size : Int)) = false := decide_eq_false (by omega)
    have HN : ¬ ((s[p] = 60 ∨ s[p] = 58) ∧ (from_ s (p + 1)).head? = some 61) := fun h => by
      have h2 := h.2
      rw [from_end s (p + 1) (by omega)] at h2
      cases h2
    cases hd : decide (s[p] ∈ signs)
    · rw [hd] at CS
      have HE : Hid (tk s[p] (from_ s (p + 1)) = none) := tk_no HC.out HF.out HN hd
      clear hd HN c60 c58
      rcases hb with hb | hb
      · have f1 : decide (48 ≤ (s[p].toNat : Int)) = false := decide_eq_false (by omega)
        clear hb
        go_enter Tryd.func19, Tryd.ntmps19
        go_wp2_with (first | (go_at_call 35; refine (C0.out _).mono ?_; rintro e w1 ⟨rfl, rfl⟩) | (go_at_call 38; refine (CS.out _).mono ?_; rintro e w1 ⟨rfl, rfl⟩))
        go_ret2
        exact ⟨by rw [HE.out]; rfl, by trivial⟩
      · have f1 : decide (48 ≤ (s[p].toNat : Int)) = true := decide_eq_true (by omega)
        have f2 : decide ((s[p].toNat : Int) ≤ 57) = false := decide_eq_false (by omega)
        clear hb
        go_enter Tryd.func19, Tryd.ntmps19
        go_wp2_with (first | (go_at_call 35; refine (C0.out _).mono ?_; rintro e w1 ⟨rfl, rfl⟩) | (go_at_call 38; refine (CS.out _).mono ?_; rintro e w1 ⟨rfl, rfl⟩))
        go_ret2
        exact ⟨by rw [HE.out]; rfl, by trivial⟩
    · rw [hd] at CS
      have HE : Hid (tk s[p] (from_ s (p + 1)) = some (3, 0)) := tk_one HC.out HF.out HN hd
      clear hd HN c60 c58
      rcases hb with hb | hb
      · have f1 : decide (48 ≤ (s[p].toNat : Int)) = false := decide_eq_false (by omega)
        clear hb
        go_enter Tryd.func19, Tryd.ntmps19
        go_wp2_with (first | (go_at_call 35; refine (C0.out _).mono ?_; rintro e w1 ⟨rfl, rfl⟩) | (go_at_call 38; refine (CS.out _).mono ?_; rintro e w1 ⟨rfl, rfl⟩))
        go_ret2
        exact ⟨by rw [HE.out]; rfl, by trivial⟩
      · have f1 : decide (48 ≤ (s[p].toNat : Int)) = true := decide_eq_true (by omega)
        have f2 : decide ((s[p].toNat : Int) ≤ 57) = false := decide_eq_false (by omega)
        clear hb
        go_enter Tryd.func19, Tryd.ntmps19
        go_wp2_with (first | (go_at_call 35; refine (C0.out _).mono ?_; rintro e w1 ⟨rfl, rfl⟩) | (go_at_call 38; refine (CS.out _).mono ?_; rintro e w1 ⟨rfl, rfl⟩))
        go_ret2
        exact ⟨by rw [HE.out]; rfl, by trivial⟩

theorem token_any (s : ByteArray) (p : Nat) (w : World) (hp : p < s.size) (hs : s.size ≤ 1000000) :
    Calls Tryd.prog 19 #[.string s, .int .i64 (p : Int)] w fun e w' => e = tokR p (tk s[p] (from_ s (p + 1))) ∧ w = w' := by
  cases hc : ltr s[p]
  · cases hf : fig s[p]
    · exact token_sign s p w hp hs hc hf
    · exact token_number s p w hp hs hc hf
  · exact token_name s p w hp hs hc
end Go.Proofs.YtmbdbmjnibfmgaaDoor.Lx
