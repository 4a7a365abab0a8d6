/-
  Contract of package lex's Number, and what it leans on.
-/
import Derived.Test.YtmbdbmjnibfmgaaDoorRef6C
import Derived.Test.YtmbdbmjnibfmgaaDoorKitTg
import Derived.Test.YtmbdbmjnibfmgaaDoorShelf
import Derived.Lib.SmallJoins
namespace Go.Proofs.YtmbdbmjnibfmgaaDoor.Lx
open Go.RowKit Kit Rw

theorem isFigure_any (c : Int) (w : World) :
    Calls Tryd.prog 80 #[.int .u8 c] w fun e w' => e = .returned (.bool (figI c)) ∧ w = w' := by
  go_enter Tryd.func80, Tryd.ntmps80
  go_wp2
  all_goals go_ret
  all_goals refine ⟨?_, rfl⟩
  all_goals (refine congrArg (fun b => Ending.returned (Value.bool b)) ?_; rw [Bool.eq_iff_iff]; (try simp only [figI, Bool.and_eq_true, decide_eq_true_eq]); first | done | omega | (refine ⟨fun _ => ?_, fun _ => ?_⟩ <;> first | trivial | omega))

set_option maxRecDepth 100000 in
theorem overFig (f : UInt8 → Bool) (s : ByteArray) (p : Nat) (w : World) (hp : p ≤ s.size) (hs : s.size ≤ maxLen)
    (hS : ∀ (c : UInt8) (W : World), Calls Tryd.prog 80 #[.int .u8 (c.toNat : Int)] W fun e W' => e = .returned (.bool (f c)) ∧ W = W') :
    Calls Tryd.prog 79 #[.string s, .int .i64 (p : Int), .func (.func 80) #[] #[]] w fun e w' => e = .returned (.int .i64 ((p + run_ f s p : Nat) : Int)) ∧ w = w' := by
  have HS := Lib.hid hS
  clear hS
  unfold maxLen at hs
  go_enter Tryd.func79, Tryd.ntmps79
  go_wp2_with fail
  go_loopw [1] (fun i wr => ∃ k : Nat, k ≤ s.size ∧ i = .int .i64 k ∧ Hid (k + run_ f s k = p + run_ f s p) ∧ wr = w) (fun i _ => s.size - (intOf i).toNat)
  case atStart => exact ⟨p, hp, rfl, Lib.hid rfl, rfl⟩
  case round =>
    obtain ⟨k, hk, rfl, HK, rfl⟩ := hrel
    by_cases hlt : k < s.size
    · cases hf : f s[k]
      · have HE : Hid (p + run_ f s p = k) := by
          have := HK.out
          rw [run_no hlt hf] at this
          unfold Hid; omega
        have C : Hid (Calls Tryd.prog 80 #[.int .u8 (s[k].toNat : Int)] wr fun e W' => e = .returned (.bool false) ∧ wr = W') := by
          have := HS.out s[k] wr
          rw [hf] at this
          exact this
        clear hf
        go_wp2_with (go_at_call 80; refine C.out.mono ?_; rintro e w1 ⟨rfl, rfl⟩)
        go_ret
        exact ⟨by rw [HE.out]; rfl, rfl⟩
      · have HE : Hid (k + 1 + run_ f s (k + 1) = p + run_ f s p) := by
          have := HK.out
          rw [run_yes hlt hf] at this
          unfold Hid; omega
        have C : Hid (Calls Tryd.prog 80 #[.int .u8 (s[k].toNat : Int)] wr fun e W' => e = .returned (.bool true) ∧ wr = W') := by
          have := HS.out s[k] wr
          rw [hf] at this
          exact this
        clear hf
        go_wp2_with (go_at_call 80; refine C.out.mono ?_; rintro e w1 ⟨rfl, rfl⟩)
        go_roundw
        case rel => exact ⟨k + 1, by omega, by go_num, HE, trivial⟩
        case measure => simp [intOf]; omega
    · have HE : Hid (p + run_ f s p = k) := by
        have := HK.out
        rw [run_end (by omega)] at this
        unfold Hid; omega
      go_wp2_with fail
      go_ret
      exact ⟨by rw [HE.out]; rfl, rfl⟩

set_option maxRecDepth 100000 in
theorem numberEnd_any (s : ByteArray) (p : Nat) (w : World) (hp : p < s.size) (hs : s.size ≤ maxLen) :
    Calls Tryd.prog 73 #[.string s, .int .i64 (p : Int)] w fun e w' => e = .returned (.int .i64 ((p + numE s p : Nat) : Int)) ∧ w = w' := by
  have HH : Hid ((from_ s p).head? = some s[p]) := by unfold Hid; rw [from_at s p hp]; rfl
  have HN := Lib.hid (run_le fig s p)
  generalize hn : run_ fig s p = n at HN
  have Hn := Lib.hid hn
  have hle := HN.out
  unfold maxLen at hs
  have C : Hid (Calls Tryd.prog 79 #[.string s, .int .i64 (p : Int), .func (.func 80) #[] #[]] w fun e w' => e = .returned (.int .i64 ((p + n : Nat) : Int)) ∧ w = w') := by
    rw [← hn]
    exact overFig fig s p w (by omega) hs (fun c W => isFigure_any c.toNat W)
  clear hn
  have hpn : ((p + n : Nat) : Int) - (p : Int) = (n : Int) := by omega
  by_cases h9 : 9 < n
  · have d9 : decide (9 < (p : Int) + n - p) = true := decide_eq_true (by omega)
    have HE : Hid (numE s p = 0) := by unfold Hid numE; rw [Hn.out, if_pos (.inl h9)]
    go_enter Tryd.func73, Tryd.ntmps73
    go_wp2_with fail
    refine C.out.mono ?_
    rintro e w1 ⟨rfl, rfl⟩
    go_wp2_with fail
    go_ret
    exact ⟨by rw [HE.out]; rfl, rfl⟩
  · have d9 : decide (9 < (p : Int) + n - p) = false := decide_eq_false (by omega)
    by_cases h1 : 1 < n
    · have d1 : decide (1 < (p : Int) + n - p) = true := decide_eq_true (by omega)
      by_cases hc : s[p] = 48
      · have HE : Hid (numE s p = 0) := by unfold Hid numE; rw [Hn.out, if_pos (.inr ⟨h1, by rw [HH.out, hc]⟩)]
        have hc' : ((s[p].toNat : Int) == 48) = true := by rw [hc]; rfl
        clear hc
        go_enter Tryd.func73, Tryd.ntmps73
        go_wp2_with fail
        refine C.out.mono ?_
        rintro e w1 ⟨rfl, rfl⟩
        go_wp2_with fail
        go_ret
        exact ⟨by rw [HE.out]; rfl, rfl⟩
      · have HE : Hid (numE s p = n) := by
          unfold Hid numE
          rw [Hn.out, if_neg]
          rintro (h | ⟨_, h⟩)
          · omega
          · rw [HH.out] at h
            injection h with h
            exact hc h
        have hc' : ((s[p].toNat : Int) == 48) = false := beq_eq_false_iff_ne.2 fun h => hc ((u8_eq _ _).2 h)
        clear hc
        go_enter Tryd.func73, Tryd.ntmps73
        go_wp2_with fail
        refine C.out.mono ?_
        rintro e w1 ⟨rfl, rfl⟩
        go_wp2_with fail
        go_ret
        exact ⟨by rw [HE.out]; rfl, rfl⟩
    · have d1 : decide (1 < (p : Int) + n - p) = false := decide_eq_false (by omega)
      have HE : Hid (numE s p = n) := by
        unfold Hid numE
        rw [Hn.out, if_neg]
        omega
      go_enter Tryd.func73, Tryd.ntmps73
      go_wp2_with fail
      refine C.out.mono ?_
      rintro e w1 ⟨rfl, rfl⟩
      go_wp2_with fail
      go_ret
      exact ⟨by rw [HE.out]; rfl, rfl⟩
theorem dec_cons (a : Nat) (b : UInt8) (r : List UInt8) (hb : 48 ≤ b.toNat ∧ b.toNat ≤ 57) : Lib.decFrom a (b :: r) = Lib.decFrom (a * 10 + (b.toNat - 48)) r := by
  simp only [Lib.decFrom, Lib.digitVal, if_pos hb]
theorem dec_val (l : List UInt8) : ∀ a : Nat, l.all fig = true → Lib.decFrom a l = some (valL a l) := by
  induction l with
  | nil => intro a _; rfl
  | cons b r ih =>
    intro a h
    simp only [List.all_cons, Bool.and_eq_true] at h
    rw [dec_cons a b r ((fig_iff b).1 h.1)]
    exact ih _ h.2
theorem atoi_val (l : List UInt8) (h : l.all fig = true) (h0 : l ≠ []) : Lib.atoi l = some ((valL 0 l : Nat) : Int) := by
  cases l with
  | nil => exact absurd rfl h0
  | cons b r =>
    have hd := dec_val (b :: r) 0 h
    simp only [List.all_cons, Bool.and_eq_true] at h
    have hb := (fig_iff b).1 h.1
    have h45 : (b == 45) = false := beq_eq_false_iff_ne.2 fun e => by subst e; simp at hb
    have h43 : (b == 43) = false := beq_eq_false_iff_ne.2 fun e => by subst e; simp at hb
    simp [Lib.atoi, h45, h43, Lib.decNat, hd]

theorem q_bytes (w : World) (t : TypeId) (s : ByteArray) : Q w (Lib.bytesWorld w t s) := Joins.below_bytesWorld _ w t s (Nat.le_refl _)

/-- what Number answers -/
def NumPost (l : List UInt8) (w : World) (e : Ending) (w' : World) : Prop :=
  e = .returned (.tuple #[.int .i64 (((numOf l).getD 0 : Nat) : Int), .bool (numOf l).isSome]) ∧ Q w w'

set_option maxRecDepth 100000 in
set_option maxHeartbeats 1000000 in
theorem number_any (s : ByteArray) (w : World) (hs : s.size ≤ 1000000) :
    Calls Tryd.prog 70 #[.string s] w (NumPost s.data.toList w) := by
  by_cases h0 : s.size = 0
  · have es : s = ByteArray.empty := ByteArray.ext (Array.eq_empty_of_size_eq_zero h0)
    subst es
    go_enter Tryd.func70, Tryd.ntmps70
    go_wp2_with fail
    go_ret2
    exact ⟨rfl, Q.refl _⟩
  · have he : ¬ s.toList = [] := fun e => h0 (by
      rw [ByteArray.toList_eq] at e
      have : s.data.toList.length = s.size := by simp
      rw [e] at this
      simpa using this.symm)
    have he2 : s.toList.isEmpty = false := by cases h : s.toList with
      | nil => exact absurd h he
      | cons a b => rfl
    have C1 : Hid (Calls Tryd.prog 73 #[.string s, .int .i64 0] w fun e w' => e = .returned (.int .i64 ((numE s 0 : Nat) : Int)) ∧ w = w') := by
      have := numberEnd_any s 0 w (by omega) (by unfold maxLen; omega)
      rw [Nat.zero_add] at this
      exact this
    have HN := Lib.hid (num_end s (by omega))
    generalize numE s 0 = n at *
    by_cases hn : n = s.size
    · subst hn
      obtain ⟨v, hv⟩ := Option.isSome_iff_exists.1 (HN.out.1 rfl)
      obtain ⟨x1, x2, x3, x4⟩ := numOf_some hv
      have hl : s.data.toList.length = s.size := by simp
      rw [hl] at x2
      have C2 := Lib.hid (Tryd.strconv_Atoi s (v : Int) (by omega) (by rw [x4]; exact atoi_val _ x3 x1))
      have HE : Hid ((numOf s.data.toList).getD 0 = v ∧ (numOf s.data.toList).isSome = true) := by rw [hv]; exact ⟨rfl, rfl⟩
      have hd : ((s.size : Int) != (s.size : Int)) = false := by simp
      clear hv x1 x3 x4 hl
      go_enter Tryd.func70, Tryd.ntmps70
      go_wp2_with (first
        | (go_at_call 73; refine C1.out.mono ?_; rintro e w1 ⟨rfl, rfl⟩)
        | (go_at_call 74; refine (C2.out _).mono ?_; rintro e w1 ⟨rfl, t, rfl⟩))
      go_ret2
      exact ⟨by rw [HE.out.1, HE.out.2]; rfl, q_bytes _ _ _⟩
    · have HE : Hid (numOf s.data.toList = none) := by
        cases hv : numOf s.data.toList with
        | none => rfl
        | some v => exact absurd (HN.out.2 (by rw [hv]; rfl)) hn
      have hd : ((n : Int) != (s.size : Int)) = true := by simp; omega
      go_enter Tryd.func70, Tryd.ntmps70
      go_wp2_with (go_at_call 73; refine C1.out.mono ?_; rintro e w1 ⟨rfl, rfl⟩)
      go_ret2
      exact ⟨by rw [HE.out]; rfl, Q.refl _⟩
end Go.Proofs.YtmbdbmjnibfmgaaDoor.Lx

