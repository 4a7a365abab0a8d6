/-
  Numbers, plainly; contract of Number.
-/
import Derived.Test.YtanbhfhhomopfaaDoorLexH
import Derived.Lib.SmallJoins
namespace Go.Proofs.YtanbhfhhomopfaaDoor.Lx
open Go.RowKit Kit Rw

def valL (a : Nat) : List UInt8 → Nat
  | [] => a
  | b :: r => valL (a * 10 + (b.toNat - 48)) r
theorem fig_iff (b : UInt8) : fig b = true ↔ 48 ≤ b.toNat ∧ b.toNat ≤ 57 := by
  simp only [fig, figI, Bool.and_eq_true, decide_eq_true_eq]; omega
theorem dec_cons (a : Nat) (b : UInt8) (r : List UInt8) (hb : 48 ≤ b.toNat ∧ b.toNat ≤ 57) : Lib.decFrom a (b :: r) = Lib.decFrom (a * 10 + (b.toNat - 48)) r := by
  simp only [Lib.decFrom, Lib.digitVal, if_pos hb]
theorem dec_val (l : List UInt8) : ∀ a : Nat, l.all fig = true → Lib.decFrom a l = some (valL a l) := by
  induction l with
  | nil => intro a _; rfl
  | cons b r ih =>
    intro a h
    simp only [List.all_cons, Bool.and_eq_true] at h
    rw [dec_cons a b r ((fig_iff b).1 h.1)]
    exact ih _ h.2
theorem atoi_val (l : List UInt8) (h : l.all fig = true) (h0 : l ≠ []) : Lib.atoi l = some ((valL 0 l : Nat) : Int) := by
  cases l with
  | nil => exact absurd rfl h0
  | cons b r =>
    have hd := dec_val (b :: r) 0 h
    simp only [List.all_cons, Bool.and_eq_true] at h
    have hb := (fig_iff b).1 h.1
    have h45 : (b == 45) = false := beq_eq_false_iff_ne.2 fun e => by subst e; simp at hb
    have h43 : (b == 43) = false := beq_eq_false_iff_ne.2 fun e => by subst e; simp at hb
    simp [Lib.atoi, h45, h43, Lib.decNat, hd]

/-- the number that a text is, if it is one -/
def numOf (l : List UInt8) : Option Nat := if l = [] ∨ 9 < l.length ∨ (l.head? = some 48 ∧ 1 < l.length) ∨ l.all fig = false then none else some (valL 0 l)
theorem take_all {f : UInt8 → Bool} : ∀ l : List UInt8, (l.takeWhile f).length = l.length ↔ l.all f = true
  | [] => by simp
  | a :: l => by
    have ih := take_all (f := f) l
    have hle := takeWhile_le (f := f) l
    cases h : f a
    · simp [h]
    · simp only [List.takeWhile_cons, h, if_true, List.length_cons, List.all_cons, Bool.true_and]
      rw [← ih]; omega
theorem from_zero (s : ByteArray) : from_ s 0 = s.data.toList := rfl
theorem num_end (s : ByteArray) (h : 0 < s.size) : numE s 0 = s.size ↔ (numOf s.data.toList).isSome = true := by
  have hl : s.data.toList.length = s.size := by simp
  have hne : s.data.toList ≠ [] := fun e => by rw [e] at hl; simp at hl; omega
  have ht := take_all (f := fig) s.data.toList
  have hle := takeWhile_le (f := fig) s.data.toList
  unfold numE numOf run_
  rw [from_zero]
  generalize (s.data.toList.takeWhile fig).length = n at *
  generalize s.data.toList = l at *
  rw [hl] at ht hle
  constructor
  · intro e
    by_cases h1 : 9 < n ∨ (1 < n ∧ l.head? = some 48)
    · rw [if_pos h1] at e; omega
    · rw [if_neg h1] at e
      rw [if_neg]
      · rfl
      · rintro (h2 | h2 | ⟨h2, h3⟩ | h2)
        · exact hne h2
        · exact h1 (.inl (by omega))
        · exact h1 (.inr ⟨by omega, h2⟩)
        · rw [ht.1 e] at h2; cases h2
  · intro e
    split at e
    · cases e
    · rename_i h1
      have h2 : l.all fig = true := by
        cases h2 : l.all fig
        · exact absurd (.inr (.inr (.inr h2))) h1
        · rfl
      have h3 := ht.2 h2
      rw [if_neg]
      · exact h3
      · rintro (h4 | ⟨h4, h5⟩)
        · exact h1 (.inr (.inl (by omega)))
        · exact h1 (.inr (.inr (.inl ⟨h5, by omega⟩)))
theorem numOf_some {l : List UInt8} {v : Nat} (h : numOf l = some v) : l ≠ [] ∧ l.length ≤ 9 ∧ l.all fig = true ∧ v = valL 0 l := by
  unfold numOf at h
  split at h
  · cases h
  · rename_i h1
    refine ⟨fun e => h1 (.inl e), ?_, ?_, by injection h with h; exact h.symm⟩
    · rcases Nat.lt_or_ge 9 l.length with h2 | h2
      · exact absurd (.inr (.inl h2)) h1
      · exact h2
    · cases h2 : l.all fig
      · exact absurd (.inr (.inr (.inr h2))) h1
      · rfl
theorem q_bytes (w : World) (t : TypeId) (s : ByteArray) : Q w (Lib.bytesWorld w t s) := Joins.below_bytesWorld _ w t s (Nat.le_refl _)

/-- what Number answers -/
def NumPost (l : List UInt8) (w : World) (e : Ending) (w' : World) : Prop :=
  e = .returned (.tuple #[.int .i64 (((numOf l).getD 0 : Nat) : Int), .bool (numOf l).isSome]) ∧ Q w w'

set_option maxRecDepth 100000 in
set_option maxHeartbeats 1000000 in
theorem number_any (s : ByteArray) (w : World) (hs : s.size ≤ 1000000) :
    Calls Tryd.prog 15 #[.string s] w (NumPost s.data.toList w) := by
  by_cases h0 : s.size = 0
  · have es : s = ByteArray.empty := ByteArray.ext (Array.eq_empty_of_size_eq_zero h0)
    subst es
    go_enter Tryd.func15, Tryd.ntmps15
    go_wp2_with fail
    go_ret2
    exact ⟨rfl, Q.refl _⟩
  · have he : ¬ s.toList = [] := fun e => h0 (by
      rw [ByteArray.toList_eq] at e
      have : s.data.toList.length = s.size := by simp
      rw [e] at this
      simpa using this.symm)
    have he2 : s.toList.isEmpty = false := by cases h : s.toList with
      | nil => exact absurd h he
      | cons a b => rfl
    have C1 : Hid (Calls Tryd.prog 23 #[.string s, .int .i64 0] w fun e w' => e = .returned (.int .i64 ((numE s 0 : Nat) : Int)) ∧ w = w') := by
      have := numberEnd_any s 0 w (by omega) (by unfold maxLen; omega)
      rw [Nat.zero_add] at this
      exact this
    have HN := Lib.hid (num_end s (by omega))
    generalize numE s 0 = n at *
    by_cases hn : n = s.size
    · subst hn
      obtain ⟨v, hv⟩ := Option.isSome_iff_exists.1 (HN.out.1 rfl)
      obtain ⟨x1, x2, x3, x4⟩ := numOf_some hv
      have hl : s.data.toList.length = s.size := by simp
      rw [hl] at x2
      have C2 := Lib.hid (Tryd.strconv_Atoi s (v : Int) (by omega) (by rw [x4]; exact atoi_val _ x3 x1))
      have HE : Hid ((numOf s.data.toList).getD 0 = v ∧ (numOf s.data.toList).isSome = true) := by rw [hv]; exact ⟨rfl, rfl⟩
      have hd : ((s.size : Int) != (s.size : Int)) = false := by simp
      clear hv x1 x3 x4 hl
      go_enter Tryd.func15, Tryd.ntmps15
      go_wp2_with (first
        | (go_at_call 23; refine C1.out.mono ?_; rintro e w1 ⟨rfl, rfl⟩)
        | (go_at_call 24; refine (C2.out _).mono ?_; rintro e w1 ⟨rfl, t, rfl⟩))
      go_ret2
      exact ⟨by rw [HE.out.1, HE.out.2]; rfl, q_bytes _ _ _⟩
    · have HE : Hid (numOf s.data.toList = none) := by
        cases hv : numOf s.data.toList with
        | none => rfl
        | some v => exact absurd (HN.out.2 (by rw [hv]; rfl)) hn
      have hd : ((n : Int) != (s.size : Int)) = true := by simp; omega
      go_enter Tryd.func15, Tryd.ntmps15
      go_wp2_with (go_at_call 23; refine C1.out.mono ?_; rintro e w1 ⟨rfl, rfl⟩)
      go_ret2
      exact ⟨by rw [HE.out]; rfl, Q.refl _⟩
end Go.Proofs.YtanbhfhhomopfaaDoor.Lx
