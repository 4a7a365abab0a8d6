/-
  Contracts of package sig's leaves: which bytes a name may have (span.has, goesOn, isName), and how a part of a part varies (isFixed, Both).
-/
import Derived.Test.YtoabdeobaogkoaaKit
namespace Go.Proofs.Ytoabdeobaogkoaa.Sg
open Go.RowKit Kit

def inB (lo hi c : Int) : Bool := decide (lo ≤ c) && decide (c ≤ hi)

theorem has_any (lo hi c : Int) (w : World) :
    Calls Try.prog 26 #[.agg #[.int .u8 lo, .int .u8 hi], .int .u8 c] w fun e w' => e = .returned (.bool (inB lo hi c)) ∧ Q w w' := by
  by_cases h1 : lo ≤ c
  · by_cases h2 : c ≤ hi
    · go_enter Try.func26, Try.ntmps26
      go_wp2
      go_ret
      exact ⟨by simp [inB, h1, h2], (Q.refl _).alloc _⟩
    · go_enter Try.func26, Try.ntmps26
      go_wp2
      go_ret
      exact ⟨by simp [inB, h1, h2], (Q.refl _).alloc _⟩
  · go_enter Try.func26, Try.ntmps26
    go_wp2
    go_ret
    exact ⟨by rw [inB, decide_eq_false (by omega : ¬ lo ≤ c)]; rfl, (Q.refl _).alloc _⟩

def isFixedB (c : Int) : Bool := (c != 43) && (c != 45)

theorem isFixed_any (c : Int) (w : World) :
    Calls Try.prog 24 #[.int .u8 c] w fun e w' => e = .returned (.bool (isFixedB c)) ∧ w = w' := by
  by_cases h1 : c = 43
  · subst h1
    go_enter Try.func24, Try.ntmps24
    go_wp2
    go_ret
    exact ⟨by simp [isFixedB], rfl⟩
  · have h1' : (c != 43) = true := by simpa using h1
    go_enter Try.func24, Try.ntmps24
    go_wp2
    go_ret
    exact ⟨by simp [isFixedB, h1], rfl⟩

def bothI (a b : Int) : Int := if isFixedB a || isFixedB b then 61 else if a == b then 43 else 45

theorem both_any (a b : Int) (w : World) :
    Calls Try.prog 15 #[.int .u8 a, .int .u8 b] w fun e w' => e = .returned (.int .u8 (bothI a b)) ∧ w = w' := by
  cases ha : isFixedB a
  · cases hb : isFixedB b
    · by_cases hab : a = b
      · have hab' : (a == b) = true := by simpa using hab
        have HR : Hid (bothI a b = 43) := by simp [bothI, hb, hab, Hid]
        clear hab
        go_enter Try.func15, Try.ntmps15
        go_wp2_with (go_at_call 24; refine (isFixed_any _ _).mono ?_; rintro e w' ⟨rfl, rfl⟩)
        go_ret
        exact ⟨by rw [HR.out]; rfl, rfl⟩
      · have hab' : (a == b) = false := by simpa using hab
        have HR : Hid (bothI a b = 45) := by simp [bothI, ha, hb, hab, Hid]
        clear hab
        go_enter Try.func15, Try.ntmps15
        go_wp2_with (go_at_call 24; refine (isFixed_any _ _).mono ?_; rintro e w' ⟨rfl, rfl⟩)
        go_ret
        exact ⟨by rw [HR.out]; rfl, rfl⟩
    · have HR : Hid (bothI a b = 61) := by simp [bothI, ha, hb, Hid]
      go_enter Try.func15, Try.ntmps15
      go_wp2_with (go_at_call 24; refine (isFixed_any _ _).mono ?_; rintro e w' ⟨rfl, rfl⟩)
      go_ret
      exact ⟨by rw [HR.out]; rfl, rfl⟩
  · have HR : Hid (bothI a b = 61) := by simp [bothI, ha, Hid]
    go_enter Try.func15, Try.ntmps15
    go_wp2_with (go_at_call 24; refine (isFixed_any _ _).mono ?_; rintro e w' ⟨rfl, rfl⟩)
    go_ret
    exact ⟨by rw [HR.out]; rfl, rfl⟩

/-! ### names -/
def goesB (c : Int) : Bool := inB 97 122 c || inB 65 90 c || inB 48 57 c || (c == 95)

theorem goesOn_any (c : Int) (w : World) :
    Calls Try.prog 31 #[.int .u8 c] w fun e w' => e = .returned (.bool (goesB c)) ∧ Q w w' := by
  cases h1 : inB 97 122 c
  · cases h2 : inB 65 90 c
    · cases h3 : inB 48 57 c
      · have HR : Hid (goesB c = (c == 95)) := by simp [goesB, h1, h2, h3, Hid]
        go_enter Try.func31, Try.ntmps31
        go_wp2_with fail
        refine (has_any _ _ _ _).mono ?_
        rintro e w1 ⟨rfl, q1⟩
        go_wp2_with fail
        refine (has_any _ _ _ _).mono ?_
        rintro e w2 ⟨rfl, q2⟩
        go_wp2_with fail
        refine (has_any _ _ _ _).mono ?_
        rintro e w3 ⟨rfl, q3⟩
        go_wp2_with fail
        go_ret
        exact ⟨by rw [HR.out]; rfl, (q1.trans q2).trans q3⟩
      · have HR : Hid (goesB c = true) := by simp [goesB, h3, Hid]
        go_enter Try.func31, Try.ntmps31
        go_wp2_with fail
        refine (has_any _ _ _ _).mono ?_
        rintro e w1 ⟨rfl, q1⟩
        go_wp2_with fail
        refine (has_any _ _ _ _).mono ?_
        rintro e w2 ⟨rfl, q2⟩
        go_wp2_with fail
        refine (has_any _ _ _ _).mono ?_
        rintro e w3 ⟨rfl, q3⟩
        go_wp2_with fail
        go_ret
        exact ⟨by rw [HR.out]; rfl, (q1.trans q2).trans q3⟩
    · have HR : Hid (goesB c = true) := by simp [goesB, h2, Hid]
      go_enter Try.func31, Try.ntmps31
      go_wp2_with fail
      refine (has_any _ _ _ _).mono ?_
      rintro e w1 ⟨rfl, q1⟩
      go_wp2_with fail
      refine (has_any _ _ _ _).mono ?_
      rintro e w2 ⟨rfl, q2⟩
      go_wp2_with fail
      go_ret
      exact ⟨by rw [HR.out]; rfl, q1.trans q2⟩
  · have HR : Hid (goesB c = true) := by simp [goesB, h1, Hid]
    go_enter Try.func31, Try.ntmps31
    go_wp2_with fail
    refine (has_any _ _ _ _).mono ?_
    rintro e w1 ⟨rfl, q1⟩
    go_wp2_with fail
    go_ret
    exact ⟨by rw [HR.out]; rfl, q1⟩

end Go.Proofs.Ytoabdeobaogkoaa.Sg
