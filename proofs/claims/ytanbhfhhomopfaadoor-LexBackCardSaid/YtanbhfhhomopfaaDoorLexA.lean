/-
  Contracts of package lex's leaves, and of the document's: which bytes are letters, figures, blanks, and go on in a name.
-/
import Derived.Test.YtanbhfhhomopfaaDoorKit
namespace Go.Proofs.YtanbhfhhomopfaaDoor.Lx
open Go.RowKit Kit

def figI (c : Int) : Bool := decide (48 ≤ c) && decide (c ≤ 57)
def ltrI (c : Int) : Bool := (decide (97 ≤ c) && decide (c ≤ 122)) || (decide (65 ≤ c) && decide (c ≤ 90))
def goesI (c : Int) : Bool := ltrI c || figI c || (c == 95)
def blankI (c : Int) : Bool := (c == 32) || (c == 9) || (c == 10)

theorem isFigure_any (c : Int) (w : World) :
    Calls Tryd.prog 29 #[.int .u8 c] w fun e w' => e = .returned (.bool (figI c)) ∧ w = w' := by
  go_enter Tryd.func29, Tryd.ntmps29
  go_wp2
  all_goals go_ret
  all_goals refine ⟨?_, rfl⟩
  all_goals (refine congrArg (fun b => Ending.returned (Value.bool b)) ?_; rw [Bool.eq_iff_iff]; (try simp only [figI, Bool.and_eq_true, decide_eq_true_eq]); first | done | omega | (refine ⟨fun _ => ?_, fun _ => ?_⟩ <;> first | trivial | omega))

theorem isLetter_any (c : Int) (w : World) :
    Calls Tryd.prog 27 #[.int .u8 c] w fun e w' => e = .returned (.bool (ltrI c)) ∧ w = w' := by
  go_enter Tryd.func27, Tryd.ntmps27
  go_wp2
  all_goals go_ret
  all_goals refine ⟨?_, rfl⟩
  all_goals (refine congrArg (fun b => Ending.returned (Value.bool b)) ?_; rw [Bool.eq_iff_iff]; (try simp only [ltrI, Bool.or_eq_true, Bool.and_eq_true, decide_eq_true_eq]); first | done | omega | (refine ⟨fun _ => ?_, fun _ => ?_⟩ <;> first | trivial | omega))

theorem isBlank_any (c : Int) (w : World) :
    Calls Tryd.prog 21 #[.int .u8 c] w fun e w' => e = .returned (.bool (blankI c)) ∧ w = w' := by
  go_enter Tryd.func21, Tryd.ntmps21
  go_wp2
  all_goals go_ret
  all_goals refine ⟨?_, rfl⟩
  all_goals (refine congrArg (fun b => Ending.returned (Value.bool b)) ?_; rw [Bool.eq_iff_iff]; (try simp only [blankI, Bool.or_eq_true, beq_iff_eq]); first | done | omega | (refine ⟨fun _ => ?_, fun _ => ?_⟩ <;> first | trivial | omega))

theorem figure_any (c : Int) (w : World) :
    Calls Tryd.prog 32 #[.int .u8 c] w fun e w' => e = .returned (.bool (figI c)) ∧ w = w' := by
  go_enter Tryd.func32, Tryd.ntmps32
  go_wp2
  all_goals go_ret
  all_goals refine ⟨?_, rfl⟩
  all_goals (refine congrArg (fun b => Ending.returned (Value.bool b)) ?_; rw [Bool.eq_iff_iff]; (try simp only [figI, Bool.and_eq_true, decide_eq_true_eq]); first | done | omega | (refine ⟨fun _ => ?_, fun _ => ?_⟩ <;> first | trivial | omega))

theorem letter_any (c : Int) (w : World) :
    Calls Tryd.prog 31 #[.int .u8 c] w fun e w' => e = .returned (.bool (ltrI c)) ∧ w = w' := by
  go_enter Tryd.func31, Tryd.ntmps31
  go_wp2
  all_goals go_ret
  all_goals refine ⟨?_, rfl⟩
  all_goals (refine congrArg (fun b => Ending.returned (Value.bool b)) ?_; rw [Bool.eq_iff_iff]; (try simp only [ltrI, Bool.or_eq_true, Bool.and_eq_true, decide_eq_true_eq]); first | done | omega | (refine ⟨fun _ => ?_, fun _ => ?_⟩ <;> first | trivial | omega))

theorem goesOn_any (c : Int) (w : World) :
    Calls Tryd.prog 40 #[.int .u8 c] w fun e w' => e = .returned (.bool (goesI c)) ∧ w = w' := by
  cases h1 : ltrI c
  · cases h2 : figI c
    · have HR : Hid (goesI c = (c == 95)) := by simp [goesI, h1, h2, Hid]
      go_enter Tryd.func40, Tryd.ntmps40
      go_wp2_with fail
      refine (isLetter_any _ _).mono ?_
      rintro e w1 ⟨rfl, rfl⟩
      go_wp2_with fail
      refine (isFigure_any _ _).mono ?_
      rintro e w1 ⟨rfl, rfl⟩
      go_wp2_with fail
      go_ret
      exact ⟨by rw [HR.out]; rfl, rfl⟩
    · have HR : Hid (goesI c = true) := by simp [goesI, h2, Hid]
      go_enter Tryd.func40, Tryd.ntmps40
      go_wp2_with fail
      refine (isLetter_any _ _).mono ?_
      rintro e w1 ⟨rfl, rfl⟩
      go_wp2_with fail
      refine (isFigure_any _ _).mono ?_
      rintro e w1 ⟨rfl, rfl⟩
      go_wp2_with fail
      go_ret
      exact ⟨by rw [HR.out]; rfl, rfl⟩
  · have HR : Hid (goesI c = true) := by simp [goesI, h1, Hid]
    go_enter Tryd.func40, Tryd.ntmps40
    go_wp2_with fail
    refine (isLetter_any _ _).mono ?_
    rintro e w1 ⟨rfl, rfl⟩
    go_wp2_with fail
    go_ret
    exact ⟨by rw [HR.out]; rfl, rfl⟩
end Go.Proofs.YtanbhfhhomopfaaDoor.Lx
