/-
  Bytes: letters, figures, blanks; what the document says of them (figure, letter).
-/
import Derived.Test.YtmbdbmjnibfmgaaDoorKit
namespace Go.Proofs.YtmbdbmjnibfmgaaDoor.Lx
open Go.RowKit Kit

def figI (c : Int) : Bool := decide (48 ≤ c) && decide (c ≤ 57)
def ltrI (c : Int) : Bool := (decide (97 ≤ c) && decide (c ≤ 122)) || (decide (65 ≤ c) && decide (c ≤ 90))
def goesI (c : Int) : Bool := ltrI c || figI c || (c == 95)
def blankI (c : Int) : Bool := (c == 32) || (c == 9) || (c == 10)

theorem figure_any (c : Int) (w : World) :
    Calls Tryd.prog 36 #[.int .u8 c] w fun e w' => e = .returned (.bool (figI c)) ∧ w = w' := by
  go_enter Tryd.func36, Tryd.ntmps36
  go_wp2
  all_goals go_ret
  all_goals refine ⟨?_, rfl⟩
  all_goals (refine congrArg (fun b => Ending.returned (Value.bool b)) ?_; rw [Bool.eq_iff_iff]; (try simp only [figI, Bool.and_eq_true, decide_eq_true_eq]); first | done | omega | (refine ⟨fun _ => ?_, fun _ => ?_⟩ <;> first | trivial | omega))

theorem letter_any (c : Int) (w : World) :
    Calls Tryd.prog 35 #[.int .u8 c] w fun e w' => e = .returned (.bool (ltrI c)) ∧ w = w' := by
  go_enter Tryd.func35, Tryd.ntmps35
  go_wp2
  all_goals go_ret
  all_goals refine ⟨?_, rfl⟩
  all_goals (refine congrArg (fun b => Ending.returned (Value.bool b)) ?_; rw [Bool.eq_iff_iff]; (try simp only [ltrI, Bool.or_eq_true, Bool.and_eq_true, decide_eq_true_eq]); first | done | omega | (refine ⟨fun _ => ?_, fun _ => ?_⟩ <;> first | trivial | omega))

end Go.Proofs.YtmbdbmjnibfmgaaDoor.Lx
