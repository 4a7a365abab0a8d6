/-
  The document's example, at the head of all statements of layer 1, is as it says.
-/
import Derived.Test.YtoabdeobaogkoaaSigE
namespace Go.Proofs.Ytoabdeobaogkoaa.Sg
open Go.RowKit Kit

def refS : ByteArray := ⟨#[114, 101, 102]⟩
def ppmS : ByteArray := ⟨#[43, 43, 45]⟩
def x1S : ByteArray := ⟨#[88, 49]⟩
theorem ref_con : nameB 97 122 refS.data.toList = true := by decide
theorem x1_var : nameB 65 90 x1S.data.toList = true := by decide
theorem ppm_args : argsB ppmS.data.toList = true := by decide
theorem may_ref : mayI [] refS ppmS = 0 := by
  unfold mayI conB partsB
  rw [ref_con, ppm_args]
  rfl
theorem add_ref : addL [] refS ppmS = [(refS, ppmS)] := by unfold addL; rw [may_ref]; rfl
theorem find_ref : findI refS [(refS, ppmS)] 0 = 0 := by
  unfold findI
  rw [show eqS refS refS = true from (eqS_iff _ _).2 rfl]
  rfl
theorem right_ref : rightB [(refS, ppmS)] = true := by
  unfold rightB rightG conB partsB
  rw [ref_con, ppm_args, find_ref]
  rfl
theorem both_mm : bothI 45 45 = 43 := by decide

set_option maxHeartbeats 400000 in
theorem shown_any (w : World) : Calls Try.prog 8 #[] w fun e w' => e = .returned (.bool true) ∧ Q w w' := by
  go_enter Try.func8, Try.ntmps8
  go_wp2_with fail
  refine (add_any _ _ _ [] refS ppmS _ rfl (fun h => absurd h (by simp)) (by simp)).mono ?_
  rintro e w1 ⟨g, m, rfl, hm, hg, hr, q1⟩
  rw [add_ref] at hm hr
  rw [may_ref]
  obtain rfl : m = 1 := hm
  have Hr := Lib.hid hr
  clear hr
  go_wp2_with fail
  refine (both_any _ _ _).mono ?_
  rintro e w2 ⟨rfl, rfl⟩
  rw [both_mm]
  go_wp2_with fail
  refine (find_any _ _ _ [(refS, ppmS)] refS _ rfl Hr.out (by unfold maxLen; simp)).mono ?_
  rintro e w2 ⟨rfl, q2⟩
  rw [find_ref]
  go_wp2_with fail
  refine (isCon_any refS _).mono ?_
  rintro e w3 ⟨rfl, q3⟩
  rw [ref_con]
  go_wp2_with fail
  refine (isVar_any x1S _).mono ?_
  rintro e w4 ⟨rfl, q4⟩
  rw [x1_var]
  have q14 := (q2.trans q3).trans q4
  go_wp2_with fail
  refine (right_any _ _ _ [(refS, ppmS)] _ rfl ((Hr.out.q (Nat.le_refl _) q14).more q14.size) (by unfold maxLen; simp)).mono ?_
  rintro e w5 ⟨rfl, q5⟩
  rw [right_ref]
  go_wp2_with fail
  go_ret
  exact ⟨rfl, (q1.trans q14).trans q5⟩
end Go.Proofs.Ytoabdeobaogkoaa.Sg
