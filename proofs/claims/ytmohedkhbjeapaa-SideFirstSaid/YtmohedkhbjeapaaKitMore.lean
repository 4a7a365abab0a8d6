/-
  A region that draws its order: what is held may be made more at any step (behind a call: what the call gave).
-/
import Derived.Test.YtmohedkhbjeapaaKitStep
namespace Go.Proofs.Ytmohedkhbjeapaa.Kit

section
variable {P : Program} {md : Region.Mode} {ops : Array Oper} {Q : Exit → Act → World → Prop} {S S' : World → Prop}
theorem more_w (hS : ∀ w, S' w → S w) : ∀ (fuel : Nat) (listed : Array Bool) (a : Act) (w : World), wpAnyH P md ops Q S' fuel listed a w → wpAnyH P md ops Q S fuel listed a w
  | 0, _, _, _, h => h
  | fuel + 1, _, _, _, h => ⟨h.1, fun i hi => wpOp_mono (fun a' w' h' => ⟨hS _ h'.1, more_w hS fuel _ a' w' h'.2⟩) (h.2 i hi)⟩
end
end Go.Proofs.Ytmohedkhbjeapaa.Kit
