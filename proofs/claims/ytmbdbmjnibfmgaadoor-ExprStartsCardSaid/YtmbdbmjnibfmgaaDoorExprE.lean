/-
  Contract of Starts.
-/
import Derived.Test.YtmbdbmjnibfmgaaDoorExprD
namespace Go.Proofs.YtmbdbmjnibfmgaaDoor.Ex
open Go.RowKit Kit Nm Rw

set_option maxRecDepth 100000 in
set_option maxHeartbeats 400000 in
theorem starts7_any (A : Option Addr) (n c : Nat) (l : List Tg) (x : Ex) (w : World) (hn : n = l.length) (hr : Rds w w.heap.size A (cellsG l)) (hl : l.length ≤ 1000) (hm : ∀ t ∈ l, mayN t = true) (hs : runS [] l = some [x]) :
    Calls Tryd.prog 14 #[.slice A n c] w fun e w' => ∃ S, e = .returned (.slice S l.length l.length) ∧ Rds w' w'.heap.size S (cellsI (startsL l l.length)) ∧ Q w w' := by
  subst hn
  have CL0 := Lib.hid (lay_any A l.length c l x w rfl hr hl hm hs)
  clear hr hm hs
  go_enter Tryd.func14, Tryd.ntmps14
  go_wp2_with fail
  refine CL0.out.mono ?_
  rintro e w1 ⟨S, rfl, hS, q1⟩
  have HS := Lib.hid hS
  have HQ := Lib.hid q1
  clear hS q1
  go_wp2_with fail
  go_ret
  exact ⟨S, rfl, HS.out.q ((Q.refl _).alloc _), HQ.out.alloc _⟩
end Go.Proofs.YtmbdbmjnibfmgaaDoor.Ex
