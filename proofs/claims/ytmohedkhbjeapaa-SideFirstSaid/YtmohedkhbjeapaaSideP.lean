/-
  Contracts of package side: Of, Check, Vars, to the plain functions of layer 8.
-/
import Derived.Test.YtmohedkhbjeapaaSideC
import Derived.Test.YtmohedkhbjeapaaSideW
namespace Go.Proofs.Ytmohedkhbjeapaa.Ex
open Go.RowKit Kit Rw
open Go.Proofs.Ytmohedkhbjeapaa.Sg (Sig Row)

def SideOf (F : List UInt8) (w : World) (e : Ending) (w' : World) : Prop := ∃ A c, e = .returned (.slice A F.length c) ∧ Rds w' w'.heap.size A (cells8 F) ∧ Q w w'
theorem sideOf_any (A B : Option Addr) (m c n d : Nat) (L : List Sig) (l : List Tg) (x : Ex) (s : UInt8) (w : World) (hm : m = L.length) (hn : n = l.length) (hL : Row w w.heap.size A L) (hr : Rds w w.heap.size B (cellsG l)) (hl8 : L.length ≤ 1000) (hl : l.length ≤ 600) (hmay : ∀ t ∈ l, mayN t = true) (hs : runS [] l = some [x]) :
    Calls Try.prog 14 #[.slice A m c, .slice B n d, .int .u8 (s.toNat : Int)] w (SideOf (x.sides L (side0 s)) w) := by
  refine (sideOf_full A B m c n d L l x s w hm hn hL hr hl8 hl hmay hs).mono ?_
  rintro e w1 ⟨g, rfl, hO, _, q1⟩
  exact ⟨_, _, rfl, hO.rds, q1⟩
end Go.Proofs.Ytmohedkhbjeapaa.Ex
