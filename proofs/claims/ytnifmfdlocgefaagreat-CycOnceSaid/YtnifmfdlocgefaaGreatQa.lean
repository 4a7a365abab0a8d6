/-
  What the proof leans on besides.
-/
import Derived.Test.YtnifmfdlocgefaaGreatPa
import Derived.Test.YtnifmfdlocgefaaGreatPb
import Derived.Test.YtnifmfdlocgefaaGreatPc
import Derived.Test.YtnifmfdlocgefaaGreatPd
import Derived.Test.YtnifmfdlocgefaaGreatPe
import Derived.Test.YtnifmfdlocgefaaGreatPf
import Derived.Test.YtnifmfdlocgefaaGreatPg
import Derived.Test.YtnifmfdlocgefaaGreatPh
import Derived.Test.YtnifmfdlocgefaaGreatPi
import Derived.Test.YtnifmfdlocgefaaGreatPj
import Derived.Test.YtnifmfdlocgefaaGreatPk
import Derived.Test.YtnifmfdlocgefaaGreatPl
import Derived.Test.YtnifmfdlocgefaaGreatPm
import Derived.Test.YtnifmfdlocgefaaGreatPn
import Derived.Test.YtnifmfdlocgefaaGreatPo
import Derived.Test.YtnifmfdlocgefaaGreatPp
import Derived.Test.YtnifmfdlocgefaaGreatPq
import Derived.Test.YtnifmfdlocgefaaGreatPr
import Derived.Test.YtnifmfdlocgefaaGreatPs
import Derived.Test.YtnifmfdlocgefaaGreatProg
import Derived.WalkKit
import Derived.ProofKit
import Derived.Carry
import Derived.Handy
import Derived.OpenShut
import Derived.ChangeSame
import Derived.Lib.Hide
import Derived.Deep.Draws
import Derived.Deep.QuietTactic
import Derived.BigQuiet
import Derived.Deep.DeepCutAuto
import Derived.Deep.SlicePairs
import Derived.Lib.SmallJoins
import Derived.Outline
import Derived.RangeFuncNested
import Derived.RangeFuncBound
import Derived.RangeFuncCalls
import Derived.RangeFuncLeaves
import Derived.Shelf.Abstract
import Derived.Shelf.RegionOpen
import Derived.OwnWalkIn
import Derived.TacticsInMore
import Derived.LoopNIn
import Derived.LoopIn
import Derived.Laws.EntriesVeiled
import Derived.Deep.RegionHeld
import Derived.OwnWalk
import Derived.Laws.MakeOwn
import Derived.Laws.OwnMore
import Derived.Maps.AppendAt
import Derived.Deep.AppendLies
import Derived.Deep.RegionLaw
import Derived.RegionTactic
import Derived.Laws.CopyOwn
import Derived.Lib.AppendZeros
import Derived.Lib.SliceRun
import Derived.Deep.RegionHeld3
import Derived.Deep.Matrix
import Derived.SizedLaws
import Derived.Laws.Append
import Derived.Deep.Slices
import Derived.Deep.Fields
import Derived.Laws.StructEq
import Derived.Maps.Own
import Derived.Maps.OwnOps
import Derived.Maps.OwnSet
import Derived.Laws.Cover1
import Derived.ChangeKeysEq
import Derived.Shelf.Sort.Plain
import Derived.Shelf.Slices.Reverse
import Derived.Ground.Names2Prog
import Derived.Shelf.Slices.CompactI
import Derived.Shelf.Slices.In.SortNone
import Derived.Lib.RowBridge
import Derived.Test.YtnifmfdlocgefaaGreatRows
import Derived.Deep.CutBlock
import Derived.Test.YtnifmfdlocgefaaGreatCycFOnce
namespace Go.Proofs.YtnifmfdlocgefaaGreat.Ig
open Go.ChangeShapes Go.WideShapes Go.RowKit Kit Go.Deep Go.Joins
open Go.Proofs.YtnifmfdlocgefaaGreat.Sg (Sig Row Sized)
open Go.Proofs.YtnifmfdlocgefaaGreat.Hs (Keys Ints)
open Go.Proofs.YtnifmfdlocgefaaGreat.Tr (cellsI cellsP Cells Rd Few)
section
variable {H : Type} {enc : TypeId × Value → H} {W : World} {base : Nat}
set_option maxRecDepth 100000 in
theorem open_CycOnceIn {v : Value} {d : DataW H} {p : List MemPlace} (hv : Value.okWide Tryz.prog W .any base 51 v) (h : DataW.Trod enc Tryz.prog W 0 (fun _ => true) true 51 v d p) (hz : ∀ n ∈ d.weights Tryz.prog 51, n ≤ reachBytes) :
    ∃ (L0 A S F Av D E Pa Ta : Option Addr) (nl cl n ca m d cr k1 k2 k3 kp kt : Nat) (l : List Sig) (ks : List (List Int)) (sl : List Int) (R : List Int) (c : Cells) (P T : List (List Int)) (B : Option Addr) (nq eq : Nat) (r : List Int), v = .agg #[.slice L0 nl cl, .slice A n ca, .slice S m d, .slice F (List.length R) cr, .slice Av (List.length (Cells.V c)) k1, .slice D (List.length (Cells.N c)) k2, .slice E (List.length (Cells.M c)) k3, .slice Pa (List.length P) kp, .slice Ta (List.length T) kt, .slice B nq eq] ∧ nl = l.length ∧ Row W W.heap.size L0 l ∧ l.length ≤ maxLen ∧ Sized l ∧ n = ks.length ∧ m = sl.length ∧ Keys W W.heap.size A ks ∧ Ints W W.heap.size S sl ∧ ks.length ≤ 1152921504606846976 ∧ (∀ k ∈ ks, k.length ≤ 1152921504606846976) ∧ sl.length ≤ 1152921504606846976 ∧ GArg W R c P T F Av D E Pa Ta k1 k2 k3 ∧ nq = r.length ∧ Ints W W.heap.size B r ∧ r.length ≤ 1152921504606846976 ∧ nq ≤ eq := by
  obtain ⟨c0, c1, c2, c3, c4, c5, c6, c7, c8, c9, y0, y1, y2, y3, n, rfl, rfl, g0, g1, g2, g3⟩ := open_nest12_4 Tryz.underlying51 (by kernel_rfl) rfl (by kernel_rfl) rfl (by kernel_rfl) rfl (by kernel_rfl) rfl (by kernel_rfl) hv h
  obtain ⟨z0, z1, _, hy, t0, t1⟩ := Go.Proofs.YtnifmfdlocgefaaGreat.St.open_two10 Tryz.underlying26 rfl (by kernel_rfl) rfl (by kernel_rfl) g1
  have hw : DataW.weights Tryz.prog 51 (.agg [y0.1, y1.1, y2.1, y3.1]) = y0.1.weights Tryz.prog 22 ++ (y1.1.weights Tryz.prog 26 ++ (y2.1.weights Tryz.prog 31 ++ (y3.1.weights Tryz.prog 24 ++ ([])))) := by
    simp [DataW.weights, Tryz.underlying51, DataW.weightsEach]
  have hw1 : DataW.weights Tryz.prog 26 (.agg [z0.1, z1.1]) = z0.1.weights Tryz.prog 23 ++ (z1.1.weights Tryz.prog 24 ++ []) := by
    simp [DataW.weights, Tryz.underlying26, DataW.weightsEach]
  rw [hw, hy, hw1] at hz
  obtain ⟨R0, nl, cl, L, rfl, a1, a2, a3, a4, _⟩ := Sg.open_sigs_cells10 g0
  obtain ⟨A, n', c, ks, rfl, hn, hk, hl, hs⟩ := Hs.open_rows_cells t0 (fun n hn => hz n (by simp [hn]))
  obtain ⟨S, m, e, sl, rfl, hm, _, hS, hsl⟩ := Hs.open_row_cells t1 (fun n hn => hz n (by simp [hn]))
  obtain ⟨R, cc, P, T, F, Av, D, E, Pa, Ta, cr, k1, k2, k3, kp, kt, rfl, rfl, rfl, rfl, rfl, rfl, hG⟩ := open_graph g2 (fun n hn => hz n (by simp [hn]))
  obtain ⟨B, nq, eq, r, rfl, hq, hqe, hB, hr9⟩ := Hs.open_row_cells g3 (fun n hn => hz n (by simp [hn]))
  exact ⟨R0, A, S, F, Av, D, E, Pa, Ta, nl, cl, n', c, m, e, cr, k1, k2, k3, kp, kt, L, ks, sl, R, cc, P, T, B, nq, eq, r, rfl, a1, a2, a3, a4, hn, hm, hk, hS, hl, hs, hsl, hG, hq, hB, hr9, hqe⟩
end
end Go.Proofs.YtnifmfdlocgefaaGreat.Ig

namespace Go.Proofs.YtnifmfdlocgefaaGreat.Cy
open Kit Tr Uf Ig
open Go.Proofs.YtnifmfdlocgefaaGreat.St (PI)
/-- who are all of one class are joined without a change -/
theorem joins_none {R : List Int} {ks : List (List Int)} {x : Nat} : ∀ (ys : List Nat) (g : GJ), (∀ y ∈ ys, fst g.c.V y = fst g.c.V x) → joinJ R ks x ys g = g
  | [], _, _ => rfl
  | y :: ys, g, h => by
    have e : oneJ R ks x g y = g := by unfold oneJ; rw [if_pos (h y (List.mem_cons_self ..)).symm]
    show joinJ R ks x ys (oneJ R ks x g y) = g
    rw [e]
    exact joins_none ys g fun z hz => h z (List.mem_cons_of_mem _ hz)
end Go.Proofs.YtnifmfdlocgefaaGreat.Cy
