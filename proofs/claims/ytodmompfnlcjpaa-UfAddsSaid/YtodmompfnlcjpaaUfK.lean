/-
  Arguments of the laws, opened; what an addition does to rows of first ones and of classes.
-/
import Derived.Test.YtodmompfnlcjpaaUfI
import Derived.Test.YtodmompfnlcjpaaTrailO
namespace Go.Proofs.Ytodmompfnlcjpaa.Uf
open Go.ChangeShapes Go.WideShapes Go.RowKit Kit Go.Deep Go.Joins Tr

theorem class_new {R V : List Int} (h : Cl R V) : classL (V ++ [(V.length : Int)]) V.length = [(V.length : Int)] := by
  have hl : (V ++ [(V.length : Int)]).length = V.length + 1 := by simp
  unfold classL
  rw [hl, those_yes (by simp)]
  have : those V.length (fun m => fst (V ++ [(V.length : Int)]) m == fst (V ++ [(V.length : Int)]) V.length) = [] := by
    rw [those_congr (q := fun _ => false) fun n hn => by
      rw [h.fst_add n hn, h.fst_new]
      have := (h.fst_in n hn).1
      exact beq_eq_false_iff_ne.2 (by omega)]
    unfold those
    simp
  rw [this]; rfl
theorem class_add {R V : List Int} (h : Cl R V) {a : Nat} (ha : a < V.length) : classL (V ++ [(V.length : Int)]) a = classL V a := by
  have hl : (V ++ [(V.length : Int)]).length = V.length + 1 := by simp
  unfold classL
  rw [hl, those_no (by
    rw [h.fst_add a ha, h.fst_new]
    have := (h.fst_in a ha).1
    exact beq_eq_false_iff_ne.2 (by omega))]
  exact those_congr fun n hn => by rw [h.fst_add n hn, h.fst_add a ha]
theorem firsts_add {R V : List Int} (_h : Cl R V) : (firstsL (V ++ [(V.length : Int)])).length = (firstsL V).length + 1 := by
  have hl : (V ++ [(V.length : Int)]).length = V.length + 1 := by simp
  unfold firstsL
  rw [hl, those_yes (by rw [par_new]; simp), those_congr (q := fun m => par V m == m) fun n hn => by rw [par_add hn]]
  simp
section
variable {H : Type} {enc : TypeId × Value → H} {W : World} {base : Nat}
theorem open_ranks {v : Value} {d : DataW H} {p : List MemPlace} (hv : Value.okWide Try.prog W .any base 22 v) (h : DataW.Trod enc Try.prog W 0 (fun _ => true) true 22 v d p) (hz : ∀ n ∈ d.weights Try.prog 22, n ≤ reachBytes) :
    ∃ A n c l, v = .slice A n c ∧ n = l.length ∧ Rds W W.heap.size A (cellsI l) := by
  obtain ⟨a, len, cap, rfl⟩ := okWide_slice Try.underlying22 hv
  obtain ⟨fuel, hf⟩ := h
  have hf' : DataW.trod enc Try.prog W 0 (fun _ => true) true fuel 22 [.slice a len cap] = some (d, p) := by simpa [Value.cells] using hf
  obtain ⟨A, n, c, l, e, hn, _, hr, _⟩ := open_ints_cells hf' hz
  exact ⟨A, n, c, l, e, hn, hr⟩
end
end Go.Proofs.Ytodmompfnlcjpaa.Uf
