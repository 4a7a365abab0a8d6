/-
  A term as an argument, opened.
-/
import Derived.Test.YtgnbempkobgeiaaTermOf
namespace Go.Proofs.Ytgnbempkobgeiaa.Tm
open Go.ChangeShapes Go.WideShapes Go.RowKit Kit Go.Deep Go.Joins Hs

theorem wf_of {n : Int} (h : (Lit.int .i64 n).wf = true) : Wf n := by
  unfold Lit.wf at h
  simp only [Bool.and_eq_true, decide_eq_true_eq] at h
  exact ⟨h.1, h.2⟩
section
variable {H : Type} {enc : TypeId × Value → H} {W : World} {base : Nat}
theorem open_term_cells {fuel : Nat} {v0 v1 v2 v3 : Value} {y0 y1 y2 y3 : DataW H × List MemPlace} (t0 : DataW.trod enc Try.prog W 0 (fun _ => true) true fuel 3 [v0] = some y0) (t1 : DataW.trod enc Try.prog W 0 (fun _ => true) true fuel 3 [v1] = some y1)
    (t2 : DataW.trod enc Try.prog W 0 (fun _ => true) true fuel 3 [v2] = some y2) (t3 : DataW.trod enc Try.prog W 0 (fun _ => true) true fuel 24 [v3] = some y3) (hz : ∀ n ∈ y3.1.weights Try.prog 24, n ≤ reachBytes) :
    ∃ (t : Tm) (E : Option Addr) (n c : Nat), v0 = .int .i64 t.k ∧ v1 = .int .i64 t.s ∧ v2 = .int .i64 t.p ∧ v3 = .slice E n c ∧ n = t.xs.length ∧ Ints W W.heap.size E t.xs ∧ Wf t.k ∧ t.xs.length ≤ 1152921504606846976 := by
  obtain ⟨k, e0, _, w0⟩ := DataW.trod_int Try.underlying3 t0
  obtain ⟨s, e1, _, _⟩ := DataW.trod_int Try.underlying3 t1
  obtain ⟨p, e2, _, _⟩ := DataW.trod_int Try.underlying3 t2
  obtain ⟨E, n, c, xs, e3, hn, _, hI, hl⟩ := open_row_cells t3 hz
  simp only [List.cons.injEq, and_true] at e0 e1 e2
  exact ⟨⟨k, s, p, xs⟩, E, n, c, e0, e1, e2, e3, hn, hI, wf_of w0, hl⟩
theorem open_term {v : Value} {d : DataW H} {p : List MemPlace} (hv : Value.okWide Try.prog W .any base 28 v) (h : DataW.Trod enc Try.prog W 0 (fun _ => true) true 28 v d p) (hz : ∀ n ∈ d.weights Try.prog 28, n ≤ reachBytes) :
    ∃ (t : Tm) (E : Option Addr) (n c : Nat), v = .agg #[.int .i64 t.k, .int .i64 t.s, .int .i64 t.p, .slice E n c] ∧ n = t.xs.length ∧ Ints W W.heap.size E t.xs ∧ Wf t.k ∧ t.xs.length ≤ 1152921504606846976 := by
  obtain ⟨v0, v1, v2, v3, y0, y1, y2, y3, n, rfl, rfl, _, t0, t1, t2, t3⟩ := open_agg4 Try.underlying28 (by kernel_rfl) (by kernel_rfl) hv h
  have hw : DataW.weights Try.prog 28 (.agg [y0.1, y1.1, y2.1, y3.1]) = y0.1.weights Try.prog 3 ++ (y1.1.weights Try.prog 3 ++ (y2.1.weights Try.prog 3 ++ (y3.1.weights Try.prog 24 ++ []))) := by
    simp [DataW.weights, Try.underlying28, DataW.weightsEach]
  rw [hw] at hz
  obtain ⟨t, E, n, c, rfl, rfl, rfl, rfl, h1, h2, h3, h4⟩ := open_term_cells t0 t1 t2 t3 (fun n hn => hz n (by simp [hn]))
  exact ⟨t, E, n, c, rfl, h1, h2, h3, h4⟩
end
end Go.Proofs.Ytgnbempkobgeiaa.Tm
