/-
  Arguments of layer 7's statements, opened: rows of nodes, with the reach's bounds.
-/
import Derived.Test.YtmohedkhbjeapaaKitTg
import Derived.Test.YtmohedkhbjeapaaKitOpen
namespace Go.Proofs.Ytmohedkhbjeapaa.Ex
open Go.ChangeShapes Go.WideShapes Go.RowKit Kit Rw Go.Deep Go.Joins

theorem bytes_node : Try.prog.bytesOf 38 = 32 := by kernel_rfl
section
variable {H : Type} {enc : TypeId × Value → H} {W : World} {base : Nat}
set_option maxRecDepth 100000 in
theorem open_nodes {v : Value} {d : DataW H} {p : List MemPlace} (hv : Value.okWide Try.prog W .any base 23 v) (h : DataW.Trod enc Try.prog W 0 (fun _ => true) true 23 v d p)
    (hz : ∀ n ∈ d.weights Try.prog 23, n ≤ reachBytes) :
    ∃ S n c l, v = .slice S n c ∧ n = l.length ∧ Rds W W.heap.size S (cellsG l) ∧ l.length ≤ 140737488355328 ∧ n ≤ c ∧ ∀ t ∈ l, t.2.1.size ≤ 140737488355328 := by
  obtain ⟨a, len, cap, rfl⟩ := okWide_slice Try.underlying23 hv
  obtain ⟨fuel, hf⟩ := h
  rcases open_fields3 Try.underlying23 Try.underlying38 (by kernel_rfl) (by kernel_rfl) hf with ⟨h0, _⟩ | ⟨ad, len', cap', m, D, Pl, hcs, _, hl, hm, hmm, hx, hi⟩
  · simp only [Value.cells, List.cons.injEq, Value.slice.injEq, and_true] at h0
    obtain ⟨rfl, rfl, rfl⟩ := h0
    exact ⟨_, _, _, [], rfl, rfl, Rds.nil _ _ _, by simp, Nat.le_refl _, fun t ht => by cases ht⟩
  · simp only [Value.cells, List.cons.injEq, Value.slice.injEq, and_true] at hcs
    obtain ⟨rfl, rfl, rfl⟩ := hcs
    have hlm : len ≤ m := by rw [hmm]; split <;> omega
    simp only [Prod.mk.injEq] at hx
    have hd := hx.1
    have hw : ∀ i, i < len → ∀ n ∈ (D i).weights Try.prog 38, n ≤ reachBytes := fun i hil n hn => by
      refine hz n ?_
      rw [hd]
      simp only [DataW.weights, Try.underlying23, List.mem_cons, List.mem_append]
      exact .inr (.inl (weights_all (List.mem_map.2 ⟨i, by simpa using hil, rfl⟩) n hn))
    have hlen : len ≤ 140737488355328 := by
      have := hz ((((List.range len).map D).length + ((List.range (m - len)).map fun j => D (len + j)).length) * Try.prog.bytesOf 38) (by
        rw [hd]
        simp only [DataW.weights, Try.underlying23]
        exact List.mem_cons_self ..)
      rw [bytes_node] at this
      simp [reachBytes] at this
      omega
    have each : ∀ i, i < len → ∃ s : Tg, W.cell? (ad.add (i * 3)) = some (.int .i64 s.1) ∧ W.cell? (ad.add (i * 3 + 1)) = some (.string s.2.1) ∧ W.cell? (ad.add (i * 3 + 2)) = some (.int .i64 s.2.2) ∧ s.2.1.size ≤ 140737488355328 := fun i hil => by
      obtain ⟨ys, n, hD, _, hyl, hf⟩ := hi i (by omega)
      obtain ⟨u0, y0, c0, g0, t0⟩ := hf 0 _ rfl
      obtain ⟨u1, y1, c1, g1, t1⟩ := hf 1 _ rfl
      obtain ⟨u2, y2, c2, g2, t2⟩ := hf 2 _ rfl
      obtain ⟨s0, e0, _, _⟩ := DataW.trod_int Try.underlying3 t0
      obtain ⟨s1, e1, x1, _⟩ := DataW.trod_string Try.underlying9 t1
      obtain ⟨s2, e2, _, _⟩ := DataW.trod_int Try.underlying3 t2
      simp only [List.cons.injEq, and_true] at e0 e1 e2
      refine ⟨(s0, s1, s2), by rw [← e0]; exact c0, by rw [← e1]; exact c1, by rw [← e2]; exact c2, ?_⟩
      have hb := hw i hil s1.data.toList.length (by
        match ys, hyl with
        | [z0, z1, z2], _ =>
          obtain rfl : z1 = y1 := by simpa using g1
          rw [hD, x1]
          simp [DataW.weights, Try.underlying38, DataW.weightsEach])
      have e : s1.data.toList.length = s1.size := by simp
      rw [e] at hb
      unfold reachBytes at hb
      show s1.size ≤ _
      omega
    obtain ⟨q, hq⟩ := choose_lt each
    have hll : ((List.range len).map q).length = len := by simp
    refine ⟨_, _, _, (List.range len).map q, rfl, hll.symm, fun h0 => ⟨ad, rfl, ?_, fun j u hu => ?_⟩, by rw [hll]; exact hlen, hl, fun t ht => ?_⟩
    · have hpos : 0 < len := by rw [cellsG_len, hll] at h0; omega
      have := (hq 0 hpos).1
      have := World.block_lt_of_cell? W _ this
      rwa [add_block] at this
    · have hj : j < len * 3 := by have := (List.getElem?_eq_some_iff.1 hu).1; rw [cellsG_len, hll] at this; exact this
      have hi3 : j / 3 < len := by omega
      have hat : ((List.range len).map q)[j / 3]? = some (q (j / 3)) := by rw [List.getElem?_map, List.getElem?_range hi3]; rfl
      obtain ⟨c0, c1, c2, _⟩ := hq (j / 3) hi3
      have hmod : j % 3 = 0 ∨ j % 3 = 1 ∨ j % 3 = 2 := by omega
      rcases hmod with h | h | h
      · have ej : j = j / 3 * 3 := by omega
        rw [ej, cellsG_0, hat] at hu
        rw [ej, c0]; exact hu
      · have ej : j = j / 3 * 3 + 1 := by omega
        rw [ej, cellsG_1, hat] at hu
        rw [ej, c1]; exact hu
      · have ej : j = j / 3 * 3 + 2 := by omega
        rw [ej, cellsG_2, hat] at hu
        rw [ej, c2]; exact hu
    · simp only [List.mem_map, List.mem_range] at ht
      obtain ⟨i, hil, rfl⟩ := ht
      exact (hq i hil).2.2.2
end
end Go.Proofs.Ytmohedkhbjeapaa.Ex
