/-
  Arguments of layer 2's statements, opened: rows of rows, tables, keys; with the reach's bounds.
-/
import Derived.Test.YtgnbempkobgeiaaHashS
import Derived.Deep.Matrix
import Derived.Deep.SlicePairs
import Derived.Lib.SmallJoins
import Derived.SizedLaws
namespace Go.Proofs.Ytgnbempkobgeiaa.Hs
open Go.ChangeShapes Go.WideShapes Go.RowKit Kit Go.Deep Go.Joins

theorem bytes_int : Try.prog.bytesOf 3 = 8 := by kernel_rfl
theorem bytes_ints : Try.prog.bytesOf 24 = 24 := by kernel_rfl
theorem cells_int : Try.prog.cellsOf 3 = 1 := by kernel_rfl
theorem cells_ints : Try.prog.cellsOf 24 = 1 := by kernel_rfl
theorem cells_rows : Try.prog.cellsOf 23 = 1 := by kernel_rfl

theorem weights_all {H : Type} {P : Program} {e : TypeId} : ∀ {ds : List (DataW H)} {d : DataW H}, d ∈ ds → ∀ n ∈ d.weights P e, n ∈ DataW.weightsAll P e ds
  | x :: l, d, h, n, hn => by
    simp only [DataW.weightsAll, List.mem_append]
    rcases List.mem_cons.1 h with rfl | h
    · exact .inl hn
    · exact .inr (weights_all h n hn)

section
variable {H : Type} {enc : TypeId × Value → H} {W : World} {base : Nat}
theorem open_row_cells {fuel : Nat} {v : Value} {x : DataW H × List MemPlace} (h : DataW.trod enc Try.prog W 0 (fun _ => true) true fuel 24 [v] = some x) (hz : ∀ n ∈ x.1.weights Try.prog 24, n ≤ reachBytes) :
    ∃ A n c l, v = .slice A n c ∧ n = l.length ∧ n ≤ c ∧ Ints W W.heap.size A l ∧ l.length ≤ 1152921504606846976 := by
  rcases open_ints Try.underlying24 Try.underlying3 cells_int h with ⟨hcs, hx⟩ | ⟨a, len, cap, zs, hcs, _, hl, _, hlen, hx, hcell, _⟩
  · obtain rfl : v = .slice none 0 0 := by simpa using hcs
    exact ⟨none, 0, 0, [], rfl, rfl, Nat.le_refl _, fun h => absurd h (by simp), by simp⟩
  · obtain rfl : v = .slice (some a) len cap := by simpa using hcs
    simp only [if_true] at hlen
    have hw : (((lits .i64 (zs.take len) : List (DataW H))).length + ((lits .i64 (zs.drop len) : List (DataW H))).length) * Try.prog.bytesOf 3 ≤ reachBytes := by
      refine hz _ ?_
      rw [hx]
      simp [DataW.weights, Try.underlying24]
    rw [bytes_int] at hw
    have hll : (zs.take len).length = len := by rw [List.length_take, hlen]; omega
    refine ⟨_, _, _, zs.take len, rfl, hll.symm, hl, fun h0 => ⟨a, rfl, ?_, fun i y hy => ?_⟩, ?_⟩
    · have := hcell 0 (by omega)
      have := World.block_lt_of_cell? W _ this
      rwa [add_block] at this
    · have hi : i < len := by have := (List.getElem?_eq_some_iff.1 hy).1; omega
      rw [List.getElem?_take, if_pos hi] at hy
      rw [hcell i (by omega)]
      simp [hy]
    · simp [lits, reachBytes] at hw
      rw [hll]; omega
theorem open_rows_cells {fuel : Nat} {v : Value} {x : DataW H × List MemPlace} (h : DataW.trod enc Try.prog W 0 (fun _ => true) true fuel 23 [v] = some x) (hz : ∀ n ∈ x.1.weights Try.prog 23, n ≤ reachBytes) :
    ∃ A n c ks, v = .slice A n c ∧ n = ks.length ∧ Keys W W.heap.size A ks ∧ ks.length ≤ 1152921504606846976 ∧ ∀ k ∈ ks, k.length ≤ 1152921504606846976 := by
  rcases open_int_rows Try.underlying23 Try.underlying24 Try.underlying3 cells_ints cells_int h with ⟨hcs, hx⟩ | ⟨a, len, cap, A, L, C, Z, hcs, _, hl, _, hx, hi⟩
  · obtain rfl : v = .slice none 0 0 := by simpa using hcs
    exact ⟨none, 0, 0, [], rfl, rfl, fun h => absurd h (by simp), by simp, by simp⟩
  · obtain rfl : v = .slice (some a) len cap := by simpa using hcs
    have hwr : ∀ r, r < len → ∀ n ∈ (intRow .i64 (A r) (L r) (Z r) : DataW H).weights Try.prog 24, n ≤ reachBytes := fun r hr n hn => by
      refine hz _ ?_
      rw [hx]
      simp only [DataW.weights, Try.underlying23, List.mem_cons, List.mem_append]
      exact .inr (.inl (weights_all (List.mem_map.2 ⟨r, by simpa using hr, rfl⟩) n hn))
    have hlen : len ≤ 1152921504606846976 := by
      have := hz ((((List.range len).map fun r => (intRow .i64 (A r) (L r) (Z r) : DataW H)).length + ((List.range (cap - len)).map fun j => (intRow .i64 (A (len + j)) (L (len + j)) (Z (len + j)) : DataW H)).length) * Try.prog.bytesOf 24) (by
        rw [hx]
        simp only [DataW.weights, Try.underlying23]
        exact List.mem_cons_self ..)
      rw [bytes_ints] at this
      simp [reachBytes] at this
      omega
    have hL : ∀ r, r < len → L r ≤ 1152921504606846976 := fun r hr => by
      obtain ⟨_, h1, _, h3, _, h5, _⟩ := hi r (by omega)
      cases hA : A r with
      | none => have := h5 hA; omega
      | some a' =>
        have := hwr r hr (((lits .i64 ((Z r).take (L r)) : List (DataW H)).length + (lits .i64 ((Z r).drop (L r)) : List (DataW H)).length) * Try.prog.bytesOf 3) (by
          rw [hA]
          simp [intRow, DataW.weights, Try.underlying24])
        rw [bytes_int] at this
        simp [lits, reachBytes] at this
        omega
    have hT : ∀ r, r < len → ((Z r).take (L r)).length = L r := fun r hr => by
      obtain ⟨_, h1, _, h3, _⟩ := hi r (by omega)
      rw [List.length_take]; omega
    refine ⟨_, _, _, (List.range len).map fun r => (Z r).take (L r), rfl, by simp, fun h0 => ⟨a, rfl, ?_, fun i k hk => ?_⟩, by simpa using hlen, fun k hk => ?_⟩
    · have h0' : 0 < len := by simpa using h0
      have := (hi 0 (by omega)).1
      have := World.block_lt_of_cell? W _ this
      rwa [add_block] at this
    · have hil : i < len := by have := (List.getElem?_eq_some_iff.1 hk).1; simpa using this
      obtain rfl : (Z i).take (L i) = k := by simpa [hil] using hk
      obtain ⟨h0', h1, _, h3, _, h5, h6⟩ := hi i (by omega)
      rw [hT i hil]
      refine ⟨A i, C i, h1, h0', fun hp => ?_⟩
      rw [hT i hil] at hp
      cases hA : A i with
      | none => have := h5 hA; omega
      | some a' =>
        obtain ⟨_, hc⟩ := h6 a' hA
        refine ⟨a', rfl, ?_, fun j y hy => ?_⟩
        · have := World.block_lt_of_cell? W _ (hc 0 (by omega))
          rwa [add_block] at this
        · have hj : j < L i := by have := (List.getElem?_eq_some_iff.1 hy).1; rw [hT i hil] at this; exact this
          rw [List.getElem?_take, if_pos hj] at hy
          rw [hc j (by omega)]
          simp [hy]
    · obtain ⟨r, hr, rfl⟩ := List.mem_map.1 hk
      have hr' : r < len := by simpa using hr
      rw [hT r hr']
      exact hL r hr'
theorem open_key {v : Value} {d : DataW H} {p : List MemPlace} (hv : Value.okWide Try.prog W .any base 24 v) (h : DataW.Trod enc Try.prog W 0 (fun _ => true) true 24 v d p) (hz : ∀ n ∈ d.weights Try.prog 24, n ≤ reachBytes) :
    ∃ A n c l, v = .slice A n c ∧ n = l.length ∧ n ≤ c ∧ Ints W W.heap.size A l ∧ l.length ≤ 1152921504606846976 := by
  obtain ⟨a, len, cap, rfl⟩ := okWide_slice Try.underlying24 hv
  obtain ⟨fuel, hf⟩ := h
  exact open_row_cells hf hz
theorem open_rows {v : Value} {d : DataW H} {p : List MemPlace} (hv : Value.okWide Try.prog W .any base 23 v) (h : DataW.Trod enc Try.prog W 0 (fun _ => true) true 23 v d p) (hz : ∀ n ∈ d.weights Try.prog 23, n ≤ reachBytes) :
    ∃ A n c ks, v = .slice A n c ∧ n = ks.length ∧ Keys W W.heap.size A ks ∧ ks.length ≤ 1152921504606846976 ∧ ∀ k ∈ ks, k.length ≤ 1152921504606846976 := by
  obtain ⟨a, len, cap, rfl⟩ := okWide_slice Try.underlying23 hv
  obtain ⟨fuel, hf⟩ := h
  exact open_rows_cells hf hz
theorem open_table {v : Value} {d : DataW H} {p : List MemPlace} (hv : Value.okWide Try.prog W .any base 26 v) (h : DataW.Trod enc Try.prog W 0 (fun _ => true) true 26 v d p) (hz : ∀ n ∈ d.weights Try.prog 26, n ≤ reachBytes) :
    ∃ A n c S m e ks sl, v = .agg #[.slice A n c, .slice S m e] ∧ n = ks.length ∧ m = sl.length ∧ Keys W W.heap.size A ks ∧ Ints W W.heap.size S sl ∧ ks.length ≤ 1152921504606846976 ∧ (∀ k ∈ ks, k.length ≤ 1152921504606846976) ∧ sl.length ≤ 1152921504606846976 := by
  obtain ⟨v0, v1, y0, y1, n, rfl, rfl, _, t0, t1⟩ := open_agg2 Try.underlying26 (by kernel_rfl) (by kernel_rfl) hv h
  have hw : DataW.weights Try.prog 26 (.agg [y0.1, y1.1]) = y0.1.weights Try.prog 23 ++ (y1.1.weights Try.prog 24 ++ []) := by
    simp [DataW.weights, Try.underlying26, DataW.weightsEach]
  rw [hw] at hz
  obtain ⟨A, n, c, ks, rfl, hn, hk, hl, hs⟩ := open_rows_cells t0 (fun n hn => hz n (by simp [hn]))
  obtain ⟨S, m, e, sl, rfl, hm, _, hS, hsl⟩ := open_row_cells t1 (fun n hn => hz n (by simp [hn]))
  exact ⟨A, n, c, S, m, e, ks, sl, rfl, hn, hm, hk, hS, hl, hs, hsl⟩
end
end Go.Proofs.Ytgnbempkobgeiaa.Hs
