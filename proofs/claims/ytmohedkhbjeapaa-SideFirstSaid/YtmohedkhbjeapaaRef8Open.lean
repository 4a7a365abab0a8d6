/-
  Arguments of layer 8's statements, opened: a struct of two rows, a byte and a number.
-/
import Derived.Test.YtmohedkhbjeapaaRef1Open
import Derived.Test.YtmohedkhbjeapaaKitTg
import Derived.Test.YtmohedkhbjeapaaKitOpen
namespace Go.Proofs.Ytmohedkhbjeapaa.Sg
open Go.ChangeShapes Go.WideShapes Go.RowKit Kit Go.Deep Go.Joins
section
variable {H : Type} {enc : TypeId × Value → H} {W : World}
theorem open_sigs_cells {fuel : Nat} {v : Value} {y : DataW H × List MemPlace} (hf : DataW.trod enc Try.prog W 0 (fun _ => true) true fuel 22 [v] = some y) :
    ∃ A n c l, v = .slice A n c ∧ n = l.length ∧ Row W W.heap.size A l ∧ l.length ≤ maxLen ∧ Sized l ∧ n ≤ c := by
  rcases open_slice_pairs Try.underlying22 Try.underlying52 (by kernel_rfl) rfl rfl (by kernel_rfl) (by kernel_rfl) hf with ⟨h0, _⟩ | ⟨ad, len', cap', m, n, V0, V1, D0, D1, P0, P1, hcs, _, hl, hm, hmm, _, hi⟩
  · simp only [List.cons.injEq, and_true] at h0
    subst h0
    exact ⟨_, _, _, [], rfl, rfl, fun h => absurd h (by simp), by simp, (fun s hs => by cases hs), Nat.le_refl _⟩
  · simp only [List.cons.injEq, and_true] at hcs
    subst hcs
    obtain ⟨len, hlen'⟩ : ∃ len, len = len' := ⟨_, rfl⟩
    subst hlen'
    have hlm : len ≤ m := by rw [hmm]; split <;> omega
    have each : ∀ i, i < len → ∃ s : Sig, W.cell? (ad.add (i * 2)) = some (.string s.1) ∧ W.cell? (ad.add (i * 2 + 1)) = some (.string s.2) ∧ s.1.size ≤ maxLen ∧ s.2.size ≤ maxLen := fun i hil => by
      obtain ⟨c0, c1, t0, t1⟩ := hi i (by omega)
      obtain ⟨s0, e0, _, z0⟩ := DataW.trod_string Try.underlying9 t0
      obtain ⟨s1, e1, _, z1⟩ := DataW.trod_string Try.underlying9 t1
      simp only [List.cons.injEq, and_true] at e0 e1
      exact ⟨(s0, s1), by rw [c0, e0], by rw [c1, e1], z0, z1⟩
    obtain ⟨q, hq⟩ := choose_lt each
    refine ⟨_, _, _, (List.range len).map q, rfl, by simp, fun h0 => ⟨ad, rfl, ?_, fun i s hs => ?_⟩, by simp; omega, fun s hs => ?_, hl⟩
    · have := (hq 0 (by simpa using h0)).1
      have := World.block_lt_of_cell? W _ this
      rwa [add_block] at this
    · have hil : i < len := by
        have := (List.getElem?_eq_some_iff.1 hs).1
        simpa using this
      have e : s = q i := by
        rw [List.getElem?_map, List.getElem?_range hil] at hs
        simpa using hs.symm
      subst e
      obtain ⟨c0, c1, _, _⟩ := hq i hil
      rw [add_succ] at c1
      exact ⟨c0, c1⟩
    · simp only [List.mem_map, List.mem_range] at hs
      obtain ⟨i, hil, rfl⟩ := hs
      exact (hq i hil).2.2
end
end Go.Proofs.Ytmohedkhbjeapaa.Sg
namespace Go.Proofs.Ytmohedkhbjeapaa.Ex
open Go.ChangeShapes Go.WideShapes Go.RowKit Kit Rw Go.Deep Go.Joins
open Go.Proofs.Ytmohedkhbjeapaa.Sg (Sig Row Sized open_sigs_cells)
theorem bytes_node8 : Try.prog.bytesOf 38 = 32 := by kernel_rfl
section
variable {H : Type} {enc : TypeId × Value → H} {W : World} {base : Nat}
set_option maxRecDepth 100000 in
theorem open_nodes_cells {fuel : Nat} {v : Value} {y : DataW H × List MemPlace} (hf : DataW.trod enc Try.prog W 0 (fun _ => true) true fuel 23 [v] = some y)
    (hz : ∀ n ∈ y.1.weights Try.prog 23, n ≤ reachBytes) :
    ∃ S n c l, v = .slice S n c ∧ n = l.length ∧ Rds W W.heap.size S (cellsG l) ∧ l.length ≤ 140737488355328 ∧ n ≤ c ∧ ∀ t ∈ l, t.2.1.size ≤ 140737488355328 := by
  rcases open_fields3 Try.underlying23 Try.underlying38 (by kernel_rfl) (by kernel_rfl) hf with ⟨h0, _⟩ | ⟨ad, len', cap', m, D, Pl, hcs, _, hl, hm, hmm, hx, hi⟩
  · simp only [List.cons.injEq, and_true] at h0
    subst h0
    exact ⟨_, _, _, [], rfl, rfl, Rds.nil _ _ _, by simp, Nat.le_refl _, fun t ht => by cases ht⟩
  · simp only [List.cons.injEq, and_true] at hcs
    subst hcs
    obtain ⟨len, hlen'⟩ : ∃ len, len = len' := ⟨_, rfl⟩
    subst hlen'
    have hlm : len ≤ m := by rw [hmm]; split <;> omega
    have hd : y.1 = _ := congrArg Prod.fst hx
    have hw : ∀ i, i < len → ∀ n ∈ (D i).weights Try.prog 38, n ≤ reachBytes := fun i hil n hn => by
      refine hz n ?_
      rw [hd]
      simp only [DataW.weights, Try.underlying23, List.mem_cons, List.mem_append]
      exact .inr (.inl (weights_all (List.mem_map.2 ⟨i, by simpa using hil, rfl⟩) n hn))
    have hlen : len ≤ 140737488355328 := by
      have := hz ((((List.range len).map D).length + ((List.range (m - len)).map fun j => D (len + j)).length) * Try.prog.bytesOf 38) (by
        rw [hd]
        simp only [DataW.weights, Try.underlying23]
        exact List.mem_cons_self ..)
      rw [bytes_node8] at this
      simp [reachBytes] at this
      omega
    have each : ∀ i, i < len → ∃ s : Tg, W.cell? (ad.add (i * 3)) = some (.int .i64 s.1) ∧ W.cell? (ad.add (i * 3 + 1)) = some (.string s.2.1) ∧ W.cell? (ad.add (i * 3 + 2)) = some (.int .i64 s.2.2) ∧ s.2.1.size ≤ 140737488355328 := fun i hil => by
      obtain ⟨ys, n, hD, _, hyl, hf⟩ := hi i (by omega)
      obtain ⟨u0, y0, c0, g0, t0⟩ := hf 0 _ rfl
      obtain ⟨u1, y1, c1, g1, t1⟩ := hf 1 _ rfl
      obtain ⟨u2, y2, c2, g2, t2⟩ := hf 2 _ rfl
      obtain ⟨s0, e0, _, _⟩ := DataW.trod_int Try.underlying3 t0
      obtain ⟨s1, e1, x1, _⟩ := DataW.trod_string Try.underlying9 t1
      obtain ⟨s2, e2, _, _⟩ := DataW.trod_int Try.underlying3 t2
      simp only [List.cons.injEq, and_true] at e0 e1 e2
      refine ⟨(s0, s1, s2), by rw [← e0]; exact c0, by rw [← e1]; exact c1, by rw [← e2]; exact c2, ?_⟩
      have hb := hw i hil s1.data.toList.length (by
        match ys, hyl with
        | [z0, z1, z2], _ =>
          obtain rfl : z1 = y1 := by simpa using g1
          rw [hD, x1]
          simp [DataW.weights, Try.underlying38, DataW.weightsEach])
      have e : s1.data.toList.length = s1.size := by simp
      rw [e] at hb
      unfold reachBytes at hb
      show s1.size ≤ _
      omega
    obtain ⟨q, hq⟩ := choose_lt each
    have hll : ((List.range len).map q).length = len := by simp
    refine ⟨_, _, _, (List.range len).map q, rfl, hll.symm, fun h0 => ⟨ad, rfl, ?_, fun j u hu => ?_⟩, by rw [hll]; exact hlen, hl, fun t ht => ?_⟩
    · have hpos : 0 < len := by rw [cellsG_len, hll] at h0; omega
      have := (hq 0 hpos).1
      have := World.block_lt_of_cell? W _ this
      rwa [add_block] at this
    · have hj : j < len * 3 := by have := (List.getElem?_eq_some_iff.1 hu).1; rw [cellsG_len, hll] at this; exact this
      have hi3 : j / 3 < len := by omega
      have hat : ((List.range len).map q)[j / 3]? = some (q (j / 3)) := by rw [List.getElem?_map, List.getElem?_range hi3]; rfl
      obtain ⟨c0, c1, c2, _⟩ := hq (j / 3) hi3
      have hmod : j % 3 = 0 ∨ j % 3 = 1 ∨ j % 3 = 2 := by omega
      rcases hmod with h | h | h
      · have ej : j = j / 3 * 3 := by omega
        rw [ej, cellsG_0, hat] at hu
        rw [ej, c0]; exact hu
      · have ej : j = j / 3 * 3 + 1 := by omega
        rw [ej, cellsG_1, hat] at hu
        rw [ej, c1]; exact hu
      · have ej : j = j / 3 * 3 + 2 := by omega
        rw [ej, cellsG_2, hat] at hu
        rw [ej, c2]; exact hu
    · simp only [List.mem_map, List.mem_range] at ht
      obtain ⟨i, hil, rfl⟩ := ht
      exact (hq i hil).2.2.2
theorem open_SidePartsIn {v : Value} {d : DataW H} {p : List MemPlace} (hv : Value.okWide Try.prog W .any base 40 v) (h : DataW.Trod enc Try.prog W 0 (fun _ => true) true 40 v d p) (hz : ∀ n ∈ d.weights Try.prog 40, n ≤ reachBytes) :
    ∃ (A B : Option Addr) (m c n e : Nat) (L : List Sig) (l : List Tg) (s : UInt8) (k : Int), v = .agg #[.slice A m c, .slice B n e, .int .u8 (s.toNat : Int), .int .i64 k] ∧ m = L.length ∧ Row W W.heap.size A L ∧ L.length ≤ maxLen ∧ Sized L ∧ n = l.length ∧ Rds W W.heap.size B (cellsG l) ∧ l.length ≤ 140737488355328 ∧ n ≤ e ∧ ∀ t ∈ l, t.2.1.size ≤ 140737488355328 := by
  obtain ⟨v0, v1, v2, v3, y0, y1, y2, y3, n, rfl, rfl, _, t0, t1, t2, t3⟩ := open_agg4 Try.underlying40 (by kernel_rfl) (by kernel_rfl) hv h
  have hw : DataW.weights Try.prog 40 (.agg [y0.1, y1.1, y2.1, y3.1]) = y0.1.weights Try.prog 22 ++ (y1.1.weights Try.prog 23 ++ (y2.1.weights Try.prog 5 ++ (y3.1.weights Try.prog 3 ++ []))) := by
    simp [DataW.weights, Try.underlying40, DataW.weightsEach]
  rw [hw] at hz
  obtain ⟨A, m, c, L, rfl, h1, h2, h3, h4, _⟩ := open_sigs_cells t0
  obtain ⟨B, n', e, l, rfl, g1, g2, g3, g4, g5⟩ := open_nodes_cells t1 (fun n hn => hz n (by simp [hn]))
  obtain ⟨s, e2, _, w2⟩ := DataW.trod_int Try.underlying5 t2
  obtain ⟨k, e3, _, _⟩ := DataW.trod_int Try.underlying3 t3
  simp only [List.cons.injEq, and_true] at e2 e3
  subst e2 e3
  have hs : 0 ≤ s ∧ s ≤ 255 := by
    have h1 : IntKind.u8.min = 0 := rfl
    have h2 : IntKind.u8.max = 255 := rfl
    simp [Lit.wf] at w2
    omega
  have es : ((UInt8.ofNat s.toNat).toNat : Int) = s := by rw [UInt8.toNat_ofNat']; omega
  exact ⟨A, B, m, c, n', e, L, l, UInt8.ofNat s.toNat, k, by rw [es], h1, h2, h3, h4, g1, g2, g3, g4, g5⟩
theorem open_SideFirstIn {v : Value} {d : DataW H} {p : List MemPlace} (hv : Value.okWide Try.prog W .any base 47 v) (h : DataW.Trod enc Try.prog W 0 (fun _ => true) true 47 v d p) (hz : ∀ n ∈ d.weights Try.prog 47, n ≤ reachBytes) :
    ∃ (A B : Option Addr) (m c n e : Nat) (L : List Sig) (l : List Tg) (s : UInt8) (k : Int), v = .agg #[.slice A m c, .slice B n e, .int .u8 (s.toNat : Int), .int .i64 k] ∧ m = L.length ∧ Row W W.heap.size A L ∧ L.length ≤ maxLen ∧ Sized L ∧ n = l.length ∧ Rds W W.heap.size B (cellsG l) ∧ l.length ≤ 140737488355328 ∧ n ≤ e ∧ ∀ t ∈ l, t.2.1.size ≤ 140737488355328 := by
  obtain ⟨v0, v1, v2, v3, y0, y1, y2, y3, n, rfl, rfl, _, t0, t1, t2, t3⟩ := open_agg4 Try.underlying47 (by kernel_rfl) (by kernel_rfl) hv h
  have hw : DataW.weights Try.prog 47 (.agg [y0.1, y1.1, y2.1, y3.1]) = y0.1.weights Try.prog 22 ++ (y1.1.weights Try.prog 23 ++ (y2.1.weights Try.prog 5 ++ (y3.1.weights Try.prog 3 ++ []))) := by
    simp [DataW.weights, Try.underlying47, DataW.weightsEach]
  rw [hw] at hz
  obtain ⟨A, m, c, L, rfl, h1, h2, h3, h4, _⟩ := open_sigs_cells t0
  obtain ⟨B, n', e, l, rfl, g1, g2, g3, g4, g5⟩ := open_nodes_cells t1 (fun n hn => hz n (by simp [hn]))
  obtain ⟨s, e2, _, w2⟩ := DataW.trod_int Try.underlying5 t2
  obtain ⟨k, e3, _, _⟩ := DataW.trod_int Try.underlying3 t3
  simp only [List.cons.injEq, and_true] at e2 e3
  subst e2 e3
  have hs : 0 ≤ s ∧ s ≤ 255 := by
    have h1 : IntKind.u8.min = 0 := rfl
    have h2 : IntKind.u8.max = 255 := rfl
    simp [Lit.wf] at w2
    omega
  have es : ((UInt8.ofNat s.toNat).toNat : Int) = s := by rw [UInt8.toNat_ofNat']; omega
  exact ⟨A, B, m, c, n', e, L, l, UInt8.ofNat s.toNat, k, by rw [es], h1, h2, h3, h4, g1, g2, g3, g4, g5⟩
end
end Go.Proofs.Ytmohedkhbjeapaa.Ex
