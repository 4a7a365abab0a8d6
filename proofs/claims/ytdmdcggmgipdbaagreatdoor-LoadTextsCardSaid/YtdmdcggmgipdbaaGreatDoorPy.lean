/-
  What the proofs lean on, part 25 of 25.
-/
import Derived.Test.YtdmdcggmgipdbaaGreatDoorPa
import Derived.Test.YtdmdcggmgipdbaaGreatDoorPc
import Derived.Test.YtdmdcggmgipdbaaGreatDoorPh
import Derived.Test.YtdmdcggmgipdbaaGreatDoorPj
import Derived.Test.YtdmdcggmgipdbaaGreatDoorPx
import Derived.Test.YtdmdcggmgipdbaaGreatDoorCards
import Derived.Test.YtdmdcggmgipdbaaGreatDoorTie
import Derived.ProofKit
import Derived.Deep.DeepHandedRow
import Derived.Lib.LaidTab
import Derived.LaidLaws
namespace Go.Proofs.YtdmdcggmgipdbaaGreatDoor.Sg
open Go.ChangeShapes Go.WideShapes Go.RowKit Kit Go.Deep Go.Joins
section
variable {H : Type} {enc : TypeId × Value → H} {W : World}
theorem open_sigs_cells9 {fuel : Nat} {v : Value} {y : DataW H × List MemPlace} (hf : DataW.trod enc Tryz.prog W 0 (fun _ => true) true fuel 22 [v] = some y) :
    ∃ A n c l, v = .slice A n c ∧ n = l.length ∧ Row W W.heap.size A l ∧ l.length ≤ maxLen ∧ Sized l ∧ n ≤ c := by
  rcases open_slice_pairs Tryz.underlying22 Tryz.underlying65 (by kernel_rfl) rfl rfl (by kernel_rfl) (by kernel_rfl) hf with ⟨h0, _⟩ | ⟨ad, len', cap', m, n, V0, V1, D0, D1, P0, P1, hcs, _, hl, hm, hmm, _, hi⟩
  · simp only [List.cons.injEq, and_true] at h0
    subst h0
    exact ⟨_, _, _, [], rfl, rfl, fun h => absurd h (by simp), by simp, (fun s hs => by cases hs), Nat.le_refl _⟩
  · simp only [List.cons.injEq, and_true] at hcs
    subst hcs
    obtain ⟨len, hlen'⟩ : ∃ len, len = len' := ⟨_, rfl⟩
    subst hlen'
    have hlm : len ≤ m := by rw [hmm]; split <;> omega
    have each : ∀ i, i < len → ∃ s : Sig, W.cell? (ad.add (i * 2)) = some (.string s.1) ∧ W.cell? (ad.add (i * 2 + 1)) = some (.string s.2) ∧ s.1.size ≤ maxLen ∧ s.2.size ≤ maxLen := fun i hil => by
      obtain ⟨c0, c1, t0, t1⟩ := hi i (by omega)
      obtain ⟨s0, e0, _, z0⟩ := DataW.trod_string Tryz.underlying9 t0
      obtain ⟨s1, e1, _, z1⟩ := DataW.trod_string Tryz.underlying9 t1
      simp only [List.cons.injEq, and_true] at e0 e1
      exact ⟨(s0, s1), by rw [c0, e0], by rw [c1, e1], z0, z1⟩
    obtain ⟨q, hq⟩ := choose_lt each
    refine ⟨_, _, _, (List.range len).map q, rfl, by simp, fun h0 => ⟨ad, rfl, ?_, fun i s hs => ?_⟩, by simp; omega, fun s hs => ?_, hl⟩
    · have := (hq 0 (by simpa using h0)).1
      have := World.block_lt_of_cell? W _ this
      rwa [add_block] at this
    · have hil : i < len := by
        have := (List.getElem?_eq_some_iff.1 hs).1
        simpa using this
      have e : s = q i := by
        rw [List.getElem?_map, List.getElem?_range hil] at hs
        simpa using hs.symm
      subst e
      obtain ⟨c0, c1, _, _⟩ := hq i hil
      rw [add_succ] at c1
      exact ⟨c0, c1⟩
    · simp only [List.mem_map, List.mem_range] at hs
      obtain ⟨i, hil, rfl⟩ := hs
      exact (hq i hil).2.2
end
end Go.Proofs.YtdmdcggmgipdbaaGreatDoor.Sg
namespace Go.Proofs.YtdmdcggmgipdbaaGreatDoor.Ex
open Go.ChangeShapes Go.WideShapes Go.RowKit Kit Rw Go.Deep Go.Joins
open Go.Proofs.YtdmdcggmgipdbaaGreatDoor.Sg (Sig Row Sized)
open Go.Proofs.YtdmdcggmgipdbaaGreatDoor.Hs (Keys Ints)
theorem bytes_node9 : Tryz.prog.bytesOf 67 = 32 := by kernel_rfl
section
variable {H : Type} {enc : TypeId × Value → H} {W : World} {base : Nat}
set_option maxRecDepth 100000 in
theorem open_nodes_cells9 {fuel : Nat} {v : Value} {y : DataW H × List MemPlace} (hf : DataW.trod enc Tryz.prog W 0 (fun _ => true) true fuel 33 [v] = some y)
    (hz : ∀ n ∈ y.1.weights Tryz.prog 33, n ≤ reachBytes) :
    ∃ S n c l, v = .slice S n c ∧ n = l.length ∧ Rds W W.heap.size S (cellsG l) ∧ l.length ≤ 140737488355328 ∧ n ≤ c ∧ ∀ t ∈ l, t.2.1.size ≤ 140737488355328 := by
  rcases open_fields3 Tryz.underlying33 Tryz.underlying67 (by kernel_rfl) (by kernel_rfl) hf with ⟨h0, _⟩ | ⟨ad, len', cap', m, D, Pl, hcs, _, hl, hm, hmm, hx, hi⟩
  · simp only [List.cons.injEq, and_true] at h0
    subst h0
    exact ⟨_, _, _, [], rfl, rfl, Rds.nil _ _ _, by simp, Nat.le_refl _, fun t ht => by cases ht⟩
  · simp only [List.cons.injEq, and_true] at hcs
    subst hcs
    obtain ⟨len, hlen'⟩ : ∃ len, len = len' := ⟨_, rfl⟩
    subst hlen'
    have hlm : len ≤ m := by rw [hmm]; split <;> omega
    have hd : y.1 = _ := congrArg Prod.fst hx
    have hw : ∀ i, i < len → ∀ n ∈ (D i).weights Tryz.prog 67, n ≤ reachBytes := fun i hil n hn => by
      refine hz n ?_
      rw [hd]
      simp only [DataW.weights, Tryz.underlying33, List.mem_cons, List.mem_append]
      exact .inr (.inl (weights_all (List.mem_map.2 ⟨i, by simpa using hil, rfl⟩) n hn))
    have hlen : len ≤ 140737488355328 := by
      have := hz ((((List.range len).map D).length + ((List.range (m - len)).map fun j => D (len + j)).length) * Tryz.prog.bytesOf 67) (by
        rw [hd]
        simp only [DataW.weights, Tryz.underlying33]
        exact List.mem_cons_self ..)
      rw [bytes_node9] at this
      simp [reachBytes] at this
      omega
    have each : ∀ i, i < len → ∃ s : Tg, W.cell? (ad.add (i * 3)) = some (.int .i64 s.1) ∧ W.cell? (ad.add (i * 3 + 1)) = some (.string s.2.1) ∧ W.cell? (ad.add (i * 3 + 2)) = some (.int .i64 s.2.2) ∧ s.2.1.size ≤ 140737488355328 := fun i hil => by
      obtain ⟨ys, n, hD, _, hyl, hf⟩ := hi i (by omega)
      obtain ⟨u0, y0, c0, g0, t0⟩ := hf 0 _ rfl
      obtain ⟨u1, y1, c1, g1, t1⟩ := hf 1 _ rfl
      obtain ⟨u2, y2, c2, g2, t2⟩ := hf 2 _ rfl
      obtain ⟨s0, e0, _, _⟩ := DataW.trod_int Tryz.underlying3 t0
      obtain ⟨s1, e1, x1, _⟩ := DataW.trod_string Tryz.underlying9 t1
      obtain ⟨s2, e2, _, _⟩ := DataW.trod_int Tryz.underlying3 t2
      simp only [List.cons.injEq, and_true] at e0 e1 e2
      refine ⟨(s0, s1, s2), by rw [← e0]; exact c0, by rw [← e1]; exact c1, by rw [← e2]; exact c2, ?_⟩
      have hb := hw i hil s1.data.toList.length (by
        match ys, hyl with
        | [z0, z1, z2], _ =>
          obtain rfl : z1 = y1 := by simpa using g1
          rw [hD, x1]
          simp [DataW.weights, Tryz.underlying67, DataW.weightsEach])
      have e : s1.data.toList.length = s1.size := by simp
      rw [e] at hb
      unfold reachBytes at hb
      show s1.size ≤ _
      omega
    obtain ⟨q, hq⟩ := choose_lt each
    have hll : ((List.range len).map q).length = len := by simp
    refine ⟨_, _, _, (List.range len).map q, rfl, hll.symm, fun h0 => ⟨ad, rfl, ?_, fun j u hu => ?_⟩, by rw [hll]; exact hlen, hl, fun t ht => ?_⟩
    · have hpos : 0 < len := by rw [cellsG_len, hll] at h0; omega
      have := (hq 0 hpos).1
      have := World.block_lt_of_cell? W _ this
      rwa [add_block] at this
    · have hj : j < len * 3 := by have := (List.getElem?_eq_some_iff.1 hu).1; rw [cellsG_len, hll] at this; exact this
      have hi3 : j / 3 < len := by omega
      have hat : ((List.range len).map q)[j / 3]? = some (q (j / 3)) := by rw [List.getElem?_map, List.getElem?_range hi3]; rfl
      obtain ⟨c0, c1, c2, _⟩ := hq (j / 3) hi3
      have hmod : j % 3 = 0 ∨ j % 3 = 1 ∨ j % 3 = 2 := by omega
      rcases hmod with h | h | h
      · have ej : j = j / 3 * 3 := by omega
        rw [ej, cellsG_0, hat] at hu
        rw [ej, c0]; exact hu
      · have ej : j = j / 3 * 3 + 1 := by omega
        rw [ej, cellsG_1, hat] at hu
        rw [ej, c1]; exact hu
      · have ej : j = j / 3 * 3 + 2 := by omega
        rw [ej, cellsG_2, hat] at hu
        rw [ej, c2]; exact hu
    · simp only [List.mem_map, List.mem_range] at ht
      obtain ⟨i, hil, rfl⟩ := ht
      exact (hq i hil).2.2.2
set_option maxRecDepth 100000 in
theorem open_names_cells {fuel : Nat} {v : Value} {x : DataW H × List MemPlace} (h : DataW.trod enc Tryz.prog W 0 (fun _ => true) true fuel 27 [v] = some x) :
    ∃ A n c l, v = .slice A n c ∧ n = l.length ∧ Rds W W.heap.size A (cellsS l) ∧ n ≤ c := by
  rcases open_slice1 Tryz.underlying27 (by kernel_rfl) h with ⟨h0, _⟩ | ⟨ad, len', cap', m, n, V, D, Pl, hcs, _, hl, hm, hmm, _, hi⟩
  · simp only [List.cons.injEq, and_true] at h0
    subst h0
    exact ⟨_, _, _, [], rfl, rfl, Rds.nil _ _ _, Nat.le_refl _⟩
  · simp only [List.cons.injEq, and_true] at hcs
    subst hcs
    obtain ⟨len, hlen'⟩ : ∃ len, len = len' := ⟨_, rfl⟩
    subst hlen'
    have hlm : len ≤ m := by rw [hmm]; split <;> omega
    have each : ∀ i, i < len → ∃ s : ByteArray, W.cell? (ad.add i) = some (.string s) := fun i hil => by
      obtain ⟨c0, t0⟩ := hi i (by omega)
      obtain ⟨s0, e0, _, _⟩ := DataW.trod_string Tryz.underlying9 t0
      simp only [List.cons.injEq, and_true] at e0
      exact ⟨s0, by rw [c0, e0]⟩
    obtain ⟨q, hq⟩ := choose_lt each
    refine ⟨_, _, _, (List.range len).map q, rfl, by simp, fun h0 => ⟨ad, rfl, ?_, fun j u hu => ?_⟩, hl⟩
    · have hpos : 0 < len := by simpa [cellsS] using h0
      have := hq 0 hpos
      have := World.block_lt_of_cell? W _ this
      rwa [add_block] at this
    · have hj : j < len := by have := (List.getElem?_eq_some_iff.1 hu).1; simpa [cellsS] using this
      unfold cellsS at hu
      rw [List.getElem?_map, List.getElem?_map, List.getElem?_range hj] at hu
      simp only [Option.map_some, Option.some.injEq] at hu
      rw [hq j hj, hu]
set_option maxRecDepth 100000 in
theorem open_names {v : Value} {d : DataW H} {p : List MemPlace} (hv : Value.okWide Tryz.prog W .any base 27 v) (h : DataW.Trod enc Tryz.prog W 0 (fun _ => true) true 27 v d p) :
    ∃ A n c l, v = .slice A n c ∧ n = l.length ∧ Rds W W.heap.size A (cellsS l) ∧ n ≤ c := by
  obtain ⟨a, len, cap, rfl⟩ := okWide_slice Tryz.underlying27 hv
  obtain ⟨fuel, hf⟩ := h
  exact open_names_cells hf
end
section
variable {H : Type} {enc : TypeId × Value → H} {P : Program} {w : World} {base : Nat} {spare : Nat → Bool} {held : Bool}
set_option maxRecDepth 100000 in
theorem open_nest_1 {r : Reach} {b0 : Nat} {t : TypeId} {f0 f1 f2 f3 : Field} {v : Value} {d : DataW H} {p : List MemPlace} (hs : P.underlying t = some (.struct #[f0, f1, f2, f3])) (hC : P.cellsOf t = 5)
    (o0 : f0.offset = 0) (k0 : P.cellsOf f0.type = 1) (o1 : f1.offset = 1) (k1 : P.cellsOf f1.type = 2) (o2 : f2.offset = 3) (k2 : P.cellsOf f2.type = 1) (o3 : f3.offset = 4) (k3 : P.cellsOf f3.type = 1)
    (hv : Value.okWide P w r b0 t v) (h : DataW.Trod enc P w base spare held t v d p) :
    ∃ (c0 c1 c2 c3 c4 : Value) (y0 y1 y2 y3 : DataW H × List MemPlace) (n : Nat), v = .agg #[c0, c1, c2, c3, c4] ∧ d = .agg [y0.1, y1.1, y2.1, y3.1] ∧
      DataW.trod enc P w base spare held n f0.type [c0] = some y0 ∧ DataW.trod enc P w base spare held n f1.type [c1, c2] = some y1 ∧ DataW.trod enc P w base spare held n f2.type [c3] = some y2 ∧ DataW.trod enc P w base spare held n f3.type [c4] = some y3 := by
  obtain ⟨cs, rfl, hsz⟩ := okWide_struct hs hv
  obtain ⟨l⟩ := cs
  match l, hsz.trans hC with
  | [c0, c1, c2, c3, c4], _ =>
    obtain ⟨fuel, hf⟩ := h
    obtain ⟨xs, n, _, hx, _, hlen, hg⟩ := DataW.trod_struct hs hf
    match xs, hlen with
    | [y0, y1, y2, y3], _ =>
      simp only [Prod.mk.injEq] at hx
      exact ⟨c0, c1, c2, c3, c4, y0, y1, y2, y3, n, rfl, by simpa using hx.1, by simpa [Value.cells, o0, k0] using hg 0 f0 rfl, by simpa [Value.cells, o1, k1] using hg 1 f1 rfl, by simpa [Value.cells, o2, k2] using hg 2 f2 rfl, by simpa [Value.cells, o3, k3] using hg 3 f3 rfl⟩
set_option maxRecDepth 100000 in
theorem open_nest_2 {r : Reach} {b0 : Nat} {t : TypeId} {f0 f1 f2 f3 f4 : Field} {v : Value} {d : DataW H} {p : List MemPlace} (hs : P.underlying t = some (.struct #[f0, f1, f2, f3, f4])) (hC : P.cellsOf t = 6)
    (o0 : f0.offset = 0) (k0 : P.cellsOf f0.type = 1) (o1 : f1.offset = 1) (k1 : P.cellsOf f1.type = 2) (o2 : f2.offset = 3) (k2 : P.cellsOf f2.type = 1) (o3 : f3.offset = 4) (k3 : P.cellsOf f3.type = 1) (o4 : f4.offset = 5) (k4 : P.cellsOf f4.type = 1)
    (hv : Value.okWide P w r b0 t v) (h : DataW.Trod enc P w base spare held t v d p) :
    ∃ (c0 c1 c2 c3 c4 c5 : Value) (y0 y1 y2 y3 y4 : DataW H × List MemPlace) (n : Nat), v = .agg #[c0, c1, c2, c3, c4, c5] ∧ d = .agg [y0.1, y1.1, y2.1, y3.1, y4.1] ∧
      DataW.trod enc P w base spare held n f0.type [c0] = some y0 ∧ DataW.trod enc P w base spare held n f1.type [c1, c2] = some y1 ∧ DataW.trod enc P w base spare held n f2.type [c3] = some y2 ∧ DataW.trod enc P w base spare held n f3.type [c4] = some y3 ∧ DataW.trod enc P w base spare held n f4.type [c5] = some y4 := by
  obtain ⟨cs, rfl, hsz⟩ := okWide_struct hs hv
  obtain ⟨l⟩ := cs
  match l, hsz.trans hC with
  | [c0, c1, c2, c3, c4, c5], _ =>
    obtain ⟨fuel, hf⟩ := h
    obtain ⟨xs, n, _, hx, _, hlen, hg⟩ := DataW.trod_struct hs hf
    match xs, hlen with
    | [y0, y1, y2, y3, y4], _ =>
      simp only [Prod.mk.injEq] at hx
      exact ⟨c0, c1, c2, c3, c4, c5, y0, y1, y2, y3, y4, n, rfl, by simpa using hx.1, by simpa [Value.cells, o0, k0] using hg 0 f0 rfl, by simpa [Value.cells, o1, k1] using hg 1 f1 rfl, by simpa [Value.cells, o2, k2] using hg 2 f2 rfl, by simpa [Value.cells, o3, k3] using hg 3 f3 rfl, by simpa [Value.cells, o4, k4] using hg 4 f4 rfl⟩
set_option maxRecDepth 100000 in
theorem open_two9 {t : TypeId} {f0 f1 : Field} {fuel : Nat} {c0 c1 : Value} {x : DataW H × List MemPlace} (hs : P.underlying t = some (.struct #[f0, f1]))
    (o0 : f0.offset = 0) (k0 : P.cellsOf f0.type = 1) (o1 : f1.offset = 1) (k1 : P.cellsOf f1.type = 1) (h : DataW.trod enc P w base spare held fuel t [c0, c1] = some x) :
    ∃ (y0 y1 : DataW H × List MemPlace) (n : Nat), x.1 = .agg [y0.1, y1.1] ∧ DataW.trod enc P w base spare held n f0.type [c0] = some y0 ∧ DataW.trod enc P w base spare held n f1.type [c1] = some y1 := by
  obtain ⟨xs, n, _, hx, _, hlen, hg⟩ := DataW.trod_struct hs h
  match xs, hlen with
  | [y0, y1], _ => exact ⟨y0, y1, n, by rw [hx]; rfl, by simpa [o0, k0] using hg 0 f0 rfl, by simpa [o1, k1] using hg 1 f1 rfl⟩
end
section
variable {H : Type} {enc : TypeId × Value → H} {W : World} {base : Nat}
set_option maxRecDepth 100000 in
theorem open_LoadTellsIn {v : Value} {d : DataW H} {p : List MemPlace} (hv : Value.okWide Tryz.prog W .any base 29 v) (h : DataW.Trod enc Tryz.prog W 0 (fun _ => true) true 29 v d p) (hz : ∀ n ∈ d.weights Tryz.prog 29, n ≤ reachBytes) :
    ∃ (R : Option Addr) (nl cl : Nat) (L : List Sig) (A : Option Addr) (n c : Nat) (S : Option Addr) (m e : Nat) (ks : List (List Int)) (sl : List Int) (B : Option Addr) (nb cb : Nat) (names : List ByteArray) (x0 : Int), v = .agg #[.slice R nl cl, .slice A n c, .slice S m e, .slice B nb cb, .int .i64 x0] ∧ nl = L.length ∧ Row W W.heap.size R L ∧ L.length ≤ maxLen ∧ Sized L ∧
      n = ks.length ∧ m = sl.length ∧ Keys W W.heap.size A ks ∧ Ints W W.heap.size S sl ∧ ks.length ≤ 1152921504606846976 ∧ (∀ k ∈ ks, k.length ≤ 1152921504606846976) ∧ sl.length ≤ 1152921504606846976 ∧ nb = names.length ∧ Rds W W.heap.size B (cellsS names) := by
  obtain ⟨c0, c1, c2, c3, c4, y0, y1, y2, y3, n, rfl, rfl, g0, g1, g2, g3⟩ := open_nest_1 Tryz.underlying29 (by kernel_rfl) rfl (by kernel_rfl) rfl (by kernel_rfl) rfl (by kernel_rfl) rfl (by kernel_rfl) hv h
  obtain ⟨z0, z1, _, hy, t0, t1⟩ := open_two9 Tryz.underlying26 rfl (by kernel_rfl) rfl (by kernel_rfl) g1
  have hw : DataW.weights Tryz.prog 29 (.agg [y0.1, y1.1, y2.1, y3.1]) = y0.1.weights Tryz.prog 22 ++ (y1.1.weights Tryz.prog 26 ++ (y2.1.weights Tryz.prog 27 ++ (y3.1.weights Tryz.prog 3 ++ ([])))) := by
    simp [DataW.weights, Tryz.underlying29, DataW.weightsEach]
  have hw1 : DataW.weights Tryz.prog 26 (.agg [z0.1, z1.1]) = z0.1.weights Tryz.prog 23 ++ (z1.1.weights Tryz.prog 24 ++ []) := by
    simp [DataW.weights, Tryz.underlying26, DataW.weightsEach]
  rw [hw, hy, hw1] at hz
  obtain ⟨R, nl, cl, L, rfl, a1, a2, a3, a4, _⟩ := Sg.open_sigs_cells9 g0
  obtain ⟨A, n', c, ks, rfl, hn, hk, hl, hs⟩ := Hs.open_rows_cells t0 (fun n hn => hz n (by simp [hn]))
  obtain ⟨S, m, e, sl, rfl, hm, _, hS, hsl⟩ := Hs.open_row_cells t1 (fun n hn => hz n (by simp [hn]))
  obtain ⟨B, nb, cb, names, rfl, b1, b2, _⟩ := open_names_cells g2
  obtain ⟨x0, e0, _, _⟩ := DataW.trod_int Tryz.underlying3 g3
  simp only [List.cons.injEq, and_true] at e0
  subst e0
  exact ⟨R, nl, cl, L, A, n', c, S, m, e, ks, sl, B, nb, cb, names, x0, rfl, a1, a2, a3, a4, hn, hm, hk, hS, hl, hs, hsl, b1, b2⟩
set_option maxRecDepth 100000 in
theorem open_LoadBackIn {v : Value} {d : DataW H} {p : List MemPlace} (hv : Value.okWide Tryz.prog W .any base 43 v) (h : DataW.Trod enc Tryz.prog W 0 (fun _ => true) true 43 v d p) (hz : ∀ n ∈ d.weights Tryz.prog 43, n ≤ reachBytes) :
    ∃ (R : Option Addr) (nl cl : Nat) (L : List Sig) (A : Option Addr) (n c : Nat) (S : Option Addr) (m e : Nat) (ks : List (List Int)) (sl : List Int) (B : Option Addr) (nb cb : Nat) (names : List ByteArray) (E : Option Addr) (ne ce : Nat) (l : List Tg), v = .agg #[.slice R nl cl, .slice A n c, .slice S m e, .slice B nb cb, .slice E ne ce] ∧ nl = L.length ∧ Row W W.heap.size R L ∧ L.length ≤ maxLen ∧ Sized L ∧
      n = ks.length ∧ m = sl.length ∧ Keys W W.heap.size A ks ∧ Ints W W.heap.size S sl ∧ ks.length ≤ 1152921504606846976 ∧ (∀ k ∈ ks, k.length ≤ 1152921504606846976) ∧ sl.length ≤ 1152921504606846976 ∧ nb = names.length ∧ Rds W W.heap.size B (cellsS names) ∧ ne = l.length ∧ Rds W W.heap.size E (cellsG l) ∧ l.length ≤ 140737488355328 ∧ ne ≤ ce ∧ ∀ t ∈ l, t.2.1.size ≤ 140737488355328 := by
  obtain ⟨c0, c1, c2, c3, c4, y0, y1, y2, y3, n, rfl, rfl, g0, g1, g2, g3⟩ := open_nest_1 Tryz.underlying43 (by kernel_rfl) rfl (by kernel_rfl) rfl (by kernel_rfl) rfl (by kernel_rfl) rfl (by kernel_rfl) hv h
  obtain ⟨z0, z1, _, hy, t0, t1⟩ := open_two9 Tryz.underlying26 rfl (by kernel_rfl) rfl (by kernel_rfl) g1
  have hw : DataW.weights Tryz.prog 43 (.agg [y0.1, y1.1, y2.1, y3.1]) = y0.1.weights Tryz.prog 22 ++ (y1.1.weights Tryz.prog 26 ++ (y2.1.weights Tryz.prog 27 ++ (y3.1.weights Tryz.prog 33 ++ ([])))) := by
    simp [DataW.weights, Tryz.underlying43, DataW.weightsEach]
  have hw1 : DataW.weights Tryz.prog 26 (.agg [z0.1, z1.1]) = z0.1.weights Tryz.prog 23 ++ (z1.1.weights Tryz.prog 24 ++ []) := by
    simp [DataW.weights, Tryz.underlying26, DataW.weightsEach]
  rw [hw, hy, hw1] at hz
  obtain ⟨R, nl, cl, L, rfl, a1, a2, a3, a4, _⟩ := Sg.open_sigs_cells9 g0
  obtain ⟨A, n', c, ks, rfl, hn, hk, hl, hs⟩ := Hs.open_rows_cells t0 (fun n hn => hz n (by simp [hn]))
  obtain ⟨S, m, e, sl, rfl, hm, _, hS, hsl⟩ := Hs.open_row_cells t1 (fun n hn => hz n (by simp [hn]))
  obtain ⟨B, nb, cb, names, rfl, b1, b2, _⟩ := open_names_cells g2
  obtain ⟨E, ne, ce, l, rfl, q1, q2, q3, q4, q5⟩ := open_nodes_cells9 g3 (fun n hn => hz n (by simp [hn]))
  exact ⟨R, nl, cl, L, A, n', c, S, m, e, ks, sl, B, nb, cb, names, E, ne, ce, l, rfl, a1, a2, a3, a4, hn, hm, hk, hS, hl, hs, hsl, b1, b2, q1, q2, q3, q4, q5⟩
set_option maxRecDepth 100000 in
theorem open_LoadStaysIn {v : Value} {d : DataW H} {p : List MemPlace} (hv : Value.okWide Tryz.prog W .any base 52 v) (h : DataW.Trod enc Tryz.prog W 0 (fun _ => true) true 52 v d p) (hz : ∀ n ∈ d.weights Tryz.prog 52, n ≤ reachBytes) :
    ∃ (R : Option Addr) (nl cl : Nat) (L : List Sig) (A : Option Addr) (n c : Nat) (S : Option Addr) (m e : Nat) (ks : List (List Int)) (sl : List Int) (B : Option Addr) (nb cb : Nat) (names : List ByteArray) (E : Option Addr) (ne ce : Nat) (l : List Tg), v = .agg #[.slice R nl cl, .slice A n c, .slice S m e, .slice B nb cb, .slice E ne ce] ∧ nl = L.length ∧ Row W W.heap.size R L ∧ L.length ≤ maxLen ∧ Sized L ∧
      n = ks.length ∧ m = sl.length ∧ Keys W W.heap.size A ks ∧ Ints W W.heap.size S sl ∧ ks.length ≤ 1152921504606846976 ∧ (∀ k ∈ ks, k.length ≤ 1152921504606846976) ∧ sl.length ≤ 1152921504606846976 ∧ nb = names.length ∧ Rds W W.heap.size B (cellsS names) ∧ ne = l.length ∧ Rds W W.heap.size E (cellsG l) ∧ l.length ≤ 140737488355328 ∧ ne ≤ ce ∧ ∀ t ∈ l, t.2.1.size ≤ 140737488355328 := by
  obtain ⟨c0, c1, c2, c3, c4, y0, y1, y2, y3, n, rfl, rfl, g0, g1, g2, g3⟩ := open_nest_1 Tryz.underlying52 (by kernel_rfl) rfl (by kernel_rfl) rfl (by kernel_rfl) rfl (by kernel_rfl) rfl (by kernel_rfl) hv h
  obtain ⟨z0, z1, _, hy, t0, t1⟩ := open_two9 Tryz.underlying26 rfl (by kernel_rfl) rfl (by kernel_rfl) g1
  have hw : DataW.weights Tryz.prog 52 (.agg [y0.1, y1.1, y2.1, y3.1]) = y0.1.weights Tryz.prog 22 ++ (y1.1.weights Tryz.prog 26 ++ (y2.1.weights Tryz.prog 27 ++ (y3.1.weights Tryz.prog 33 ++ ([])))) := by
    simp [DataW.weights, Tryz.underlying52, DataW.weightsEach]
  have hw1 : DataW.weights Tryz.prog 26 (.agg [z0.1, z1.1]) = z0.1.weights Tryz.prog 23 ++ (z1.1.weights Tryz.prog 24 ++ []) := by
    simp [DataW.weights, Tryz.underlying26, DataW.weightsEach]
  rw [hw, hy, hw1] at hz
  obtain ⟨R, nl, cl, L, rfl, a1, a2, a3, a4, _⟩ := Sg.open_sigs_cells9 g0
  obtain ⟨A, n', c, ks, rfl, hn, hk, hl, hs⟩ := Hs.open_rows_cells t0 (fun n hn => hz n (by simp [hn]))
  obtain ⟨S, m, e, sl, rfl, hm, _, hS, hsl⟩ := Hs.open_row_cells t1 (fun n hn => hz n (by simp [hn]))
  obtain ⟨B, nb, cb, names, rfl, b1, b2, _⟩ := open_names_cells g2
  obtain ⟨E, ne, ce, l, rfl, q1, q2, q3, q4, q5⟩ := open_nodes_cells9 g3 (fun n hn => hz n (by simp [hn]))
  exact ⟨R, nl, cl, L, A, n', c, S, m, e, ks, sl, B, nb, cb, names, E, ne, ce, l, rfl, a1, a2, a3, a4, hn, hm, hk, hS, hl, hs, hsl, b1, b2, q1, q2, q3, q4, q5⟩
set_option maxRecDepth 100000 in
theorem open_LoadTextsIn {v : Value} {d : DataW H} {p : List MemPlace} (hv : Value.okWide Tryz.prog W .any base 62 v) (h : DataW.Trod enc Tryz.prog W 0 (fun _ => true) true 62 v d p) (hz : ∀ n ∈ d.weights Tryz.prog 62, n ≤ reachBytes) :
    ∃ (R : Option Addr) (nl cl : Nat) (L : List Sig) (A : Option Addr) (n c : Nat) (S : Option Addr) (m e : Nat) (ks : List (List Int)) (sl : List Int) (B : Option Addr) (nb cb : Nat) (names : List ByteArray) (x0 : Int) (x1 : Int), v = .agg #[.slice R nl cl, .slice A n c, .slice S m e, .slice B nb cb, .int .i64 x0, .int .i64 x1] ∧ nl = L.length ∧ Row W W.heap.size R L ∧ L.length ≤ maxLen ∧ Sized L ∧
      n = ks.length ∧ m = sl.length ∧ Keys W W.heap.size A ks ∧ Ints W W.heap.size S sl ∧ ks.length ≤ 1152921504606846976 ∧ (∀ k ∈ ks, k.length ≤ 1152921504606846976) ∧ sl.length ≤ 1152921504606846976 ∧ nb = names.length ∧ Rds W W.heap.size B (cellsS names) := by
  obtain ⟨c0, c1, c2, c3, c4, c5, y0, y1, y2, y3, y4, n, rfl, rfl, g0, g1, g2, g3, g4⟩ := open_nest_2 Tryz.underlying62 (by kernel_rfl) rfl (by kernel_rfl) rfl (by kernel_rfl) rfl (by kernel_rfl) rfl (by kernel_rfl) rfl (by kernel_rfl) hv h
  obtain ⟨z0, z1, _, hy, t0, t1⟩ := open_two9 Tryz.underlying26 rfl (by kernel_rfl) rfl (by kernel_rfl) g1
  have hw : DataW.weights Tryz.prog 62 (.agg [y0.1, y1.1, y2.1, y3.1, y4.1]) = y0.1.weights Tryz.prog 22 ++ (y1.1.weights Tryz.prog 26 ++ (y2.1.weights Tryz.prog 27 ++ (y3.1.weights Tryz.prog 3 ++ (y4.1.weights Tryz.prog 3 ++ ([]))))) := by
    simp [DataW.weights, Tryz.underlying62, DataW.weightsEach]
  have hw1 : DataW.weights Tryz.prog 26 (.agg [z0.1, z1.1]) = z0.1.weights Tryz.prog 23 ++ (z1.1.weights Tryz.prog 24 ++ []) := by
    simp [DataW.weights, Tryz.underlying26, DataW.weightsEach]
  rw [hw, hy, hw1] at hz
  obtain ⟨R, nl, cl, L, rfl, a1, a2, a3, a4, _⟩ := Sg.open_sigs_cells9 g0
  obtain ⟨A, n', c, ks, rfl, hn, hk, hl, hs⟩ := Hs.open_rows_cells t0 (fun n hn => hz n (by simp [hn]))
  obtain ⟨S, m, e, sl, rfl, hm, _, hS, hsl⟩ := Hs.open_row_cells t1 (fun n hn => hz n (by simp [hn]))
  obtain ⟨B, nb, cb, names, rfl, b1, b2, _⟩ := open_names_cells g2
  obtain ⟨x0, e0, _, _⟩ := DataW.trod_int Tryz.underlying3 g3
  simp only [List.cons.injEq, and_true] at e0
  subst e0
  obtain ⟨x1, e1, _, _⟩ := DataW.trod_int Tryz.underlying3 g4
  simp only [List.cons.injEq, and_true] at e1
  subst e1
  exact ⟨R, nl, cl, L, A, n', c, S, m, e, ks, sl, B, nb, cb, names, x0, x1, rfl, a1, a2, a3, a4, hn, hm, hk, hS, hl, hs, hsl, b1, b2⟩
end
end Go.Proofs.YtdmdcggmgipdbaaGreatDoor.Ex

namespace Go.Proofs.YtdmdcggmgipdbaaGreatDoor.Kit
open Go.RowKit Go.WideShapes Go.ChangeShapes Go.ChangeAt

/-- the cells of a table of numbers -/
def tabCells : DataW Unit → Array Value
  | .agg l => (l.map fun d => match d with
    | .lit (.int k n) => Value.int k n
    | _ => Value.bool false).toArray
  | _ => #[]
noncomputable def laidWorld (os : Os) : World :=
  let w0 := World.holding Tryz.prog os ⟨#[], #[], []⟩
  let put (w : World) (g : Nat) (cs : Array Value) : World := { w with heap := w.heap.modify g fun
      | .cells _ t frozen => .cells cs t frozen
      | o => o }
  put (put (put w0 0 (tabCells Rows.laid_internal_strconv_uint64pow10)) 1 (tabCells Rows.laid_math_bits_deBruijn32tab)) 2 (tabCells Rows.laid_math_bits_deBruijn64tab)
def laidList : List (String × DataW Unit) := [("math/bits.deBruijn32tab", Rows.laid_math_bits_deBruijn32tab), ("math/bits.deBruijn64tab", Rows.laid_math_bits_deBruijn64tab), ("internal/strconv.uint64pow10", Rows.laid_internal_strconv_uint64pow10)]
set_option maxRecDepth 100000 in
theorem laid_met (os : Os) (args : Array Value) : laidMet Tryz.prog laidList ((laidWorld os).forCall (fun _ _ => 0) ⟨#[], args, []⟩).memory :=
  laidMet_of_run' 8 (by kernel_rfl) (by kernel_rfl)
theorem laid_vars (os : Os) (args : Array Value) : ((laidWorld os).forCall (fun _ _ => 0) ⟨#[], args, []⟩).variablesB Tryz.prog = true := by kernel_rfl
end Go.Proofs.YtdmdcggmgipdbaaGreatDoor.Kit

namespace Go.Proofs.YtdmdcggmgipdbaaGreatDoor.Ex
open Go.RowKit Kit Rw

def eqT : List ByteArray → List ByteArray → Bool
  | [], [] => true
  | a :: l, b :: m => Sg.eqS a b && eqT l m
  | _, _ => false
theorem eqT_iff : ∀ (l m : List ByteArray), eqT l m = true ↔ l = m
  | [], [] => by simp [eqT]
  | [], _ :: _ => by simp [eqT]
  | _ :: _, [] => by simp [eqT]
  | a :: l, b :: m => by
    unfold eqT
    rw [Bool.and_eq_true, Sg.eqS_iff, eqT_iff l m]
    simp
theorem eqT_len {l m : List ByteArray} (h : l.length ≠ m.length) : eqT l m = false := by
  cases he : eqT l m
  · rfl
  · exact absurd (congrArg List.length ((eqT_iff l m).1 he)) h
theorem eqT_at (l m : List ByteArray) (k : Nat) (h : k < l.length) (h' : k < m.length) : eqT (l.drop k) (m.drop k) = (Sg.eqS l[k] m[k] && eqT (l.drop (k + 1)) (m.drop (k + 1))) := by
  rw [List.drop_eq_getElem_cons h, List.drop_eq_getElem_cons h']; rfl
set_option maxRecDepth 100000 in
set_option maxHeartbeats 1000000 in
theorem texts8_any (A A' : Option Addr) (n c n' c' : Nat) (l m : List ByteArray) (w : World) (hn : n = l.length) (hn' : n' = m.length) (hr : Rds w w.heap.size A (cellsS l)) (hr' : Rds w w.heap.size A' (cellsS m)) (hl : l.length ≤ 1000000) :
    Calls Tryz.prog 22 #[.slice A n c, .slice A' n' c'] w fun e w' => e = .returned (.bool (eqT l m)) ∧ Q w w' := by
  subst hn hn'
  by_cases hne : l.length = m.length
  · have HN := Lib.hid hne
    have HR := Lib.hid hr
    have HR' := Lib.hid hr'
    have n0 : ((l.length : Int) != (m.length : Int)) = false := by rw [hne]; simp
    clear hr hr' hne
    go_enter Tryz.func22, Tryz.ntmps22
    go_wp2_with fail
    go_loopw [5] (fun i wr => ∃ k : Nat, k ≤ l.length ∧ i = .int .i64 k ∧ Hid (eqT l m = eqT (l.drop k) (m.drop k)) ∧ Hid (Q w wr)) (fun i _ => l.length - (intOf i).toNat)
    case atStart => exact ⟨0, Nat.zero_le _, rfl, Lib.hid (by simp), Q.refl _⟩
    case round =>
      obtain ⟨k, hk, rfl, HT, HQ⟩ := hrel
      by_cases hlt : k < l.length
      · have hlt' : k < m.length := by rw [← HN.out]; exact hlt
        obtain ⟨ad, rfl, hb, c0⟩ := str_at (HR.out.q HQ.out) hlt
        obtain ⟨ad', rfl, hb', c0'⟩ := str_at (HR'.out.q HQ.out) hlt'
        have hst := HT.out.trans (eqT_at l m k hlt hlt')
        clear HT
        generalize l[k] = a at *
        generalize m[k] = b at *
        cases he : Sg.eqS a b
        · rw [he, Bool.false_and] at hst
          have HS := Lib.hid hst
          have he' : (a.toList == b.toList) = false := he
          clear he hst
          go_wp2_with fail
          go_quiet (fail)
          go_wp2_with fail
          go_ret
          exact ⟨by rw [HS.out]; rfl, HQ.out.drewN _⟩
        · rw [he, Bool.true_and] at hst
          have HS := Lib.hid hst
          have he' : (a.toList == b.toList) = true := he
          clear he hst
          go_wp2_with fail
          go_quiet (fail)
          go_wp2_with fail
          go_roundw
          case rel => exact ⟨k + 1, by omega, by go_num, HS, HQ.out.drewN _⟩
          case measure => simp [intOf]; omega
      · have HS : Hid (eqT l m = true) := by
          have h1 : l.drop k = [] := List.drop_of_length_le (by omega)
          have h2 : m.drop k = [] := List.drop_of_length_le (by rw [← HN.out]; omega)
          have := HT.out
          rw [h1, h2] at this
          exact this
        clear HT
        go_wp2_with fail
        go_ret
        exact ⟨by rw [HS.out]; rfl, HQ.out⟩
  · have HS := Lib.hid (eqT_len hne)
    have n0 : ((l.length : Int) != (m.length : Int)) = true := bne_iff_ne.2 (by omega)
    have n1 : (l.length != m.length) = true := bne_iff_ne.2 hne
    clear hr hr' hne
    go_enter Tryz.func22, Tryz.ntmps22
    go_wp2_with fail
    go_ret
    exact ⟨by rw [HS.out]; rfl, Q.refl _⟩
end Go.Proofs.YtdmdcggmgipdbaaGreatDoor.Ex

namespace Go.Proofs.YtdmdcggmgipdbaaGreatDoor.Ex
open Go.ChangeShapes Go.WideShapes Go.RowKit Kit Rw Go.Deep Go.Joins

theorem bytes_node : Tryz.prog.bytesOf 67 = 32 := by kernel_rfl
section
variable {H : Type} {enc : TypeId × Value → H} {W : World} {base : Nat}
set_option maxRecDepth 100000 in
theorem open_nodes {v : Value} {d : DataW H} {p : List MemPlace} (hv : Value.okWide Tryz.prog W .any base 33 v) (h : DataW.Trod enc Tryz.prog W 0 (fun _ => true) true 33 v d p)
    (hz : ∀ n ∈ d.weights Tryz.prog 33, n ≤ reachBytes) :
    ∃ S n c l, v = .slice S n c ∧ n = l.length ∧ Rds W W.heap.size S (cellsG l) ∧ l.length ≤ 140737488355328 ∧ n ≤ c ∧ ∀ t ∈ l, t.2.1.size ≤ 140737488355328 := by
  obtain ⟨a, len, cap, rfl⟩ := okWide_slice Tryz.underlying33 hv
  obtain ⟨fuel, hf⟩ := h
  rcases open_fields3 Tryz.underlying33 Tryz.underlying67 (by kernel_rfl) (by kernel_rfl) hf with ⟨h0, _⟩ | ⟨ad, len', cap', m, D, Pl, hcs, _, hl, hm, hmm, hx, hi⟩
  · simp only [Value.cells, List.cons.injEq, Value.slice.injEq, and_true] at h0
    obtain ⟨rfl, rfl, rfl⟩ := h0
    exact ⟨_, _, _, [], rfl, rfl, Rds.nil _ _ _, by simp, Nat.le_refl _, fun t ht => by cases ht⟩
  · simp only [Value.cells, List.cons.injEq, Value.slice.injEq, and_true] at hcs
    obtain ⟨rfl, rfl, rfl⟩ := hcs
    have hlm : len ≤ m := by rw [hmm]; split <;> omega
    simp only [Prod.mk.injEq] at hx
    have hd := hx.1
    have hw : ∀ i, i < len → ∀ n ∈ (D i).weights Tryz.prog 67, n ≤ reachBytes := fun i hil n hn => by
      refine hz n ?_
      rw [hd]
      simp only [DataW.weights, Tryz.underlying33, List.mem_cons, List.mem_append]
      exact .inr (.inl (weights_all (List.mem_map.2 ⟨i, by simpa using hil, rfl⟩) n hn))
    have hlen : len ≤ 140737488355328 := by
      have := hz ((((List.range len).map D).length + ((List.range (m - len)).map fun j => D (len + j)).length) * Tryz.prog.bytesOf 67) (by
        rw [hd]
        simp only [DataW.weights, Tryz.underlying33]
        exact List.mem_cons_self ..)
      rw [bytes_node] at this
      simp [reachBytes] at this
      omega
    have each : ∀ i, i < len → ∃ s : Tg, W.cell? (ad.add (i * 3)) = some (.int .i64 s.1) ∧ W.cell? (ad.add (i * 3 + 1)) = some (.string s.2.1) ∧ W.cell? (ad.add (i * 3 + 2)) = some (.int .i64 s.2.2) ∧ s.2.1.size ≤ 140737488355328 := fun i hil => by
      obtain ⟨ys, n, hD, _, hyl, hf⟩ := hi i (by omega)
      obtain ⟨u0, y0, c0, g0, t0⟩ := hf 0 _ rfl
      obtain ⟨u1, y1, c1, g1, t1⟩ := hf 1 _ rfl
      obtain ⟨u2, y2, c2, g2, t2⟩ := hf 2 _ rfl
      obtain ⟨s0, e0, _, _⟩ := DataW.trod_int Tryz.underlying3 t0
      obtain ⟨s1, e1, x1, _⟩ := DataW.trod_string Tryz.underlying9 t1
      obtain ⟨s2, e2, _, _⟩ := DataW.trod_int Tryz.underlying3 t2
      simp only [List.cons.injEq, and_true] at e0 e1 e2
      refine ⟨(s0, s1, s2), by rw [← e0]; exact c0, by rw [← e1]; exact c1, by rw [← e2]; exact c2, ?_⟩
      have hb := hw i hil s1.data.toList.length (by
        match ys, hyl with
        | [z0, z1, z2], _ =>
          obtain rfl : z1 = y1 := by simpa using g1
          rw [hD, x1]
          simp [DataW.weights, Tryz.underlying67, DataW.weightsEach])
      have e : s1.data.toList.length = s1.size := by simp
      rw [e] at hb
      unfold reachBytes at hb
      show s1.size ≤ _
      omega
    obtain ⟨q, hq⟩ := choose_lt each
    have hll : ((List.range len).map q).length = len := by simp
    refine ⟨_, _, _, (List.range len).map q, rfl, hll.symm, fun h0 => ⟨ad, rfl, ?_, fun j u hu => ?_⟩, by rw [hll]; exact hlen, hl, fun t ht => ?_⟩
    · have hpos : 0 < len := by rw [cellsG_len, hll] at h0; omega
      have := (hq 0 hpos).1
      have := World.block_lt_of_cell? W _ this
      rwa [add_block] at this
    · have hj : j < len * 3 := by have := (List.getElem?_eq_some_iff.1 hu).1; rw [cellsG_len, hll] at this; exact this
      have hi3 : j / 3 < len := by omega
      have hat : ((List.range len).map q)[j / 3]? = some (q (j / 3)) := by rw [List.getElem?_map, List.getElem?_range hi3]; rfl
      obtain ⟨c0, c1, c2, _⟩ := hq (j / 3) hi3
      have hmod : j % 3 = 0 ∨ j % 3 = 1 ∨ j % 3 = 2 := by omega
      rcases hmod with h | h | h
      · have ej : j = j / 3 * 3 := by omega
        rw [ej, cellsG_0, hat] at hu
        rw [ej, c0]; exact hu
      · have ej : j = j / 3 * 3 + 1 := by omega
        rw [ej, cellsG_1, hat] at hu
        rw [ej, c1]; exact hu
      · have ej : j = j / 3 * 3 + 2 := by omega
        rw [ej, cellsG_2, hat] at hu
        rw [ej, c2]; exact hu
    · simp only [List.mem_map, List.mem_range] at ht
      obtain ⟨i, hil, rfl⟩ := ht
      exact (hq i hil).2.2.2
end
end Go.Proofs.YtdmdcggmgipdbaaGreatDoor.Ex
