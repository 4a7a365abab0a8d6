/-
  The document's Put and Below, whatever comes in; the argument of TermPuts, opened.
-/
import Derived.Test.YtgnbempkobgeiaaTermPr
import Derived.Test.YtgnbempkobgeiaaTermRc
import Derived.Test.YtgnbempkobgeiaaTermOpen
namespace Go.Proofs.Ytgnbempkobgeiaa.Tm
open Go.ChangeShapes Go.WideShapes Go.RowKit Kit Go.Deep Go.Joins Hs

set_option maxRecDepth 100000 in
set_option maxHeartbeats 1000000 in
theorem refBelow_out (A S : Option Addr) (c m d : Nat) (ks : List (List Int)) (id : Int) (w : World) (hid : isPl id ks.length = false) :
    Calls Try.prog 16 #[.agg #[.slice A ks.length c, .slice S m d], .int .i64 id] w (RowPost [] w) := by
  have q0 := (Q.refl w).alloc (Obj.cells #[Value.slice A ks.length c, Value.slice S m d] 26)
  by_cases h0 : id < 0
  · have d0 : decide (id < 0) = true := decide_eq_true h0
    clear h0 hid
    go_enter Try.func16, Try.ntmps16
    go_wp2_with fail
    go_ret
    exact ⟨none, 0, rfl, fun h => absurd h (by simp), q0⟩
  · have h1 : ¬ id < (ks.length : Int) := fun h => by
      have := (isPl_iff id ks.length).2 ⟨by omega, h⟩
      rw [hid] at this; cases this
    have d0 : decide (id < 0) = false := decide_eq_false h0
    have d1 : decide ((ks.length : Int) ≤ id) = true := decide_eq_true (by omega)
    clear h0 h1 hid
    go_enter Try.func16, Try.ntmps16
    go_wp2_with fail
    go_ret
    exact ⟨none, 0, rfl, fun h => absurd h (by simp), q0⟩
theorem refBelow_any (A S : Option Addr) (n c m d : Nat) (l : List Sg.Sig) (ks : List (List Int)) (id : Int) (w : World) (hn : n = ks.length) (hk : Keys w w.heap.size A ks) (hst : Store l ks) (hl : ks.length ≤ 5000) (hs : ∀ k ∈ ks, k.length ≤ 100000) :
    Calls Try.prog 16 #[.agg #[.slice A n c, .slice S m d], .int .i64 id] w (RowPost (belowI ks id) w) := by
  subst hn
  unfold belowI
  cases hp : isPl id ks.length
  · exact refBelow_out A S c m d ks id w hp
  · obtain ⟨h0, h1⟩ := (isPl_iff _ _).1 hp
    obtain ⟨i, rfl⟩ := Int.eq_ofNat_of_zero_le h0
    exact refBelow_in A S c m d l ks i w hk hst (by omega) hl hs

section
variable {H : Type} {enc : TypeId × Value → H} {P : Program} {w : World} {base : Nat} {spare : Nat → Bool} {held : Bool}
theorem open_nest9 {r : Reach} {b0 : Nat} {t : TypeId} {f0 f1 f2 f3 f4 : Field} {v : Value} {d : DataW H} {p : List MemPlace} (hs : P.underlying t = some (.struct #[f0, f1, f2, f3, f4])) (hC : P.cellsOf t = 9)
    (o0 : f0.offset = 0) (k0 : P.cellsOf f0.type = 1) (o1 : f1.offset = 1) (k1 : P.cellsOf f1.type = 2) (o2 : f2.offset = 3) (k2 : P.cellsOf f2.type = 4) (o3 : f3.offset = 7) (k3 : P.cellsOf f3.type = 1) (o4 : f4.offset = 8) (k4 : P.cellsOf f4.type = 1)
    (hv : Value.okWide P w r b0 t v) (h : DataW.Trod enc P w base spare held t v d p) :
    ∃ (c0 c1 c2 c3 c4 c5 c6 c7 c8 : Value) (y0 y1 y2 y3 y4 : DataW H × List MemPlace) (n : Nat), v = .agg #[c0, c1, c2, c3, c4, c5, c6, c7, c8] ∧ d = .agg [y0.1, y1.1, y2.1, y3.1, y4.1] ∧
      DataW.trod enc P w base spare held n f0.type [c0] = some y0 ∧ DataW.trod enc P w base spare held n f1.type [c1, c2] = some y1 ∧ DataW.trod enc P w base spare held n f2.type [c3, c4, c5, c6] = some y2 ∧ DataW.trod enc P w base spare held n f3.type [c7] = some y3 ∧ DataW.trod enc P w base spare held n f4.type [c8] = some y4 := by
  obtain ⟨cs, rfl, hsz⟩ := okWide_struct hs hv
  obtain ⟨l⟩ := cs
  match l, hsz.trans hC with
  | [c0, c1, c2, c3, c4, c5, c6, c7, c8], _ =>
    obtain ⟨fuel, hf⟩ := h
    obtain ⟨xs, n, _, hx, _, hlen, hg⟩ := DataW.trod_struct hs hf
    match xs, hlen with
    | [y0, y1, y2, y3, y4], _ =>
      simp only [Prod.mk.injEq] at hx
      exact ⟨c0, c1, c2, c3, c4, c5, c6, c7, c8, y0, y1, y2, y3, y4, n, rfl, by simpa using hx.1, by simpa [Value.cells, o0, k0] using hg 0 f0 rfl, by simpa [Value.cells, o1, k1] using hg 1 f1 rfl, by simpa [Value.cells, o2, k2] using hg 2 f2 rfl, by simpa [Value.cells, o3, k3] using hg 3 f3 rfl, by simpa [Value.cells, o4, k4] using hg 4 f4 rfl⟩
theorem open_two2 {t : TypeId} {f0 f1 : Field} {fuel : Nat} {c0 c1 : Value} {x : DataW H × List MemPlace} (hs : P.underlying t = some (.struct #[f0, f1]))
    (o0 : f0.offset = 0) (k0 : P.cellsOf f0.type = 1) (o1 : f1.offset = 1) (k1 : P.cellsOf f1.type = 1) (h : DataW.trod enc P w base spare held fuel t [c0, c1] = some x) :
    ∃ (y0 y1 : DataW H × List MemPlace) (n : Nat), x.1 = .agg [y0.1, y1.1] ∧ DataW.trod enc P w base spare held n f0.type [c0] = some y0 ∧ DataW.trod enc P w base spare held n f1.type [c1] = some y1 := by
  obtain ⟨xs, n, _, hx, _, hlen, hg⟩ := DataW.trod_struct hs h
  match xs, hlen with
  | [y0, y1], _ => exact ⟨y0, y1, n, by rw [hx]; rfl, by simpa [o0, k0] using hg 0 f0 rfl, by simpa [o1, k1] using hg 1 f1 rfl⟩
theorem open_four4 {t : TypeId} {f0 f1 f2 f3 : Field} {fuel : Nat} {c0 c1 c2 c3 : Value} {x : DataW H × List MemPlace} (hs : P.underlying t = some (.struct #[f0, f1, f2, f3]))
    (o0 : f0.offset = 0) (k0 : P.cellsOf f0.type = 1) (o1 : f1.offset = 1) (k1 : P.cellsOf f1.type = 1) (o2 : f2.offset = 2) (k2 : P.cellsOf f2.type = 1) (o3 : f3.offset = 3) (k3 : P.cellsOf f3.type = 1) (h : DataW.trod enc P w base spare held fuel t [c0, c1, c2, c3] = some x) :
    ∃ (y0 y1 y2 y3 : DataW H × List MemPlace) (n : Nat), x.1 = .agg [y0.1, y1.1, y2.1, y3.1] ∧ DataW.trod enc P w base spare held n f0.type [c0] = some y0 ∧ DataW.trod enc P w base spare held n f1.type [c1] = some y1 ∧ DataW.trod enc P w base spare held n f2.type [c2] = some y2 ∧ DataW.trod enc P w base spare held n f3.type [c3] = some y3 := by
  obtain ⟨xs, n, _, hx, _, hlen, hg⟩ := DataW.trod_struct hs h
  match xs, hlen with
  | [y0, y1, y2, y3], _ => exact ⟨y0, y1, y2, y3, n, by rw [hx]; rfl, by simpa [o0, k0] using hg 0 f0 rfl, by simpa [o1, k1] using hg 1 f1 rfl, by simpa [o2, k2] using hg 2 f2 rfl, by simpa [o3, k3] using hg 3 f3 rfl⟩
end
section
variable {H : Type} {enc : TypeId × Value → H} {W : World} {base : Nat}
theorem open_sigs_cells {fuel : Nat} {v : Value} {x : DataW H × List MemPlace} (hf : DataW.trod enc Try.prog W 0 (fun _ => true) true fuel 22 [v] = some x) :
    ∃ A n c l, v = .slice A n c ∧ n = l.length ∧ Sg.Row W W.heap.size A l ∧ l.length ≤ maxLen ∧ Sg.Sized l := by
  rcases open_slice_pairs Try.underlying22 Try.underlying69 (by kernel_rfl) rfl rfl (by kernel_rfl) (by kernel_rfl) hf with ⟨h0, _⟩ | ⟨ad, len, cap, m, n, V0, V1, D0, D1, P0, P1, hcs, _, hl, hm, hmm, _, hi⟩
  · obtain rfl : v = .slice none 0 0 := by simpa using h0
    exact ⟨_, _, _, [], rfl, rfl, fun h => absurd h (by simp), by simp, (fun s hs => by cases hs)⟩
  · obtain rfl : v = .slice (some ad) len cap := by simpa using hcs
    have hlm : len ≤ m := by rw [hmm]; split <;> omega
    have each : ∀ i, i < len → ∃ s : Sg.Sig, W.cell? (ad.add (i * 2)) = some (.string s.1) ∧ W.cell? (ad.add (i * 2 + 1)) = some (.string s.2) ∧ s.1.size ≤ maxLen ∧ s.2.size ≤ maxLen := fun i hil => by
      obtain ⟨c0, c1, t0, t1⟩ := hi i (by omega)
      obtain ⟨s0, e0, _, z0⟩ := DataW.trod_string Try.underlying9 t0
      obtain ⟨s1, e1, _, z1⟩ := DataW.trod_string Try.underlying9 t1
      simp only [List.cons.injEq, and_true] at e0 e1
      exact ⟨(s0, s1), by rw [c0, e0], by rw [c1, e1], z0, z1⟩
    obtain ⟨q, hq⟩ := choose_lt each
    refine ⟨_, _, _, (List.range len).map q, rfl, by simp, fun h0 => ⟨ad, rfl, ?_, fun i s hs => ?_⟩, by simp; omega, fun s hs => ?_⟩
    · have := (hq 0 (by simpa using h0)).1
      have := World.block_lt_of_cell? W _ this
      rwa [Sg.add_block] at this
    · have hil : i < len := by
        have := (List.getElem?_eq_some_iff.1 hs).1
        simpa using this
      have e : s = q i := by
        rw [List.getElem?_map, List.getElem?_range hil] at hs
        simpa using hs.symm
      subst e
      obtain ⟨c0, c1, _, _⟩ := hq i hil
      rw [Sg.add_succ] at c1
      exact ⟨c0, c1⟩
    · simp only [List.mem_map, List.mem_range] at hs
      obtain ⟨i, hil, rfl⟩ := hs
      exact (hq i hil).2.2
set_option maxRecDepth 100000 in
theorem open_puts {v : Value} {d : DataW H} {p : List MemPlace} (hv : Value.okWide Try.prog W .any base 30 v) (h : DataW.Trod enc Try.prog W 0 (fun _ => true) true 30 v d p) (hz : ∀ n ∈ d.weights Try.prog 30, n ≤ reachBytes) :
    ∃ L nl cl l A n c S m e ks sl E ne ce limit id, ∃ t : Tm, v = .agg #[.slice L nl cl, .slice A n c, .slice S m e, .int .i64 t.k, .int .i64 t.s, .int .i64 t.p, .slice E ne ce, .int .i64 limit, .int .i64 id] ∧ nl = l.length ∧ Sg.Row W W.heap.size L l ∧ l.length ≤ maxLen ∧ Sg.Sized l ∧
      n = ks.length ∧ m = sl.length ∧ Keys W W.heap.size A ks ∧ Ints W W.heap.size S sl ∧ ks.length ≤ 1152921504606846976 ∧ (∀ k ∈ ks, k.length ≤ 1152921504606846976) ∧ sl.length ≤ 1152921504606846976 ∧ ne = t.xs.length ∧ Ints W W.heap.size E t.xs ∧ Wf t.k ∧ t.xs.length ≤ 1152921504606846976 := by
  obtain ⟨c0, c1, c2, c3, c4, c5, c6, c7, c8, y0, y1, y2, y3, y4, n, rfl, rfl, g0, g1, g2, g3, g4⟩ := open_nest9 Try.underlying30 (by kernel_rfl) rfl (by kernel_rfl) rfl (by kernel_rfl) rfl (by kernel_rfl) rfl (by kernel_rfl) rfl (by kernel_rfl) hv h
  obtain ⟨z0, z1, _, hy, t0, t1⟩ := open_two2 Try.underlying26 rfl (by kernel_rfl) rfl (by kernel_rfl) g1
  obtain ⟨u0, u1, u2, u3, _, hu, s0, s1, s2, s3⟩ := open_four4 Try.underlying28 rfl (by kernel_rfl) rfl (by kernel_rfl) rfl (by kernel_rfl) rfl (by kernel_rfl) g2
  obtain ⟨i3, e3, _, _⟩ := DataW.trod_int Try.underlying3 g3
  obtain ⟨i4, e4, _, _⟩ := DataW.trod_int Try.underlying3 g4
  simp only [List.cons.injEq, and_true] at e3 e4
  have hw : DataW.weights Try.prog 30 (.agg [y0.1, y1.1, y2.1, y3.1, y4.1]) = y0.1.weights Try.prog 22 ++ (y1.1.weights Try.prog 26 ++ (y2.1.weights Try.prog 28 ++ (y3.1.weights Try.prog 3 ++ (y4.1.weights Try.prog 3 ++ [])))) := by
    simp [DataW.weights, Try.underlying30, DataW.weightsEach]
  have hw1 : DataW.weights Try.prog 26 (.agg [z0.1, z1.1]) = z0.1.weights Try.prog 23 ++ (z1.1.weights Try.prog 24 ++ []) := by
    simp [DataW.weights, Try.underlying26, DataW.weightsEach]
  have hw2 : DataW.weights Try.prog 28 (.agg [u0.1, u1.1, u2.1, u3.1]) = u0.1.weights Try.prog 3 ++ (u1.1.weights Try.prog 3 ++ (u2.1.weights Try.prog 3 ++ (u3.1.weights Try.prog 24 ++ []))) := by
    simp [DataW.weights, Try.underlying28, DataW.weightsEach]
  rw [hw, hy, hu, hw1, hw2] at hz
  obtain ⟨L, nl, cl, l, rfl, a1, a2, a3, a4⟩ := open_sigs_cells g0
  obtain ⟨A, n, c, ks, rfl, hn, hk, hl, hs⟩ := open_rows_cells t0 (fun n hn => hz n (by simp [hn]))
  obtain ⟨S, m, e, sl, rfl, hm, _, hS, hsl⟩ := open_row_cells t1 (fun n hn => hz n (by simp [hn]))
  obtain ⟨t, E, ne, ce, rfl, rfl, rfl, rfl, b1, b2, b3, b4⟩ := open_term_cells s0 s1 s2 s3 (fun n hn => hz n (by simp [hn]))
  exact ⟨L, nl, cl, l, A, n, c, S, m, e, ks, sl, E, ne, ce, i3, i4, t, by rw [e3, e4], a1, a2, a3, a4, hn, hm, hk, hS, hl, hs, hsl, b1, b2, b3, b4⟩
end
end Go.Proofs.Ytgnbempkobgeiaa.Tm
