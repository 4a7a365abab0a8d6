/-
  Arguments of the laws, opened; what an addition does to rows of first ones and of classes.
-/
import Derived.Test.YtodmompfnlcjpaaUfI
import Derived.Test.YtodmompfnlcjpaaTrailO
import Derived.Deep.Slices
import Derived.Deep.Fields
import Derived.ChangeSame
namespace Go.Proofs.Ytodmompfnlcjpaa.Uf
open Go.ChangeShapes Go.WideShapes Go.RowKit Kit Go.Deep Go.Joins Tr

theorem class_new {R V : List Int} (h : Cl R V) : classL (V ++ [(V.length : Int)]) V.length = [(V.length : Int)] := by
  have hl : (V ++ [(V.length : Int)]).length = V.length + 1 := by simp
  unfold classL
  rw [hl, those_yes (by simp)]
  have : those V.length (fun m => fst (V ++ [(V.length : Int)]) m == fst (V ++ [(V.length : Int)]) V.length) = [] := by
    rw [those_congr (q := fun _ => false) fun n hn => by
      rw [h.fst_add n hn, h.fst_new]
      have := (h.fst_in n hn).1
      exact beq_eq_false_iff_ne.2 (by omega)]
    unfold those
    simp
  rw [this]; rfl
theorem class_add {R V : List Int} (h : Cl R V) {a : Nat} (ha : a < V.length) : classL (V ++ [(V.length : Int)]) a = classL V a := by
  have hl : (V ++ [(V.length : Int)]).length = V.length + 1 := by simp
  unfold classL
  rw [hl, those_no (by
    rw [h.fst_add a ha, h.fst_new]
    have := (h.fst_in a ha).1
    exact beq_eq_false_iff_ne.2 (by omega))]
  exact those_congr fun n hn => by rw [h.fst_add n hn, h.fst_add a ha]
theorem firsts_add {R V : List Int} (_h : Cl R V) : (firstsL (V ++ [(V.length : Int)])).length = (firstsL V).length + 1 := by
  have hl : (V ++ [(V.length : Int)]).length = V.length + 1 := by simp
  unfold firstsL
  rw [hl, those_yes (by rw [par_new]; simp), those_congr (q := fun m => par V m == m) fun n hn => by rw [par_add hn]]
  simp
theorem OutPost.o {c : Cells} {w w' : World} {e : Ending} (h : OutPost c w e w') : OPost c w e w' := by
  obtain ⟨g1, k1, g2, k2, g3, k3, rfl, hO⟩ := h
  exact ⟨_, k1, _, k2, _, k3, rfl, OutO.of hO⟩
def OPostE (c : Cells) (er : Int) (w : World) (e : Ending) (w' : World) : Prop :=
  ∃ A k1 D k2 E k3, e = .returned (.tuple #[.agg #[.slice A c.V.length k1, .slice D c.N.length k2, .slice E c.M.length k3], .int .i64 er]) ∧ OutO w w' c A k1 D k2 E k3
theorem OutPostE.o {c : Cells} {er : Int} {w w' : World} {e : Ending} (h : OutPostE c er w e w') : OPostE c er w e w' := by
  obtain ⟨g1, k1, g2, k2, g3, k3, rfl, hO⟩ := h
  exact ⟨_, k1, _, k2, _, k3, rfl, OutO.of hO⟩
section
variable {H : Type} {enc : TypeId × Value → H} {W : World} {base : Nat}
theorem open_ranks {v : Value} {d : DataW H} {p : List MemPlace} (hv : Value.okWide Try.prog W .any base 22 v) (h : DataW.Trod enc Try.prog W 0 (fun _ => true) true 22 v d p) (hz : ∀ n ∈ d.weights Try.prog 22, n ≤ reachBytes) :
    ∃ A n c l, v = .slice A n c ∧ n = l.length ∧ Rds W W.heap.size A (cellsI l) := by
  obtain ⟨a, len, cap, rfl⟩ := okWide_slice Try.underlying22 hv
  obtain ⟨fuel, hf⟩ := h
  have hf' : DataW.trod enc Try.prog W 0 (fun _ => true) true fuel 22 [.slice a len cap] = some (d, p) := by simpa [Value.cells] using hf
  obtain ⟨A, n, c, l, e, hn, _, hr, _⟩ := open_ints_cells hf' hz
  exact ⟨A, n, c, l, e, hn, hr⟩
end
/-! BEGIN gen_open -/
section
variable {H : Type} {enc : TypeId × Value → H} {P : Program} {w : World} {base : Nat} {spare : Nat → Bool} {held : Bool}
theorem open_nest6 {r : Reach} {b0 : Nat} {t : TypeId} {f0 f1 f2 f3 : Field} {v : Value} {d : DataW H} {p : List MemPlace} (hs : P.underlying t = some (.struct #[f0, f1, f2, f3])) (hC : P.cellsOf t = 6)
    (o0 : f0.offset = 0) (k0 : P.cellsOf f0.type = 3) (o1 : f1.offset = 3) (k1 : P.cellsOf f1.type = 1) (o2 : f2.offset = 4) (k2 : P.cellsOf f2.type = 1) (o3 : f3.offset = 5) (k3 : P.cellsOf f3.type = 1)
    (hv : Value.okWide P w r b0 t v) (h : DataW.Trod enc P w base spare held t v d p) :
    ∃ (c0 c1 c2 c3 c4 c5 : Value) (y0 y1 y2 y3 : DataW H × List MemPlace) (n : Nat), v = .agg #[c0, c1, c2, c3, c4, c5] ∧ d = .agg [y0.1, y1.1, y2.1, y3.1] ∧ DataW.trod enc P w base spare held n f0.type [c0, c1, c2] = some y0 ∧ DataW.trod enc P w base spare held n f1.type [c3] = some y1 ∧ DataW.trod enc P w base spare held n f2.type [c4] = some y2 ∧ DataW.trod enc P w base spare held n f3.type [c5] = some y3 := by
  obtain ⟨cs, rfl, hsz⟩ := okWide_struct hs hv
  obtain ⟨l⟩ := cs
  match l, hsz.trans hC with
  | [c0, c1, c2, c3, c4, c5], _ =>
    obtain ⟨fuel, hf⟩ := h
    obtain ⟨xs, n, _, hx, _, hlen, hg⟩ := DataW.trod_struct hs hf
    match xs, hlen with
    | [y0, y1, y2, y3], _ =>
      simp only [Prod.mk.injEq] at hx
      exact ⟨c0, c1, c2, c3, c4, c5, y0, y1, y2, y3, n, rfl, by simpa using hx.1, by simpa [Value.cells, o0, k0] using hg 0 f0 rfl, by simpa [Value.cells, o1, k1] using hg 1 f1 rfl, by simpa [Value.cells, o2, k2] using hg 2 f2 rfl, by simpa [Value.cells, o3, k3] using hg 3 f3 rfl⟩
theorem open_nest7 {r : Reach} {b0 : Nat} {t : TypeId} {f0 f1 f2 f3 f4 : Field} {v : Value} {d : DataW H} {p : List MemPlace} (hs : P.underlying t = some (.struct #[f0, f1, f2, f3, f4])) (hC : P.cellsOf t = 7)
    (o0 : f0.offset = 0) (k0 : P.cellsOf f0.type = 3) (o1 : f1.offset = 3) (k1 : P.cellsOf f1.type = 1) (o2 : f2.offset = 4) (k2 : P.cellsOf f2.type = 1) (o3 : f3.offset = 5) (k3 : P.cellsOf f3.type = 1) (o4 : f4.offset = 6) (k4 : P.cellsOf f4.type = 1)
    (hv : Value.okWide P w r b0 t v) (h : DataW.Trod enc P w base spare held t v d p) :
    ∃ (c0 c1 c2 c3 c4 c5 c6 : Value) (y0 y1 y2 y3 y4 : DataW H × List MemPlace) (n : Nat), v = .agg #[c0, c1, c2, c3, c4, c5, c6] ∧ d = .agg [y0.1, y1.1, y2.1, y3.1, y4.1] ∧ DataW.trod enc P w base spare held n f0.type [c0, c1, c2] = some y0 ∧ DataW.trod enc P w base spare held n f1.type [c3] = some y1 ∧ DataW.trod enc P w base spare held n f2.type [c4] = some y2 ∧ DataW.trod enc P w base spare held n f3.type [c5] = some y3 ∧ DataW.trod enc P w base spare held n f4.type [c6] = some y4 := by
  obtain ⟨cs, rfl, hsz⟩ := okWide_struct hs hv
  obtain ⟨l⟩ := cs
  match l, hsz.trans hC with
  | [c0, c1, c2, c3, c4, c5, c6], _ =>
    obtain ⟨fuel, hf⟩ := h
    obtain ⟨xs, n, _, hx, _, hlen, hg⟩ := DataW.trod_struct hs hf
    match xs, hlen with
    | [y0, y1, y2, y3, y4], _ =>
      simp only [Prod.mk.injEq] at hx
      exact ⟨c0, c1, c2, c3, c4, c5, c6, y0, y1, y2, y3, y4, n, rfl, by simpa using hx.1, by simpa [Value.cells, o0, k0] using hg 0 f0 rfl, by simpa [Value.cells, o1, k1] using hg 1 f1 rfl, by simpa [Value.cells, o2, k2] using hg 2 f2 rfl, by simpa [Value.cells, o3, k3] using hg 3 f3 rfl, by simpa [Value.cells, o4, k4] using hg 4 f4 rfl⟩
theorem open_three3 {t : TypeId} {f0 f1 f2 : Field} {fuel : Nat} {c0 c1 c2 : Value} {x : DataW H × List MemPlace} (hs : P.underlying t = some (.struct #[f0, f1, f2]))
    (o0 : f0.offset = 0) (k0 : P.cellsOf f0.type = 1) (o1 : f1.offset = 1) (k1 : P.cellsOf f1.type = 1) (o2 : f2.offset = 2) (k2 : P.cellsOf f2.type = 1) (h : DataW.trod enc P w base spare held fuel t [c0, c1, c2] = some x) :
    ∃ (y0 y1 y2 : DataW H × List MemPlace) (n : Nat), x.1 = .agg [y0.1, y1.1, y2.1] ∧
      DataW.trod enc P w base spare held n f0.type [c0] = some y0 ∧ DataW.trod enc P w base spare held n f1.type [c1] = some y1 ∧ DataW.trod enc P w base spare held n f2.type [c2] = some y2 := by
  obtain ⟨xs, n, _, hx, _, hlen, hg⟩ := DataW.trod_struct hs h
  match xs, hlen with
  | [y0, y1, y2], _ =>
    exact ⟨y0, y1, y2, n, by rw [hx]; rfl, by simpa [o0, k0] using hg 0 f0 rfl, by simpa [o1, k1] using hg 1 f1 rfl, by simpa [o2, k2] using hg 2 f2 rfl⟩
end
set_option maxRecDepth 100000 in
theorem open_back {H : Type} {enc : TypeId × Value → H} {W : World} {base : Nat} {v : Value} {d : DataW H} {p : List MemPlace} (hv : Value.okWide Try.prog W .any base 39 v) (h : DataW.Trod enc Try.prog W 0 (fun _ => true) true 39 v d p) (hz : ∀ n ∈ d.weights Try.prog 39, n ≤ reachBytes) :
    ∃ c A n1 k1 D n2 k2 E n3 k3 F n4 k4 R x0 x1, v = .agg #[.slice A n1 k1, .slice D n2 k2, .slice E n3 k3, .slice F n4 k4, .int .i64 x0, .int .i64 x1] ∧ n1 = c.V.length ∧ n2 = c.N.length ∧ n3 = c.M.length ∧ n4 = R.length ∧ Rd W c A k1 D k2 E k3 ∧ Rds W W.heap.size F (cellsI R) ∧ Few c 1152921504606846976 := by
  obtain ⟨c0, c1, c2, c3, c4, c5, y0, y1, y2, y3, n, rfl, rfl, g0, g1, g2, g3⟩ := open_nest6 Try.underlying39 (by kernel_rfl) rfl (by kernel_rfl) rfl (by kernel_rfl) rfl (by kernel_rfl) rfl (by kernel_rfl) hv h
  obtain ⟨z0, z1, z2, m, hy, t0, t1, t2⟩ := open_three3 Try.underlying25 rfl (by kernel_rfl) rfl (by kernel_rfl) rfl (by kernel_rfl) g0
  obtain ⟨x0, e0, _, _⟩ := DataW.trod_int Try.underlying3 g2
  obtain ⟨x1, e1, _, _⟩ := DataW.trod_int Try.underlying3 g3
  simp only [List.cons.injEq, and_true] at e0 e1
  have hw : DataW.weights Try.prog 39 (.agg [y0.1, y1.1, y2.1, y3.1]) = y0.1.weights Try.prog 25 ++ (y1.1.weights Try.prog 22 ++ (y2.1.weights Try.prog 3 ++ (y3.1.weights Try.prog 3 ++ ([])))) := by
    simp [DataW.weights, Try.underlying39, DataW.weightsEach]
  rw [hw] at hz
  obtain ⟨c, A, n1, k1, D, n2, k2, E, n3, k3, rfl, rfl, rfl, h1, h2, h3, r, f⟩ := open_cells3 t0 t1 t2 (fun n hn => hz n (List.mem_append_left _ (by rw [hy]; exact hn)))
  obtain ⟨F, n4, k4, R, rfl, h4, _, hr, _⟩ := open_ints_cells g1 (fun n hn => hz n (List.mem_append_right _ (List.mem_append_left _ hn)))
  exact ⟨c, A, n1, k1, D, n2, k2, E, n3, k3, F, n4, k4, R, x0, x1, by rw [e0, e1], h1, h2, h3, h4, r, hr, f⟩
set_option maxRecDepth 100000 in
theorem open_joins {H : Type} {enc : TypeId × Value → H} {W : World} {base : Nat} {v : Value} {d : DataW H} {p : List MemPlace} (hv : Value.okWide Try.prog W .any base 27 v) (h : DataW.Trod enc Try.prog W 0 (fun _ => true) true 27 v d p) (hz : ∀ n ∈ d.weights Try.prog 27, n ≤ reachBytes) :
    ∃ c A n1 k1 D n2 k2 E n3 k3 F n4 k4 R x0 x1 x2, v = .agg #[.slice A n1 k1, .slice D n2 k2, .slice E n3 k3, .slice F n4 k4, .int .i64 x0, .int .i64 x1, .int .i64 x2] ∧ n1 = c.V.length ∧ n2 = c.N.length ∧ n3 = c.M.length ∧ n4 = R.length ∧ Rd W c A k1 D k2 E k3 ∧ Rds W W.heap.size F (cellsI R) ∧ Few c 1152921504606846976 := by
  obtain ⟨c0, c1, c2, c3, c4, c5, c6, y0, y1, y2, y3, y4, n, rfl, rfl, g0, g1, g2, g3, g4⟩ := open_nest7 Try.underlying27 (by kernel_rfl) rfl (by kernel_rfl) rfl (by kernel_rfl) rfl (by kernel_rfl) rfl (by kernel_rfl) rfl (by kernel_rfl) hv h
  obtain ⟨z0, z1, z2, m, hy, t0, t1, t2⟩ := open_three3 Try.underlying25 rfl (by kernel_rfl) rfl (by kernel_rfl) rfl (by kernel_rfl) g0
  obtain ⟨x0, e0, _, _⟩ := DataW.trod_int Try.underlying3 g2
  obtain ⟨x1, e1, _, _⟩ := DataW.trod_int Try.underlying3 g3
  obtain ⟨x2, e2, _, _⟩ := DataW.trod_int Try.underlying3 g4
  simp only [List.cons.injEq, and_true] at e0 e1 e2
  have hw : DataW.weights Try.prog 27 (.agg [y0.1, y1.1, y2.1, y3.1, y4.1]) = y0.1.weights Try.prog 25 ++ (y1.1.weights Try.prog 22 ++ (y2.1.weights Try.prog 3 ++ (y3.1.weights Try.prog 3 ++ (y4.1.weights Try.prog 3 ++ ([]))))) := by
    simp [DataW.weights, Try.underlying27, DataW.weightsEach]
  rw [hw] at hz
  obtain ⟨c, A, n1, k1, D, n2, k2, E, n3, k3, rfl, rfl, rfl, h1, h2, h3, r, f⟩ := open_cells3 t0 t1 t2 (fun n hn => hz n (List.mem_append_left _ (by rw [hy]; exact hn)))
  obtain ⟨F, n4, k4, R, rfl, h4, _, hr, _⟩ := open_ints_cells g1 (fun n hn => hz n (List.mem_append_right _ (List.mem_append_left _ hn)))
  exact ⟨c, A, n1, k1, D, n2, k2, E, n3, k3, F, n4, k4, R, x0, x1, x2, by rw [e0, e1, e2], h1, h2, h3, h4, r, hr, f⟩
set_option maxRecDepth 100000 in
theorem open_threeIn {H : Type} {enc : TypeId × Value → H} {W : World} {base : Nat} {v : Value} {d : DataW H} {p : List MemPlace} (hv : Value.okWide Try.prog W .any base 46 v) (h : DataW.Trod enc Try.prog W 0 (fun _ => true) true 46 v d p) (hz : ∀ n ∈ d.weights Try.prog 46, n ≤ reachBytes) :
    ∃ c A n1 k1 D n2 k2 E n3 k3 F n4 k4 R x0 x1 x2, v = .agg #[.slice A n1 k1, .slice D n2 k2, .slice E n3 k3, .slice F n4 k4, .int .i64 x0, .int .i64 x1, .int .i64 x2] ∧ n1 = c.V.length ∧ n2 = c.N.length ∧ n3 = c.M.length ∧ n4 = R.length ∧ Rd W c A k1 D k2 E k3 ∧ Rds W W.heap.size F (cellsI R) ∧ Few c 1152921504606846976 := by
  obtain ⟨c0, c1, c2, c3, c4, c5, c6, y0, y1, y2, y3, y4, n, rfl, rfl, g0, g1, g2, g3, g4⟩ := open_nest7 Try.underlying46 (by kernel_rfl) rfl (by kernel_rfl) rfl (by kernel_rfl) rfl (by kernel_rfl) rfl (by kernel_rfl) rfl (by kernel_rfl) hv h
  obtain ⟨z0, z1, z2, m, hy, t0, t1, t2⟩ := open_three3 Try.underlying25 rfl (by kernel_rfl) rfl (by kernel_rfl) rfl (by kernel_rfl) g0
  obtain ⟨x0, e0, _, _⟩ := DataW.trod_int Try.underlying3 g2
  obtain ⟨x1, e1, _, _⟩ := DataW.trod_int Try.underlying3 g3
  obtain ⟨x2, e2, _, _⟩ := DataW.trod_int Try.underlying3 g4
  simp only [List.cons.injEq, and_true] at e0 e1 e2
  have hw : DataW.weights Try.prog 46 (.agg [y0.1, y1.1, y2.1, y3.1, y4.1]) = y0.1.weights Try.prog 25 ++ (y1.1.weights Try.prog 22 ++ (y2.1.weights Try.prog 3 ++ (y3.1.weights Try.prog 3 ++ (y4.1.weights Try.prog 3 ++ ([]))))) := by
    simp [DataW.weights, Try.underlying46, DataW.weightsEach]
  rw [hw] at hz
  obtain ⟨c, A, n1, k1, D, n2, k2, E, n3, k3, rfl, rfl, rfl, h1, h2, h3, r, f⟩ := open_cells3 t0 t1 t2 (fun n hn => hz n (List.mem_append_left _ (by rw [hy]; exact hn)))
  obtain ⟨F, n4, k4, R, rfl, h4, _, hr, _⟩ := open_ints_cells g1 (fun n hn => hz n (List.mem_append_right _ (List.mem_append_left _ hn)))
  exact ⟨c, A, n1, k1, D, n2, k2, E, n3, k3, F, n4, k4, R, x0, x1, x2, by rw [e0, e1, e2], h1, h2, h3, h4, r, hr, f⟩
end Go.Proofs.Ytodmompfnlcjpaa.Uf
