/-
  In the midst of a call that answers cells.
-/
import Derived.Test.YtodmompfnlcjpaaTrailC
namespace Go.Proofs.Ytodmompfnlcjpaa.Tr
open Go.RowKit Kit

theorem slice_to (A : Option Addr) (n c l : Nat) (i : Int) (hi : i = l) (h : l ≤ c) (u : World) : (Instr.slice 22 (.slice A n c) none (some (.int .i64 i)) none).run Try.prog u = .ok (.slice A l c) u := by
  subst hi
  obtain ⟨i0, hi, hz0, hz1, hz2⟩ := info_parts intInfo
  simp [Instr.slice, run_underlying Try.underlying22, Instr.sliceBounds, Instr.sliceBound, asIntOf, sizeOf, typeInfo, hi, h, Addr.add]
theorem slice_toP (A : Option Addr) (n c l : Nat) (i : Int) (hi : i = l) (h : l ≤ c) (u : World) : (Instr.slice 23 (.slice A n c) none (some (.int .i64 i)) none).run Try.prog u = .ok (.slice A l c) u := by
  subst hi
  obtain ⟨i0, hi, hz0, hz1, hz2⟩ := info_parts noteInfo
  simp [Instr.slice, run_underlying Try.underlying23, Instr.sliceBounds, Instr.sliceBound, asIntOf, sizeOf, typeInfo, hi, h, Addr.add]

theorem Rds.int_some {w : World} {B : Nat} {ad : Addr} {l : List Int} (h : Rds w B (some ad) (cellsI l)) {k : Nat} (hk : k < l.length) : w.cell? (ad.add k) = some (.int .i64 l[k]) := by
  obtain ⟨ad', e, _, hc⟩ := h.int_at hk
  injection e with e
  subst e
  exact hc
/-- in the midst of a call: what came in, the result's cells, and the copy's box -/
structure St (w W : World) (B : Nat) (a b d x y z : Value) : Prop where
  ib : Box3 W w.heap.size a b d
  rb : Box3 W (w.heap.size + 1) (.slice none 0 0) (.slice none 0 0) (.slice none 0 0)
  tb : Box3 W B x y z
  hB : w.heap.size + 1 < B
  q : Q w W
theorem St.grown {w W W' : World} {B g : Nat} {a b d x y z : Value} (h : St w W B a b d x y z) (hg : W.grownBy W' (some g)) (h1 : w.heap.size + 1 < g) (h2 : g ≠ B) : St w W' B a b d x y z :=
  ⟨h.ib.grown hg (by omega), h.rb.grown hg (by omega), h.tb.grown hg h2, h.hB, grown_q hg h.q (by omega)⟩
theorem St.more {w W W' : World} {B : Nat} {a b d x y z : Value} (h : St w W B a b d x y z) (q : Q W W') : St w W' B a b d x y z := ⟨h.ib.q q, h.rb.q q, h.tb.q q, h.hB, h.q.trans q⟩
theorem St.set0 {w W : World} {B : Nat} {a b d x y z : Value} (h : St w W B a b d x y z) (v : Value) : St w (W.setCell ⟨B, 0, none⟩ v) B a b d v y z :=
  ⟨h.ib.far (by have := h.hB; omega) _, h.rb.far (by have := h.hB; omega) _, h.tb.set0 v, h.hB, grown_q (setCell_grown W B 0 v) h.q (by have := h.hB; omega)⟩
theorem St.set1 {w W : World} {B : Nat} {a b d x y z : Value} (h : St w W B a b d x y z) (v : Value) : St w (W.setCell ⟨B, 1, none⟩ v) B a b d x v z :=
  ⟨h.ib.far (by have := h.hB; omega) _, h.rb.far (by have := h.hB; omega) _, h.tb.set1 v, h.hB, grown_q (setCell_grown W B 1 v) h.q (by have := h.hB; omega)⟩
theorem St.set2 {w W : World} {B : Nat} {a b d x y z : Value} (h : St w W B a b d x y z) (v : Value) : St w (W.setCell ⟨B, 2, none⟩ v) B a b d x y v :=
  ⟨h.ib.far (by have := h.hB; omega) _, h.rb.far (by have := h.hB; omega) _, h.tb.set2 v, h.hB, grown_q (setCell_grown W B 2 v) h.q (by have := h.hB; omega)⟩

/-- the three rows of the copy -/
structure Own3 (w W : World) (B : Nat) (c : Cells) (g1 k1 g2 k2 g3 k3 : Nat) : Prop where
  v : W.ownsRow (w.heap.size + 2) 3 1 (.slice (some ⟨g1, 0, none⟩) c.V.length k1) c.V.length (cellsI c.V)
  n : W.ownsRow (w.heap.size + 2) 64 2 (.slice (some ⟨g2, 0, none⟩) c.N.length k2) c.N.length (cellsP c.N)
  m : W.ownsRow (w.heap.size + 2) 3 1 (.slice (some ⟨g3, 0, none⟩) c.M.length k3) c.M.length (cellsI c.M)
  lv : c.V.length ≤ k1
  ln : c.N.length ≤ k2
  lm : c.M.length ≤ k3
  d12 : g1 < g2
  d23 : g2 < g3
  d3B : g3 < B
theorem Own3.lo {w W : World} {B : Nat} {c : Cells} {g1 k1 g2 k2 g3 k3 : Nat} (h : Own3 w W B c g1 k1 g2 k2 g3 k3) : w.heap.size + 1 < g1 := (h.v.lt g1 rfl).1
theorem Own3.far {w W W' : World} {B g : Nat} {c : Cells} {g1 k1 g2 k2 g3 k3 : Nat} (h : Own3 w W B c g1 k1 g2 k2 g3 k3) (hg : W.grownBy W' (some g)) (e1 : g ≠ g1) (e2 : g ≠ g2) (e3 : g ≠ g3) : Own3 w W' B c g1 k1 g2 k2 g3 k3 :=
  ⟨row_far h.v hg e1, row_far h.n hg e2, row_far h.m hg e3, h.lv, h.ln, h.lm, h.d12, h.d23, h.d3B⟩
theorem Own3.more {w W W' : World} {B : Nat} {c : Cells} {g1 k1 g2 k2 g3 k3 : Nat} (h : Own3 w W B c g1 k1 g2 k2 g3 k3) (q : Q W W') : Own3 w W' B c g1 k1 g2 k2 g3 k3 :=
  ⟨row_kept h.v q (Nat.le_refl _), row_kept h.n q (Nat.le_refl _), row_kept h.m q (Nat.le_refl _), h.lv, h.ln, h.lm, h.d12, h.d23, h.d3B⟩
theorem Own3.out {w W : World} {B : Nat} {c : Cells} {g1 k1 g2 k2 g3 k3 : Nat} (h : Own3 w W B c g1 k1 g2 k2 g3 k3) (q : Q w W) : Out w W c g1 k1 g2 k2 g3 k3 := by
  have := h.d12
  have := h.d23
  have := h.lo
  exact ⟨.of_row h.v, .of_row h.n, .of_row h.m, h.lv, h.ln, h.lm, by omega, by omega, by omega, by omega, by omega, by omega, q⟩
/-- behind the copy, in its box -/
theorem st_start {w W0 w1 : World} {c : Cells} {g1 g2 g3 : Nat} {a b d : Value} (q0 : Q w W0) (hz : W0.heap.size = w.heap.size + 2) (hB : Box3 W0 w.heap.size a b d) (hX : Box3 W0 (w.heap.size + 1) (.slice none 0 0) (.slice none 0 0) (.slice none 0 0)) (hC : Cop W0 w1 c g1 g2 g3) (x y z : Value) (t : TypeId) :
    St w (w1.alloc (.cells #[x, y, z] t)) w1.heap.size a b d x y z ∧ Own3 w (w1.alloc (.cells #[x, y, z] t)) w1.heap.size c g1 (c.V.length + 1) g2 (c.N.length + 1) g3 (c.M.length + 1) := by
  have q1 := hC.q.trans ((Q.refl w1).alloc (.cells #[x, y, z] t))
  have hs := hC.q.size
  refine ⟨⟨hB.q q1, hX.q q1, Box3.new w1 x y z t, by omega, q0.trans q1⟩, ⟨row_kept hC.v ((Q.refl w1).alloc _) (by omega), row_kept hC.n ((Q.refl w1).alloc _) (by omega), row_kept hC.m ((Q.refl w1).alloc _) (by omega), Nat.le_succ _, Nat.le_succ _, Nat.le_succ _, hC.d12, hC.d23, (hC.m.lt g3 rfl).2⟩⟩
/-- the answer: what stands in the result's cells -/
theorem out_end {w W : World} {c : Cells} {g1 k1 g2 k2 g3 k3 : Nat} (h : Out w W c g1 k1 g2 k2 g3 k3) (h1 : w.heap.size + 1 < g1) (h2 : w.heap.size + 1 < g2) (h3 : w.heap.size + 1 < g3) (x y z : Value) :
    Out w (((W.setCell ⟨w.heap.size + 1, 0, none⟩ x).setCell ⟨w.heap.size + 1, 1, none⟩ y).setCell ⟨w.heap.size + 1, 2, none⟩ z) c g1 k1 g2 k2 g3 k3 :=
  h.far (set3_grown W (w.heap.size + 1) x y z) (by omega) (by omega) (by omega) (by omega)

theorem src2 (w : World) (v u : Value) (t : TypeId) : ∀ j x, [v, u][j]? = some x → (w.alloc (.cells #[v, u] t)).cell? ((⟨w.heap.size, 0, none⟩ : Addr).add j) = some x := by
  intro j x hx
  rw [add_zero_head, cell_of_row _ _ _ _ _ _ (heap_alloc_new w _)]
  simpa using hx
theorem step_append_fits {P : Program} {w : World} {ops : Array Oper} {o : Oper} {a : Act} {K : Act → World → Prop} {R : Exit → Act → World → Prop} {E : Prop} (hgd : o.guard = none) (s x : Operand) (t : TypeId)
    (ho : o.op = .call { callee := .builtin .append, args := #[s, x], argTypes := #[t, t] })
    (base : Nat) (e : TypeId) (i : TypeInfo) (size : Nat) (ht : P.underlying t = some (.slice e)) (hi : P.info? e = some i) (hsize : i.size = size)
    (g n cap : Nat) (xs : List Value) (hs : a.eval s = .slice (some ⟨g, 0, none⟩) n cap) (hown : w.ownsRow base e size (.slice (some ⟨g, 0, none⟩) n cap) n xs)
    (ad : Addr) (m c : Nat) (news : List Value) (hx : a.eval x = .slice (some ad) m c) (hl : news.length = m * size) (hnews : ∀ j u, news[j]? = some u → w.cell? (ad.add j) = some u) (h1 : ∀ u ∈ news, u.oneCell' = true)
    (hroom : n + m ≤ cap)
    (h : ∀ w', w'.ownsRow base e size (.slice (some ⟨g, 0, none⟩) (n + m) cap) (n + m) (xs ++ news) → w.grownBy w' (some g) → K (a.put o.dst (.slice (some ⟨g, 0, none⟩) (n + m) cap)) w') :
    if Region.wanted o (yielded ops a.tmps) = true then Oper.wp P o a w K R else E := by
  have hw : Region.wanted o (yielded ops a.tmps) = true := by simp [Region.wanted, hgd]
  rw [if_pos hw]
  obtain ⟨w', hrun, h2, h3⟩ := run_append_fits (P := P) w base t o.type e i size ht hi hsize g n cap xs hown ad m c news hl hnews h1 hroom
  unfold Oper.wp execOp
  simp only [ho, resolve, invoke, builtin, Sem.run_bind, Sem.run_pure, Result.andThen_ok, List.map_toArray, List.map_cons, List.map_nil, hs, hx, hrun]
  exact h w' h2 h3
end Go.Proofs.Ytodmompfnlcjpaa.Tr
