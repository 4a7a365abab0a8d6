/-
  What the proofs lean on, part 5 of 20.
-/
import Derived.Test.YtnifmfdlocgefaaGreatPb
import Derived.Test.YtnifmfdlocgefaaGreatPc
import Derived.Test.YtnifmfdlocgefaaGreatPd
import Derived.Deep.RegionHeld3
import Derived.Deep.SlicePairs
import Derived.Deep.Matrix
import Derived.Lib.SmallJoins
import Derived.SizedLaws
import Derived.Laws.EntriesVeiled
namespace Go.Proofs.YtnifmfdlocgefaaGreat.Tr
open Go.RowKit Kit

theorem Rds.int_some {w : World} {B : Nat} {ad : Addr} {l : List Int} (h : Rds w B (some ad) (cellsI l)) {k : Nat} (hk : k < l.length) : w.cell? (ad.add k) = some (.int .i64 l[k]) := by
  obtain ⟨ad', e, _, hc⟩ := h.int_at hk
  injection e with e
  subst e
  exact hc
/-- in the midst of a call: what came in, the result's cells, and the copy's box -/
structure St (w W : World) (B : Nat) (a b d x y z : Value) : Prop where
  ib : Box3 W w.heap.size a b d
  rb : Box3 W (w.heap.size + 1) (.slice none 0 0) (.slice none 0 0) (.slice none 0 0)
  tb : Box3 W B x y z
  hB : w.heap.size + 1 < B
  q : Q w W
theorem St.grown {w W W' : World} {B g : Nat} {a b d x y z : Value} (h : St w W B a b d x y z) (hg : W.grownBy W' (some g)) (h1 : w.heap.size + 1 < g) (h2 : g ≠ B) : St w W' B a b d x y z :=
  ⟨h.ib.grown hg (by omega), h.rb.grown hg (by omega), h.tb.grown hg h2, h.hB, grown_q hg h.q (by omega)⟩
theorem St.more {w W W' : World} {B : Nat} {a b d x y z : Value} (h : St w W B a b d x y z) (q : Q W W') : St w W' B a b d x y z := ⟨h.ib.q q, h.rb.q q, h.tb.q q, h.hB, h.q.trans q⟩
theorem St.set0 {w W : World} {B : Nat} {a b d x y z : Value} (h : St w W B a b d x y z) (v : Value) : St w (W.setCell ⟨B, 0, none⟩ v) B a b d v y z :=
  ⟨h.ib.far (by have := h.hB; omega) _, h.rb.far (by have := h.hB; omega) _, h.tb.set0 v, h.hB, grown_q (setCell_grown W B 0 v) h.q (by have := h.hB; omega)⟩
theorem St.set1 {w W : World} {B : Nat} {a b d x y z : Value} (h : St w W B a b d x y z) (v : Value) : St w (W.setCell ⟨B, 1, none⟩ v) B a b d x v z :=
  ⟨h.ib.far (by have := h.hB; omega) _, h.rb.far (by have := h.hB; omega) _, h.tb.set1 v, h.hB, grown_q (setCell_grown W B 1 v) h.q (by have := h.hB; omega)⟩
theorem St.set2 {w W : World} {B : Nat} {a b d x y z : Value} (h : St w W B a b d x y z) (v : Value) : St w (W.setCell ⟨B, 2, none⟩ v) B a b d x y v :=
  ⟨h.ib.far (by have := h.hB; omega) _, h.rb.far (by have := h.hB; omega) _, h.tb.set2 v, h.hB, grown_q (setCell_grown W B 2 v) h.q (by have := h.hB; omega)⟩

/-- the three rows of the copy -/
structure Own3 (w W : World) (B : Nat) (c : Cells) (g1 k1 g2 k2 g3 k3 : Nat) : Prop where
  v : W.ownsRow (w.heap.size + 2) 3 1 (.slice (some ⟨g1, 0, none⟩) c.V.length k1) c.V.length (cellsI c.V)
  n : W.ownsRow (w.heap.size + 2) 195 2 (.slice (some ⟨g2, 0, none⟩) c.N.length k2) c.N.length (cellsP c.N)
  m : W.ownsRow (w.heap.size + 2) 3 1 (.slice (some ⟨g3, 0, none⟩) c.M.length k3) c.M.length (cellsI c.M)
  lv : c.V.length ≤ k1
  ln : c.N.length ≤ k2
  lm : c.M.length ≤ k3
  d12 : g1 < g2
  d23 : g2 < g3
  d3B : g3 < B
theorem Own3.lo {w W : World} {B : Nat} {c : Cells} {g1 k1 g2 k2 g3 k3 : Nat} (h : Own3 w W B c g1 k1 g2 k2 g3 k3) : w.heap.size + 1 < g1 := (h.v.lt g1 rfl).1
theorem Own3.far {w W W' : World} {B g : Nat} {c : Cells} {g1 k1 g2 k2 g3 k3 : Nat} (h : Own3 w W B c g1 k1 g2 k2 g3 k3) (hg : W.grownBy W' (some g)) (e1 : g ≠ g1) (e2 : g ≠ g2) (e3 : g ≠ g3) : Own3 w W' B c g1 k1 g2 k2 g3 k3 :=
  ⟨row_far h.v hg e1, row_far h.n hg e2, row_far h.m hg e3, h.lv, h.ln, h.lm, h.d12, h.d23, h.d3B⟩
theorem Own3.more {w W W' : World} {B : Nat} {c : Cells} {g1 k1 g2 k2 g3 k3 : Nat} (h : Own3 w W B c g1 k1 g2 k2 g3 k3) (q : Q W W') : Own3 w W' B c g1 k1 g2 k2 g3 k3 :=
  ⟨row_kept h.v q (Nat.le_refl _), row_kept h.n q (Nat.le_refl _), row_kept h.m q (Nat.le_refl _), h.lv, h.ln, h.lm, h.d12, h.d23, h.d3B⟩
theorem Own3.out {w W : World} {B : Nat} {c : Cells} {g1 k1 g2 k2 g3 k3 : Nat} (h : Own3 w W B c g1 k1 g2 k2 g3 k3) (q : Q w W) : Out w W c g1 k1 g2 k2 g3 k3 := by
  have := h.d12
  have := h.d23
  have := h.lo
  exact ⟨.of_row h.v, .of_row h.n, .of_row h.m, h.lv, h.ln, h.lm, by omega, by omega, by omega, by omega, by omega, by omega, q⟩
/-- behind the copy, in its box -/
theorem st_start {w W0 w1 : World} {c : Cells} {g1 g2 g3 : Nat} {a b d : Value} (q0 : Q w W0) (hz : W0.heap.size = w.heap.size + 2) (hB : Box3 W0 w.heap.size a b d) (hX : Box3 W0 (w.heap.size + 1) (.slice none 0 0) (.slice none 0 0) (.slice none 0 0)) (hC : Cop W0 w1 c g1 g2 g3) (x y z : Value) (t : TypeId) :
    St w (w1.alloc (.cells #[x, y, z] t)) w1.heap.size a b d x y z ∧ Own3 w (w1.alloc (.cells #[x, y, z] t)) w1.heap.size c g1 (c.V.length + 1) g2 (c.N.length + 1) g3 (c.M.length + 1) := by
  have q1 := hC.q.trans ((Q.refl w1).alloc (.cells #[x, y, z] t))
  have hs := hC.q.size
  refine ⟨⟨hB.q q1, hX.q q1, Box3.new w1 x y z t, by omega, q0.trans q1⟩, ⟨row_kept hC.v ((Q.refl w1).alloc _) (by omega), row_kept hC.n ((Q.refl w1).alloc _) (by omega), row_kept hC.m ((Q.refl w1).alloc _) (by omega), Nat.le_succ _, Nat.le_succ _, Nat.le_succ _, hC.d12, hC.d23, (hC.m.lt g3 rfl).2⟩⟩
/-- the answer: what stands in the result's cells -/
theorem out_end {w W : World} {c : Cells} {g1 k1 g2 k2 g3 k3 : Nat} (h : Out w W c g1 k1 g2 k2 g3 k3) (h1 : w.heap.size + 1 < g1) (h2 : w.heap.size + 1 < g2) (h3 : w.heap.size + 1 < g3) (x y z : Value) :
    Out w (((W.setCell ⟨w.heap.size + 1, 0, none⟩ x).setCell ⟨w.heap.size + 1, 1, none⟩ y).setCell ⟨w.heap.size + 1, 2, none⟩ z) c g1 k1 g2 k2 g3 k3 :=
  h.far (set3_grown W (w.heap.size + 1) x y z) (by omega) (by omega) (by omega) (by omega)

theorem src2 (w : World) (v u : Value) (t : TypeId) : ∀ j x, [v, u][j]? = some x → (w.alloc (.cells #[v, u] t)).cell? ((⟨w.heap.size, 0, none⟩ : Addr).add j) = some x := by
  intro j x hx
  rw [add_zero_head, cell_of_row _ _ _ _ _ _ (heap_alloc_new w _)]
  simpa using hx
theorem step_append_fits {P : Program} {w : World} {ops : Array Oper} {o : Oper} {a : Act} {K : Act → World → Prop} {R : Exit → Act → World → Prop} {E : Prop} (hgd : o.guard = none) (s x : Operand) (t : TypeId)
    (ho : o.op = .call { callee := .builtin .append, args := #[s, x], argTypes := #[t, t] })
    (base : Nat) (e : TypeId) (i : TypeInfo) (size : Nat) (ht : P.underlying t = some (.slice e)) (hi : P.info? e = some i) (hsize : i.size = size)
    (g n cap : Nat) (xs : List Value) (hs : a.eval s = .slice (some ⟨g, 0, none⟩) n cap) (hown : w.ownsRow base e size (.slice (some ⟨g, 0, none⟩) n cap) n xs)
    (ad : Addr) (m c : Nat) (news : List Value) (hx : a.eval x = .slice (some ad) m c) (hl : news.length = m * size) (hnews : ∀ j u, news[j]? = some u → w.cell? (ad.add j) = some u) (h1 : ∀ u ∈ news, u.oneCell' = true)
    (hroom : n + m ≤ cap)
    (h : ∀ w', w'.ownsRow base e size (.slice (some ⟨g, 0, none⟩) (n + m) cap) (n + m) (xs ++ news) → w.grownBy w' (some g) → K (a.put o.dst (.slice (some ⟨g, 0, none⟩) (n + m) cap)) w') :
    if Region.wanted o (yielded ops a.tmps) = true then Oper.wp P o a w K R else E := by
  have hw : Region.wanted o (yielded ops a.tmps) = true := by simp [Region.wanted, hgd]
  rw [if_pos hw]
  obtain ⟨w', hrun, h2, h3⟩ := run_append_fits (P := P) w base t o.type e i size ht hi hsize g n cap xs hown ad m c news hl hnews h1 hroom
  unfold Oper.wp execOp
  simp only [ho, resolve, invoke, builtin, Sem.run_bind, Sem.run_pure, Result.andThen_ok, List.map_toArray, List.map_cons, List.map_nil, hs, hx, hrun]
  exact h w' h2 h3
end Go.Proofs.YtnifmfdlocgefaaGreat.Tr

namespace Go.Proofs.YtnifmfdlocgefaaGreat.Tr
open Go.RowKit Kit

def setC (c : Cells) (at_ : Nat) (x : Int) : Cells := ⟨c.V.set at_ x, c.N ++ [((at_ : Int), c.V.getD at_ 0)], c.M⟩

set_option maxRecDepth 100000 in
set_option maxHeartbeats 2000000 in
theorem set_some (c : Cells) (a : Nat) (x : Int) (A D E : Option Addr) (n1 k1 n2 k2 n3 k3 : Nat) (w : World) (h1 : n1 = c.V.length) (h2 : n2 = c.N.length) (h3 : n3 = c.M.length) (h : Rd w c A k1 D k2 E k3) (hf : Few c 1000000) (ha : a < c.V.length) :
    Calls Tryz.prog 190 #[.agg #[.slice A n1 k1, .slice D n2 k2, .slice E n3 k3], .int .i64 (a : Int), .int .i64 x] w (OutPostE (setC c a x) 0 w) := by
  subst h1 h2 h3
  obtain ⟨W0, hW0, q0, hz0, hB, hX⟩ := boxes w (Value.slice A c.V.length k1) (Value.slice D c.N.length k2) (Value.slice E c.M.length k3) 29
  have HB := Lib.hid hB
  have HX := Lib.hid hX
  have HR := Lib.hid (h.q q0)
  have HZ := Lib.hid hz0
  have HW := Lib.hid hW0
  have Hf := Lib.hid hf
  obtain ⟨fv, fn, fm⟩ := hf
  obtain ⟨j0, hi, hz0', hz1, hz2⟩ := info_parts intInfo
  have Hi := Lib.hid hi
  have Hz1 := Lib.hid hz1
  clear hi hz0' hz1 hz2
  obtain ⟨j1, hi, hz0', hz1, hz2⟩ := info_parts noteInfo
  have Hi2 := Lib.hid hi
  have Hz2 := Lib.hid hz1
  clear hi hz0' hz1 hz2
  have hd : Hid ((decide (0 ≤ (a : Int)) && decide ((a : Int) < (c.V.length : Int))) = true) := by
    unfold Hid
    rw [decide_eq_true (show (0 : Int) ≤ (a : Int) by omega), decide_eq_true (show (a : Int) < (c.V.length : Int) by omega)]; rfl
  have Hga : Hid (c.V.getD a 0 = c.V[a]) := by unfold Hid; simp [ha]
  obtain ⟨ad, rfl, _, _⟩ := h.v.int_at ha
  clear h hB hX hz0 hW0
  go_enter Tryz.func190, Tryz.ntmps190
  go_upto_region 1 with fail
  rw [← HW.out]
  have c0 := HB.out.c0
  have c1 := HB.out.c1
  have c2 := HB.out.c2
  clear HW
  go_upto_region 2 with (go_at_call 264; refine (copyOf_any c _ _ _ _ _ _ _ _ _ _ rfl rfl rfl HR.out Hf.out).mono ?_; rintro e w1 ⟨g1, g2, g3, rfl, hC⟩; have HC := Lib.hid hC; clear hC)
  clear c0 c1 c2
  obtain ⟨hS, hO⟩ := st_start q0 HZ.out HB.out HX.out HC.out (.slice (some ⟨g1, 0, none⟩) c.V.length (c.V.length + 1)) (.slice (some ⟨g2, 0, none⟩) c.N.length (c.N.length + 1)) (.slice (some ⟨g3, 0, none⟩) c.M.length (c.M.length + 1)) 29
  have HRr := Lib.hid (((HR.out.q HC.out.q).q ((Q.refl w1).alloc (.cells #[(.slice (some ⟨g1, 0, none⟩) c.V.length (c.V.length + 1)), (.slice (some ⟨g2, 0, none⟩) c.N.length (c.N.length + 1)), (.slice (some ⟨g3, 0, none⟩) c.M.length (c.M.length + 1))] 29))))
  generalize w1.alloc (.cells #[(.slice (some ⟨g1, 0, none⟩) c.V.length (c.V.length + 1)), (.slice (some ⟨g2, 0, none⟩) c.N.length (c.N.length + 1)), (.slice (some ⟨g3, 0, none⟩) c.M.length (c.M.length + 1))] 29) = W1 at *
  generalize w1.heap.size = B at *
  have HO := Lib.hid hO
  have HS := Lib.hid hS
  have i0 := hS.ib.c0
  have i1 := hS.ib.c1
  have i2 := hS.ib.c2
  clear hO hS
  have t0 := HS.out.tb.c0
  have tf0 := HS.out.tb.f0
  have t1 := HS.out.tb.c1
  have tf1 := HS.out.tb.f1
  have t2 := HS.out.tb.c2
  have tf2 := HS.out.tb.f2
  have l1 := HO.out.lo
  have l2 := HO.out.d12
  have l3 := HO.out.d23
  have l4 := HO.out.d3B
  have ca := HRr.out.v.int_some ha
  go_wp2_with (refine (place_any _ _ _).mono ?_; rintro e w2 ⟨rfl, rfl⟩; rw [hd.out])
  have qa := (Q.refl W1).alloc (.cells #[.int .i64 (a : Int), .int .i64 c.V[a]] 195)
  have HSa := Lib.hid (HS.out.more qa)
  have HOa := Lib.hid (HO.out.more qa)
  have Hs := Lib.hid (src2 W1 (.int .i64 (a : Int)) (.int .i64 c.V[a]) 195)
  clear qa
  have hBW := HS.out.tb.lt
  have hwW := HS.out.ib.lt
  go_region_law (refine step_append_fits rfl (.tmp 19) (.tmp 27) _ rfl (w.heap.size + 2) 195 j1 2 Tryz.underlying27 Hi2.out Hz2.out g2 c.N.length (c.N.length + 1) (cellsP c.N) rfl HOa.out.n ⟨W1.heap.size, 0, none⟩ 1 1 [.int .i64 (a : Int), .int .i64 c.V[a]] rfl rfl Hs.out (by simp [Value.oneCell']) (by omega) ?_; intro w2 own2 hgr0; have hgr : World.grownBy (W1.alloc (.cells #[.int .i64 (a : Int), .int .i64 c.V[a]] 195)) w2 (some g2) := ⟨hgr0.os, hgr0.tape, hgr0.output, hgr0.size, hgr0.block⟩; clear hgr0; have hS2 := HSa.out.grown hgr (by omega) (by omega); have HG2 := Lib.hid hgr; have Own2 := Lib.hid own2; have HS2 := Lib.hid hS2; have y0 := hS2.tb.c0; have y1 := hS2.tb.c1; have y2 := hS2.tb.c2; have yf := hS2.tb.f1; clear hS2 own2 hgr)
  all_goals
    clear y0 y1 y2 yf t0 t1 t2 tf0 tf1 tf2
    have HS3 := Lib.hid (HS2.out.set1 (.slice (some ⟨g2, 0, none⟩) (c.N.length + 1) (c.N.length + 1)))
    have HV3 := Lib.hid (row_far (row_far HOa.out.v HG2.out (by omega)) (setCell_grown w2 B 1 (.slice (some ⟨g2, 0, none⟩) (c.N.length + 1) (c.N.length + 1))) (by omega))
    have HM3 := Lib.hid (row_far (row_far HOa.out.m HG2.out (by omega)) (setCell_grown w2 B 1 (.slice (some ⟨g2, 0, none⟩) (c.N.length + 1) (c.N.length + 1))) (by omega))
    have HN3 := Lib.hid (row_far Own2.out (setCell_grown w2 B 1 (.slice (some ⟨g2, 0, none⟩) (c.N.length + 1) (c.N.length + 1))) (by omega))
    clear HS2 HG2 Own2
    generalize w2.setCell ⟨B, 1, none⟩ (.slice (some ⟨g2, 0, none⟩) (c.N.length + 1) (c.N.length + 1)) = W3 at *
    have HC3 := (OwnC.of_row HV3.out)
    have oc := (HC3.2 a _ (cellsI_at ha)).1
    have of := (HC3.2 a _ (cellsI_at ha)).2
    have HO4 : Hid (OwnC (W3.setCell ⟨g1, a, none⟩ (.int .i64 x)) g1 (cellsI (c.V.set a x))) := by have := HC3.set (s := a) (by rw [cellsI_len]; exact ha) (.int .i64 x); rw [← cellsI_set] at this; exact this
    clear HC3
    have HS4 := Lib.hid (HS3.out.grown (setCell_grown W3 g1 a (.int .i64 x)) (by omega) (by omega))
    have HN4 := Lib.hid ((OwnC.of_row HN3.out).far (b := g1) (i := a) (by omega) (.int .i64 x))
    have HM4 := Lib.hid ((OwnC.of_row HM3.out).far (b := g1) (i := a) (by omega) (.int .i64 x))
    have t0 := HS3.out.tb.c0
    have tf0 := HS3.out.tb.f0
    have t1 := HS3.out.tb.c1
    have tf1 := HS3.out.tb.f1
    have t2 := HS3.out.tb.c2
    have tf2 := HS3.out.tb.f2
    have y0 := HS4.out.tb.c0
    have yg0 := HS4.out.tb.f0
    have y1 := HS4.out.tb.c1
    have yg1 := HS4.out.tb.f1
    have y2 := HS4.out.tb.c2
    have yg2 := HS4.out.tb.f2
    have r0 := HS4.out.rb.c0
    have r1 := HS4.out.rb.c1
    have r2 := HS4.out.rb.c2
    have f0 := HS4.out.rb.f0
    have f1 := HS4.out.rb.f1
    have f2 := HS4.out.rb.f2
    have bz := HS4.out.rb.all (.slice (some ⟨g1, 0, none⟩) c.V.length (c.V.length + 1)) (.slice (some ⟨g2, 0, none⟩) (c.N.length + 1) (c.N.length + 1)) (.slice (some ⟨g3, 0, none⟩) c.M.length (c.M.length + 1))
    have v0 := bz.c0
    have v1 := bz.c1
    have v2 := bz.c2
    clear bz
    go_wp2_with fail
    have O4 : Out w (W3.setCell ⟨g1, a, none⟩ (.int .i64 x)) (setC c a x) g1 (c.V.length + 1) g2 (c.N.length + 1) g3 (c.M.length + 1) :=
      ⟨HO4.out, by have := HN4.out; rwa [← show cellsP (setC c a x).N = cellsP c.N ++ [Value.int .i64 (a : Int), Value.int .i64 c.V[a]] by show cellsP (c.N ++ [((a : Int), c.V.getD a 0)]) = _; rw [cellsP_append, Hga.out]; rfl] at this, HM4.out, by simp [setC], by simp [setC], Nat.le_succ _, by omega, by omega, by omega, by omega, by omega, by omega, HS4.out.q⟩
    refine bodyPost_ret (v := .tuple #[.agg #[.slice (some ⟨g1, 0, none⟩) c.V.length (c.V.length + 1), .slice (some ⟨g2, 0, none⟩) (c.N.length + 1) (c.N.length + 1), .slice (some ⟨g3, 0, none⟩) c.M.length (c.M.length + 1)], .int .i64 0]) (by simp [results, Tryz.f190, go_sem, v0, v1, v2]) rfl ⟨g1, c.V.length + 1, g2, c.N.length + 1, g3, c.M.length + 1, by simp [setC], ?_⟩
    exact out_end O4 (by omega) (by omega) (by omega) _ _ _
end Go.Proofs.YtnifmfdlocgefaaGreat.Tr

namespace Go.Proofs.YtnifmfdlocgefaaGreat.Tr
open Go.RowKit Kit

theorem q_grown {a b c : World} {row : Option Nat} (q : Q a b) (h : b.grownBy c row) : a.grownBy c row := grown_trans (grows_q q row) h
end Go.Proofs.YtnifmfdlocgefaaGreat.Tr

namespace Go.Proofs.YtnifmfdlocgefaaGreat.Tr
open Go.RowKit Kit

end Go.Proofs.YtnifmfdlocgefaaGreat.Tr

namespace Go.Proofs.YtnifmfdlocgefaaGreat.Tr
open Go.RowKit Kit

end Go.Proofs.YtnifmfdlocgefaaGreat.Tr

namespace Go.Proofs.YtnifmfdlocgefaaGreat.Tr
open Go.RowKit Kit

end Go.Proofs.YtnifmfdlocgefaaGreat.Tr

namespace Go.Proofs.YtnifmfdlocgefaaGreat.Tr
open Go.RowKit Kit

end Go.Proofs.YtnifmfdlocgefaaGreat.Tr

namespace Go.Proofs.YtnifmfdlocgefaaGreat.Tr
open Go.RowKit Kit

set_option maxRecDepth 100000 in
set_option maxHeartbeats 4000000 in
theorem refRight_any (c : Cells) (A D E : Option Addr) (n1 k1 n2 k2 n3 k3 : Nat) (w : World) (h1 : n1 = c.V.length) (h2 : n2 = c.N.length) (h3 : n3 = c.M.length) (h : Rd w c A k1 D k2 E k3) (hf : Few c 1000000) :
    Calls Tryz.prog 144 #[.agg #[.slice A n1 k1, .slice D n2 k2, .slice E n3 k3]] w fun e w' => e = .returned (.bool (rightB c)) ∧ Q w w' := by
  subst h1 h2 h3
  have Hf := Lib.hid hf
  obtain ⟨fv, fn, fm⟩ := hf
  have q0 := (Q.refl w).alloc (Obj.cells #[Value.slice A c.V.length k1, Value.slice D c.N.length k2, Value.slice E c.M.length k3] 29)
  have HB := Lib.hid (Box3.new w (Value.slice A c.V.length k1) (Value.slice D c.N.length k2) (Value.slice E c.M.length k3) 29)
  have HR := Lib.hid (h.q q0)
  clear h
  go_enter Tryz.func144, Tryz.ntmps144
  go_wp2_with fail
  generalize w.alloc (Obj.cells #[Value.slice A c.V.length k1, Value.slice D c.N.length k2, Value.slice E c.M.length k3] 29) = W0 at *
  go_loopw [3] (fun i wr => ∃ (k : Nat) (p : Int), k ≤ c.M.length ∧ i = .int .i64 k ∧ Hid (rightB c = (mkB c.N.length p (c.M.drop k) && (backs c.N c.V).isSome)) ∧ Hid (0 ≤ p ∧ (p = 0 ∧ k = 0 ∨ 0 < k ∧ c.M[k - 1]? = some p)) ∧ Hid (∃ d, wr = W0.drewN d)) (fun i _ => c.M.length - (intOf i).toNat)
  case atStart => exact ⟨0, 0, Nat.zero_le _, rfl, Lib.hid rfl, Lib.hid ⟨by omega, .inl ⟨rfl, rfl⟩⟩, Lib.hid ⟨0, rfl⟩⟩
  case round =>
    obtain ⟨k, p, hk, rfl, HH, HP, HD⟩ := hrel
    have qr := Lib.hid (q_drewN W0 HD.out)
    have b1 := (HB.out.q qr.out).c1
    have b2 := (HB.out.q qr.out).c2
    by_cases hlt : k < c.M.length
    · have HS := HH.out
      rw [mkB_at _ _ _ k hlt] at HS
      obtain ⟨ad, e, hb, c0⟩ := (HR.out.m.q qr.out).int_at hlt
      rw [e] at b2
      have HE := Lib.hid e
      clear e
      have j0 : (0 : Int) ≤ (k : Int) := Int.natCast_nonneg _
      have j1 : (k : Int) < (c.M.length : Int) := by omega
      obtain ⟨x, hx⟩ : ∃ x, x = c.M[k] := ⟨_, rfl⟩
      have HX := Lib.hid hx
      rw [← hx] at HS c0
      clear hx
      have stop : ∀ b : Bool, Hid (rightB c = b) → Hid (rightB c = b) := fun _ h => h
      by_cases x0 : x < 0
      · have HF : Hid (rightB c = false) := by
          rw [decide_eq_false (show ¬ p ≤ x by have := HP.out.1; omega)] at HS; exact Lib.hid HS
        have d1 : decide (x < 0) = true := decide_eq_true x0
        clear HS x0
        go_wp2_with fail
        go_quiet (fail)
        go_wp2_with fail
        go_ret
        exact ⟨by rw [HF.out]; rfl, q0.trans (q_drewN W0 (by obtain ⟨d, rfl⟩ := HD.out; exact ⟨_, drewN_add _ _ _⟩))⟩
      · have d1 : decide (x < 0) = false := decide_eq_false x0
        by_cases x1 : (c.N.length : Int) < x
        · have HF : Hid (rightB c = false) := by
            rw [decide_eq_false (show ¬ x ≤ (c.N.length : Int) by omega), Bool.and_false] at HS; exact Lib.hid HS
          have d2 : decide ((c.N.length : Int) < x) = true := decide_eq_true x1
          clear HS x0 x1
          go_wp2_with fail
          go_quiet (fail)
          go_wp2_with fail
          go_ret
          exact ⟨by rw [HF.out]; rfl, q0.trans (q_drewN W0 (by obtain ⟨d, rfl⟩ := HD.out; exact ⟨_, drewN_add _ _ _⟩))⟩
        · have d2 : decide ((c.N.length : Int) < x) = false := decide_eq_false x1
          rw [decide_eq_true (show x ≤ (c.N.length : Int) by omega), Bool.and_true] at HS
          rcases k with _ | k
          · have HF : Hid (rightB c = (mkB c.N.length x (c.M.drop (0 + 1)) && (backs c.N c.V).isSome)) := by
              rw [decide_eq_true (show p ≤ x by have := HP.out.2; omega), Bool.true_and] at HS; exact Lib.hid HS
            have HP' : Hid (0 ≤ x ∧ (x = 0 ∧ 0 + 1 = 0 ∨ 0 < 0 + 1 ∧ c.M[0 + 1 - 1]? = some x)) := ⟨by omega, .inr ⟨by omega, by rw [HX.out]; exact List.getElem?_eq_getElem hlt⟩⟩
            have c0' : wr.cell? ad = some (.int .i64 x) := by have := c0; simpa [Addr.add] using this
            have j1' : (0 : Int) < (c.M.length : Int) := by omega
            clear HS x0 x1 c0
            go_wp2_with fail
            go_quiet (fail)
            go_wp2_with fail
            go_roundw
            case rel => exact ⟨0 + 1, x, by omega, by go_num, HF, HP', Lib.hid (by obtain ⟨d, rfl⟩ := HD.out; exact ⟨_, drewN_add _ _ _⟩)⟩
            case measure => simp [intOf]; omega
          · have hp : c.M[k]? = some p := by
              rcases HP.out.2 with ⟨_, h⟩ | ⟨_, h⟩
              · omega
              · simpa using h
            have hk' : k < c.M.length := by omega
            have hpe : c.M[k] = p := by rw [List.getElem?_eq_getElem hk'] at hp; injection hp
            obtain ⟨ad', e', _, c1⟩ := (HR.out.m.q qr.out).int_at hk'
            have hadd : ad' = ad := by rw [HE.out] at e'; injection e' with e'; exact e'.symm
            rw [hadd, hpe] at c1
            clear hadd e' hp hpe hk'
            have c0' : wr.cell? ⟨ad.block, ad.off + (k + 1), none⟩ = some (.int .i64 x) := by have := c0; simpa [Addr.add] using this
            have j2 : ((k : Int) + 1 - 1) = (k : Int) := by omega
            have j3 : decide (0 < (k : Int) + 1) = true := decide_eq_true (by omega)
            have j5 : ((k : Int) + 1).toNat = k + 1 := by omega
            have j6 : (k : Int) + 1 < (c.M.length : Int) := by omega
            have j7 : (0 : Int) ≤ (k : Int) + 1 := by omega
            have j8 : (k : Int) < (c.M.length : Int) := by omega
            have j9 : IntKind.i64.wrap (k : Int) = (k : Int) := IntWalk.i64_in _ (by omega)
            have j10 : (0 : Int) ≤ (k : Int) := by omega
            have j4 : IntKind.i64.wrap ((k : Int) + 1 - 1) = (k : Int) := by rw [j2]; exact IntWalk.i64_in _ (by omega)
            by_cases x2 : x < p
            · have HF : Hid (rightB c = false) := by
                rw [decide_eq_false (show ¬ p ≤ x by omega)] at HS; exact Lib.hid HS
              have d3 : decide (x < p) = true := decide_eq_true x2
              clear HS x0 x1 x2
              go_wp2_with fail
              go_quiet (fail)
              go_wp2_with fail
              go_ret
              exact ⟨by rw [HF.out]; rfl, q0.trans (q_drewN W0 (by obtain ⟨d, rfl⟩ := HD.out; exact ⟨_, drewN_add _ _ _⟩))⟩
            · have HF : Hid (rightB c = (mkB c.N.length x (c.M.drop (k + 1 + 1)) && (backs c.N c.V).isSome)) := by
                rw [decide_eq_true (show p ≤ x by omega), Bool.true_and] at HS; exact Lib.hid HS
              have HP' : Hid (0 ≤ x ∧ (x = 0 ∧ k + 1 + 1 = 0 ∨ 0 < k + 1 + 1 ∧ c.M[k + 1 + 1 - 1]? = some x)) := ⟨by omega, .inr ⟨by omega, by rw [HX.out]; exact List.getElem?_eq_getElem hlt⟩⟩
              have d3 : decide (x < p) = false := decide_eq_false x2
              clear HS x0 x1 x2
              go_wp2_with fail
              go_quiet (fail)
              go_wp2_with fail
              go_roundw
              case rel => exact ⟨k + 1 + 1, x, by omega, by go_num, HF, HP', Lib.hid (by obtain ⟨d, rfl⟩ := HD.out; exact ⟨_, drewN_add _ _ _⟩)⟩
              case measure => simp [intOf]; omega
    · obtain rfl : k = c.M.length := by omega
      have HF : Hid (rightB c = (backs c.N c.V).isSome) := by have := HH.out; rw [mkB_end _ _ _ _ (Nat.le_refl _), Bool.true_and] at this; exact Lib.hid this
      have b0 := (HB.out.q qr.out).c0
      go_wp2_with fail
      refine (refCells_any c _ _ _ _ _ _ _ _ _ _ rfl rfl rfl (HR.out.q qr.out) Hf.out).mono ?_
      rintro e w1 ⟨v, rfl, q1⟩
      go_wp2_with fail
      go_ret
      exact ⟨by rw [HF.out]; rfl, q0.trans (qr.out.trans q1)⟩
end Go.Proofs.YtnifmfdlocgefaaGreat.Tr

namespace Go.Proofs.YtnifmfdlocgefaaGreat.Tr
open Go.RowKit Kit

def growC (c : Cells) (x : Int) : Cells := ⟨c.V ++ [x], c.N ++ [(-1, 0)], c.M⟩

end Go.Proofs.YtnifmfdlocgefaaGreat.Tr

namespace Go.Proofs.YtnifmfdlocgefaaGreat.Tr
open Go.ChangeShapes Go.WideShapes Go.RowKit Kit Go.Deep Go.Joins

theorem bytes_int : Tryz.prog.bytesOf 3 = 8 := by kernel_rfl
theorem bytes_note : Tryz.prog.bytesOf 195 = 16 := by kernel_rfl
theorem cells_int : Tryz.prog.cellsOf 3 = 1 := by kernel_rfl
section
variable {H : Type} {enc : TypeId × Value → H} {W : World} {base : Nat}
theorem open_ints_cells {fuel : Nat} {v : Value} {x : DataW H × List MemPlace} (h : DataW.trod enc Tryz.prog W 0 (fun _ => true) true fuel 24 [v] = some x) (hz : ∀ n ∈ x.1.weights Tryz.prog 24, n ≤ reachBytes) :
    ∃ A n c l, v = .slice A n c ∧ n = l.length ∧ n ≤ c ∧ Rds W W.heap.size A (cellsI l) ∧ l.length ≤ 1152921504606846976 := by
  rcases open_ints Tryz.underlying24 Tryz.underlying3 cells_int h with ⟨hcs, hx⟩ | ⟨a, len, cap, zs, hcs, _, hl, _, hlen, hx, hcell, _⟩
  · obtain rfl : v = .slice none 0 0 := by simpa using hcs
    exact ⟨none, 0, 0, [], rfl, rfl, Nat.le_refl _, Rds.nil _ _ _, by simp⟩
  · obtain rfl : v = .slice (some a) len cap := by simpa using hcs
    simp only [if_true] at hlen
    have hw : (((lits .i64 (zs.take len) : List (DataW H))).length + ((lits .i64 (zs.drop len) : List (DataW H))).length) * Tryz.prog.bytesOf 3 ≤ reachBytes := by
      refine hz _ ?_
      rw [hx]
      simp [DataW.weights, Tryz.underlying24]
    rw [bytes_int] at hw
    have hll : (zs.take len).length = len := by rw [List.length_take, hlen]; omega
    refine ⟨_, _, _, zs.take len, rfl, hll.symm, hl, fun h0 => ⟨a, rfl, ?_, fun i y hy => ?_⟩, ?_⟩
    · have := hcell 0 (by rw [cellsI_len] at h0; omega)
      have := World.block_lt_of_cell? W _ this
      rwa [add_block] at this
    · unfold cellsI at hy
      rw [List.getElem?_map, Option.map_eq_some_iff] at hy
      obtain ⟨z, hz', rfl⟩ := hy
      have hi : i < len := by have := (List.getElem?_eq_some_iff.1 hz').1; omega
      rw [List.getElem?_take, if_pos hi] at hz'
      rw [hcell i (by omega)]
      simp [hz']
    · simp [lits, reachBytes] at hw
      rw [hll]; omega
theorem open_notes_cells {fuel : Nat} {v : Value} {x : DataW H × List MemPlace} (h : DataW.trod enc Tryz.prog W 0 (fun _ => true) true fuel 27 [v] = some x) (hz : ∀ n ∈ x.1.weights Tryz.prog 27, n ≤ reachBytes) :
    ∃ A n c l, v = .slice A n c ∧ n = l.length ∧ n ≤ c ∧ Rds W W.heap.size A (cellsP l) ∧ l.length ≤ 1152921504606846976 := by
  rcases open_slice_pairs Tryz.underlying27 Tryz.underlying195 (by kernel_rfl) rfl rfl (by kernel_rfl) (by kernel_rfl) h with ⟨hcs, _⟩ | ⟨ad, len, cap, m, n, V0, V1, D0, D1, P0, P1, hcs, _, hl, hm, hmm, hx, hi⟩
  · obtain rfl : v = .slice none 0 0 := by simpa using hcs
    exact ⟨none, 0, 0, [], rfl, rfl, Nat.le_refl _, Rds.nil _ _ _, by simp⟩
  · obtain rfl : v = .slice (some ad) len cap := by simpa using hcs
    have hw : (((List.range len).map fun i => (.agg [D0 i, D1 i] : DataW H)).length + ((List.range (m - len)).map fun j => (.agg [D0 (len + j), D1 (len + j)] : DataW H)).length) * Tryz.prog.bytesOf 195 ≤ reachBytes := by
      refine hz _ ?_
      rw [hx]
      simp [DataW.weights, Tryz.underlying27]
    rw [bytes_note] at hw
    have hlm : len ≤ m := by rw [hmm]; split <;> omega
    have each : ∀ i, i < len → ∃ s : Note, W.cell? (ad.add (i * 2)) = some (.int .i64 s.1) ∧ W.cell? (ad.add (i * 2 + 1)) = some (.int .i64 s.2) := fun i hil => by
      obtain ⟨c0, c1, t0, t1⟩ := hi i (by omega)
      obtain ⟨s0, e0, _, _⟩ := DataW.trod_int Tryz.underlying3 t0
      obtain ⟨s1, e1, _, _⟩ := DataW.trod_int Tryz.underlying3 t1
      simp only [List.cons.injEq, and_true] at e0 e1
      exact ⟨(s0, s1), by rw [c0, e0], by rw [c1, e1]⟩
    obtain ⟨q, hq⟩ := choose_lt each
    have hll : ((List.range len).map q).length = len := by simp
    refine ⟨_, _, _, (List.range len).map q, rfl, hll.symm, hl, fun h0 => ⟨ad, rfl, ?_, fun j u hj => ?_⟩, ?_⟩
    · rw [cellsP_len, hll] at h0
      have := (hq 0 (by omega)).1
      have := World.block_lt_of_cell? W _ this
      rwa [add_block] at this
    · rcases Nat.mod_two_eq_zero_or_one j with hp | hp
      · obtain ⟨i, rfl⟩ : ∃ i, j = i * 2 := ⟨j / 2, by omega⟩
        rw [cellsP_even, Option.map_eq_some_iff] at hj
        obtain ⟨s, hs, rfl⟩ := hj
        have hil : i < len := by have := (List.getElem?_eq_some_iff.1 hs).1; rw [hll] at this; exact this
        have e : s = q i := by rw [List.getElem?_map, List.getElem?_range hil] at hs; simpa using hs.symm
        rw [e]
        exact (hq i hil).1
      · obtain ⟨i, rfl⟩ : ∃ i, j = i * 2 + 1 := ⟨j / 2, by omega⟩
        rw [cellsP_odd, Option.map_eq_some_iff] at hj
        obtain ⟨s, hs, rfl⟩ := hj
        have hil : i < len := by have := (List.getElem?_eq_some_iff.1 hs).1; rw [hll] at this; exact this
        have e : s = q i := by rw [List.getElem?_map, List.getElem?_range hil] at hs; simpa using hs.symm
        rw [e]
        exact (hq i hil).2
    · simp [reachBytes] at hw
      rw [hll]; omega
set_option maxRecDepth 100000 in
theorem open_cells3 {f0 f1 f2 : Nat} {v0 v1 v2 : Value} {y0 y1 y2 : DataW H × List MemPlace} (t0 : DataW.trod enc Tryz.prog W 0 (fun _ => true) true f0 24 [v0] = some y0) (t1 : DataW.trod enc Tryz.prog W 0 (fun _ => true) true f1 27 [v1] = some y1) (t2 : DataW.trod enc Tryz.prog W 0 (fun _ => true) true f2 24 [v2] = some y2)
    (hz : ∀ n ∈ DataW.weights Tryz.prog 29 (.agg [y0.1, y1.1, y2.1]), n ≤ reachBytes) :
    ∃ c A n1 k1 D n2 k2 E n3 k3, v0 = .slice A n1 k1 ∧ v1 = .slice D n2 k2 ∧ v2 = .slice E n3 k3 ∧ n1 = c.V.length ∧ n2 = c.N.length ∧ n3 = c.M.length ∧ Rd W c A k1 D k2 E k3 ∧ Few c 1152921504606846976 := by
  have hw : DataW.weights Tryz.prog 29 (.agg [y0.1, y1.1, y2.1]) = y0.1.weights Tryz.prog 24 ++ (y1.1.weights Tryz.prog 27 ++ (y2.1.weights Tryz.prog 24 ++ [])) := by
    simp [DataW.weights, Tryz.underlying29, DataW.weightsEach]
  rw [hw] at hz
  obtain ⟨A, n1, k1, V, e0, h1, g1, r1, l1⟩ := open_ints_cells t0 (fun n hn => hz n (by simp [hn]))
  obtain ⟨D, n2, k2, N, e1, h2, g2, r2, l2⟩ := open_notes_cells t1 (fun n hn => hz n (by simp [hn]))
  obtain ⟨E, n3, k3, M, e2, h3, g3, r3, l3⟩ := open_ints_cells t2 (fun n hn => hz n (by simp [hn]))
  exact ⟨⟨V, N, M⟩, A, n1, k1, D, n2, k2, E, n3, k3, e0, e1, e2, h1, h2, h3, ⟨r1, r2, r3, by show V.length ≤ _; omega, by show N.length ≤ _; omega, by show M.length ≤ _; omega⟩, l1, l2, l3⟩
end

theorem Rds.own {w : World} {B g : Nat} {l : List Int} (h : Rds w B (some ⟨g, 0, none⟩) (cellsI l)) {k : Nat} {x : Int} (hk : l[k]? = some x) : w.cell? ⟨g, k, none⟩ = some (.int .i64 x) := by
  have hl := (List.getElem?_eq_some_iff.1 hk).1
  obtain ⟨ad, e, _, hc⟩ := h (by rw [cellsI_len]; omega)
  injection e with e
  subst e
  have := hc k (.int .i64 x) (by unfold cellsI; rw [List.getElem?_map, hk]; rfl)
  rwa [add_zero_head] at this

theorem few_set {c : Cells} {m k : Nat} (a : Nat) (x : Int) (h : Few c m) (hm : m + 1 ≤ k) : Few (setC c a x) k := ⟨by have := h.1; simp [setC]; omega, by have := h.2.1; simp [setC]; omega, by have := h.2.2; show c.M.length ≤ _; omega⟩
theorem few_more {c : Cells} {m k : Nat} (h : Few c m) (hm : m ≤ k) : Few c k := ⟨Nat.le_trans h.1 hm, Nat.le_trans h.2.1 hm, Nat.le_trans h.2.2 hm⟩
end Go.Proofs.YtnifmfdlocgefaaGreat.Tr

namespace Go.Proofs.YtnifmfdlocgefaaGreat.Uf
open Go.RowKit Kit Tr

theorem placeU (a m : Int) (w : World) : Calls Tryz.prog 188 #[.int .i64 a, .int .i64 m] w fun e w' => e = .returned (.bool (decide (0 ≤ a) && decide (a < m))) ∧ w = w' := by
  by_cases h : 0 ≤ a
  · have hd : decide (0 ≤ a) = true := decide_eq_true h
    rw [hd]
    go_enter Tryz.func188, Tryz.ntmps188
    go_wp2_with fail
    go_ret
    exact ⟨rfl, rfl⟩
  · have hd : decide (0 ≤ a) = false := decide_eq_false h
    rw [hd]
    go_enter Tryz.func188, Tryz.ntmps188
    go_wp2_with fail
    go_ret
    exact ⟨rfl, rfl⟩

/-- the rank, in a box -/
theorem rank_any (R : List Int) (A : Option Addr) (c B : Nat) (n : Int) (w : World) (hb : w.cell? ⟨B, 0, none⟩ = some (.slice A R.length c)) (hr : Rds w w.heap.size A (cellsI R)) :
    Calls Tryz.prog 258 #[.int .i64 n, .pointer (some ⟨B, 0, none⟩)] w fun e w' => e = .returned (.int .i64 (rk R n)) ∧ w = w' := by
  by_cases h : 0 ≤ n ∧ n < R.length
  · obtain ⟨k, rfl⟩ := Int.eq_ofNat_of_zero_le h.1
    have hk : k < R.length := by omega
    have HR : Hid (rk R (k : Int) = R[k]) := by unfold Hid rk; rw [if_pos h]; simp [hk]
    obtain ⟨ad, e, _, c0⟩ := hr.int_at hk
    rw [e] at hb
    have hd : (decide (0 ≤ (k : Int)) && decide ((k : Int) < (R.length : Int))) = true := by rw [decide_eq_true h.1, decide_eq_true h.2]; rfl
    clear h e hr
    go_enter Tryz.func258, Tryz.ntmps258
    go_wp2_with (go_at_call 188; refine (placeU _ _ _).mono ?_; rintro e w2 ⟨rfl, rfl⟩; rw [hd])
    go_ret
    exact ⟨by rw [HR.out]; rfl, rfl⟩
  · have HR : Hid (rk R n = 0) := by unfold Hid rk; rw [if_neg h]
    have hd : (decide (0 ≤ n) && decide (n < (R.length : Int))) = false := by
      by_cases e : 0 ≤ n
      · rw [decide_eq_false (fun k => h ⟨e, k⟩), Bool.and_false]
      · rw [decide_eq_false e]; rfl
    clear h hr
    go_enter Tryz.func258, Tryz.ntmps258
    go_wp2_with (go_at_call 188; refine (placeU _ _ _).mono ?_; rintro e w2 ⟨rfl, rfl⟩; rw [hd])
    go_ret
    exact ⟨by rw [HR.out]; rfl, rfl⟩

set_option maxHeartbeats 1000000 in
/-- the order, over its rank -/
theorem ahead_any (R : List Int) (A : Option Addr) (c B F : Nat) (a b : Int) (w : World) (hf : w.cell? ⟨F, 0, none⟩ = some (.func (.func 258) #[] #[.pointer (some ⟨B, 0, none⟩)])) (hb : w.cell? ⟨B, 0, none⟩ = some (.slice A R.length c)) (hr : Rds w w.heap.size A (cellsI R)) :
    Calls Tryz.prog 259 #[.int .i64 a, .int .i64 b, .pointer (some ⟨F, 0, none⟩)] w fun e w' => e = .returned (.bool (lessB R a b)) ∧ ∃ d, w' = w.drewN d := by
  have C0 : Hid (∀ (x : Int) (n : Nat), Calls Tryz.prog 258 #[.int .i64 x, .pointer (some ⟨B, 0, none⟩)] (w.drewN n) fun e w' => e = .returned (.int .i64 (rk R x)) ∧ w' = w.drewN n) := fun x n =>
    (rank_any R A c B x (w.drewN n) hb hr).mono (by rintro e w' ⟨rfl, rfl⟩; exact ⟨rfl, rfl⟩)
  by_cases h : rk R a = rk R b
  · have HR : Hid (lessB R a b = decide (a < b)) := by unfold Hid lessB; rw [if_pos h]
    have hne : (rk R a != rk R b) = false := by rw [h]; simp
    clear h
    go_enter Tryz.func259, Tryz.ntmps259
    go_wp2_with fail
    go_quiet (first | (go_at_call 258; exact Calls.quiet_of_same (C0.out _ _)))
    go_wp2_with fail
    go_ret
    exact ⟨by rw [HR.out]; rfl, _, rfl⟩
  · have HR : Hid (lessB R a b = decide (rk R a < rk R b)) := by unfold Hid lessB; rw [if_neg h]
    have hne : (rk R a != rk R b) = true := by simpa using h
    clear h
    go_enter Tryz.func259, Tryz.ntmps259
    go_wp2_with fail
    go_quiet (first | (go_at_call 258; exact Calls.quiet_of_same (C0.out _ _)))
    go_wp2_with fail
    obtain ⟨W1, hW1⟩ : ∃ W1, W1 = w.drewN nq := ⟨_, rfl⟩
    have hf1 : W1.cell? ⟨F, 0, none⟩ = some (.func (.func 258) #[] #[.pointer (some ⟨B, 0, none⟩)]) := by rw [hW1]; exact hf
    have C : Hid (∀ (x : Int) (n : Nat), Calls Tryz.prog 258 #[.int .i64 x, .pointer (some ⟨B, 0, none⟩)] (W1.drewN n) fun e w' => e = .returned (.int .i64 (rk R x)) ∧ w' = W1.drewN n) := by rw [hW1]; exact fun x n => (rank_any R A c B x ((w.drewN nq).drewN n) hb hr).mono (by rintro e w' ⟨rfl, rfl⟩; exact ⟨rfl, rfl⟩)
    rw [← hW1]
    have HW1 := Lib.hid hW1
    clear hW1 hf
    go_quiet (first | (go_at_call 258; exact Calls.quiet_of_same (C.out _ _)))
    go_wp2_with fail
    go_ret
    exact ⟨by rw [HR.out]; rfl, by rw [HW1.out, drewN_add]; exact ⟨_, rfl⟩⟩

/-- the closures of the ranks, made -/
def twoF (w : World) (A : Option Addr) (n c : Nat) : World := (w.alloc (.cells #[.slice A n c] 24)).alloc (.cells #[.func (.func 258) #[] #[.pointer (some ⟨w.heap.size, 0, none⟩)]] 165)
theorem order_any (A : Option Addr) (n c : Nat) (w : World) : Calls Tryz.prog 179 #[.slice A n c] w fun e w' => e = .returned (.func (.func 259) #[] #[.pointer (some ⟨w.heap.size + 1, 0, none⟩)]) ∧ w' = twoF w A n c := by
  go_enter Tryz.func179, Tryz.ntmps179
  go_wp2_with fail
  go_ret
  exact ⟨rfl, rfl⟩
theorem twoF_q (w : World) (A : Option Addr) (n c : Nat) : Q w (twoF w A n c) := ((Q.refl w).alloc _).alloc _
/-- the order's closure, wherever its boxes are -/
theorem aheadF (R : List Int) (A : Option Addr) (n c : Nat) (hn : n = R.length) (a b : Int) (w W : World) (hr : Rds w w.heap.size A (cellsI R)) (q : Q (twoF w A n c) W) :
    Calls Tryz.prog 259 #[.int .i64 a, .int .i64 b, .pointer (some ⟨w.heap.size + 1, 0, none⟩)] W fun e w' => e = .returned (.bool (lessB R a b)) ∧ ∃ d, w' = W.drewN d := by
  subst hn
  have h1 : (twoF w A R.length c).cell? ⟨w.heap.size + 1, 0, none⟩ = some (.func (.func 258) #[] #[.pointer (some ⟨w.heap.size, 0, none⟩)]) := by unfold twoF; rw [← World.size_alloc w (.cells #[.slice A R.length c] 24)]; simp
  have h0 : (twoF w A R.length c).cell? ⟨w.heap.size, 0, none⟩ = some (.slice A R.length c) := by unfold twoF; simp
  exact ahead_any R A c w.heap.size (w.heap.size + 1) a b W ((q.cell (p := ⟨w.heap.size + 1, 0, none⟩) (by unfold twoF; simp)).trans h1) ((q.cell (p := ⟨w.heap.size, 0, none⟩) (by unfold twoF; simp; omega)).trans h0) (hr.q ((twoF_q w A R.length c).trans q))

theorem less_any (R : List Int) (A : Option Addr) (n c : Nat) (a b : Int) (w : World) (hn : n = R.length) (hr : Rds w w.heap.size A (cellsI R)) :
    Calls Tryz.prog 108 #[.slice A n c, .int .i64 a, .int .i64 b] w fun e w' => e = .returned (.bool (lessB R a b)) ∧ Q w w' := by
  have C := Lib.hid (aheadF R A n c hn a b w _ hr (Q.refl _))
  have q := twoF_q w A n c
  subst hn
  clear hr
  go_enter Tryz.func108, Tryz.ntmps108
  go_wp2_with fail
  refine (order_any _ _ _ _).mono ?_
  rintro e w1 ⟨rfl, rfl⟩
  generalize twoF w A R.length c = W at *
  go_wp2_with fail
  refine C.out.mono ?_
  rintro e w1 ⟨rfl, hd⟩
  go_wp2_with fail
  go_ret
  exact ⟨rfl, q.trans (q_drewN _ hd)⟩

set_option maxHeartbeats 2000000 in
/-- the document's order -/
theorem refLess_any (R : List Int) (A : Option Addr) (n c : Nat) (a b : Int) (w : World) (hn : n = R.length) (hr : Rds w w.heap.size A (cellsI R)) :
    Calls Tryz.prog 110 #[.slice A n c, .int .i64 a, .int .i64 b] w fun e w' => e = .returned (.bool (lessB R a b)) ∧ w = w' := by
  subst hn
  have H : ∀ x : Int, (0 ≤ x ∧ x < R.length) ∨ ¬ 0 ≤ x ∨ (0 ≤ x ∧ ¬ x < R.length) := fun x => by omega
  have HR : Hid (lessB R a b = if rk R a = rk R b then decide (a < b) else decide (rk R a < rk R b)) := Lib.hid rfl
  rcases H a with ha | ha | ha
  · have Hb := H b
    clear H
    obtain ⟨i, rfl⟩ := Int.eq_ofNat_of_zero_le ha.1
    have hi : i < R.length := by omega
    have ea : rk R (i : Int) = R[i] := by unfold rk; rw [if_pos ha]; simp [hi]
    have a1 : decide ((0 : Int) ≤ (i : Int)) = true := decide_eq_true ha.1
    have a2 : decide (i < R.length) = true := decide_eq_true hi
    rcases Hb with hb | hb | hb
    · obtain ⟨j, rfl⟩ := Int.eq_ofNat_of_zero_le hb.1
      have hj : j < R.length := by omega
      have eb : rk R (j : Int) = R[j] := by unfold rk; rw [if_pos hb]; simp [hj]
      have b1 : decide ((0 : Int) ≤ (j : Int)) = true := decide_eq_true hb.1
      have b2 : decide (j < R.length) = true := decide_eq_true hj
      obtain ⟨ad, e, _, c0⟩ := hr.int_at hi
      subst e
      have c1 := hr.int_some hj
      rw [ea, eb] at HR
      clear hr ea eb ha hb
      generalize R[i] = x at *
      generalize R[j] = y at *
      by_cases h : x = y
      · rw [if_pos h] at HR
        have hne : (x != y) = false := by rw [h]; simp
        clear h
        go_enter Tryz.func110, Tryz.ntmps110
        go_wp2_with fail
        go_ret
        exact ⟨by rw [HR.out]; first | rfl | simp, rfl⟩
      · rw [if_neg h] at HR
        have hne : (x != y) = true := by simpa using h
        clear h
        go_enter Tryz.func110, Tryz.ntmps110
        go_wp2_with fail
        go_ret
        exact ⟨by rw [HR.out]; first | rfl | simp, rfl⟩
    · have eb : rk R b = 0 := by unfold rk; rw [if_neg (fun k => hb k.1)]
      have b1 : decide ((0 : Int) ≤ b) = false := decide_eq_false hb
      obtain ⟨ad, e, _, c0⟩ := hr.int_at hi
      subst e
      rw [ea, eb] at HR
      clear hr ea eb ha hb
      generalize R[i] = x at *
      by_cases h : x = (0 : Int)
      · rw [if_pos h] at HR
        have hne : (x != (0 : Int)) = false := by rw [h]; simp
        clear h
        go_enter Tryz.func110, Tryz.ntmps110
        go_wp2_with fail
        go_ret
        exact ⟨by rw [HR.out]; first | rfl | simp, rfl⟩
      · rw [if_neg h] at HR
        have hne : (x != (0 : Int)) = true := by simpa using h
        clear h
        go_enter Tryz.func110, Tryz.ntmps110
        go_wp2_with fail
        go_ret
        exact ⟨by rw [HR.out]; first | rfl | simp, rfl⟩
    · have eb : rk R b = 0 := by unfold rk; rw [if_neg (fun k => hb.2 k.2)]
      have b1 : decide ((0 : Int) ≤ b) = true := decide_eq_true hb.1
      have b2 : decide (b < (R.length : Int)) = false := decide_eq_false hb.2
      obtain ⟨ad, e, _, c0⟩ := hr.int_at hi
      subst e
      rw [ea, eb] at HR
      clear hr ea eb ha hb
      generalize R[i] = x at *
      by_cases h : x = (0 : Int)
      · rw [if_pos h] at HR
        have hne : (x != (0 : Int)) = false := by rw [h]; simp
        clear h
        go_enter Tryz.func110, Tryz.ntmps110
        go_wp2_with fail
        go_ret
        exact ⟨by rw [HR.out]; first | rfl | simp, rfl⟩
      · rw [if_neg h] at HR
        have hne : (x != (0 : Int)) = true := by simpa using h
        clear h
        go_enter Tryz.func110, Tryz.ntmps110
        go_wp2_with fail
        go_ret
        exact ⟨by rw [HR.out]; first | rfl | simp, rfl⟩
  · have Hb := H b
    clear H
    have ea : rk R a = 0 := by unfold rk; rw [if_neg (fun k => ha k.1)]
    have a1 : decide ((0 : Int) ≤ a) = false := decide_eq_false ha
    rcases Hb with hb | hb | hb
    · obtain ⟨j, rfl⟩ := Int.eq_ofNat_of_zero_le hb.1
      have hj : j < R.length := by omega
      have eb : rk R (j : Int) = R[j] := by unfold rk; rw [if_pos hb]; simp [hj]
      have b1 : decide ((0 : Int) ≤ (j : Int)) = true := decide_eq_true hb.1
      have b2 : decide (j < R.length) = true := decide_eq_true hj
      obtain ⟨ad, e, _, c1⟩ := hr.int_at hj
      subst e
      rw [ea, eb] at HR
      clear hr ea eb ha hb
      generalize R[j] = y at *
      by_cases h : (0 : Int) = y
      · rw [if_pos h] at HR
        have hne : ((0 : Int) != y) = false := by rw [h]; simp
        clear h
        go_enter Tryz.func110, Tryz.ntmps110
        go_wp2_with fail
        go_ret
        exact ⟨by rw [HR.out]; first | rfl | simp, rfl⟩
      · rw [if_neg h] at HR
        have hne : ((0 : Int) != y) = true := by simpa using h
        clear h
        go_enter Tryz.func110, Tryz.ntmps110
        go_wp2_with fail
        go_ret
        exact ⟨by rw [HR.out]; first | rfl | simp, rfl⟩
    · have eb : rk R b = 0 := by unfold rk; rw [if_neg (fun k => hb k.1)]
      have b1 : decide ((0 : Int) ≤ b) = false := decide_eq_false hb
      rw [ea, eb] at HR
      clear hr ea eb ha hb
      rw [if_pos rfl] at HR
      go_enter Tryz.func110, Tryz.ntmps110
      go_wp2_with fail
      go_ret
      exact ⟨by rw [HR.out]; first | rfl | simp, rfl⟩
    · have eb : rk R b = 0 := by unfold rk; rw [if_neg (fun k => hb.2 k.2)]
      have b1 : decide ((0 : Int) ≤ b) = true := decide_eq_true hb.1
      have b2 : decide (b < (R.length : Int)) = false := decide_eq_false hb.2
      rw [ea, eb] at HR
      clear hr ea eb ha hb
      rw [if_pos rfl] at HR
      go_enter Tryz.func110, Tryz.ntmps110
      go_wp2_with fail
      go_ret
      exact ⟨by rw [HR.out]; first | rfl | simp, rfl⟩
  · have Hb := H b
    clear H
    have ea : rk R a = 0 := by unfold rk; rw [if_neg (fun k => ha.2 k.2)]
    have a1 : decide ((0 : Int) ≤ a) = true := decide_eq_true ha.1
    have a2 : decide (a < (R.length : Int)) = false := decide_eq_false ha.2
    rcases Hb with hb | hb | hb
    · obtain ⟨j, rfl⟩ := Int.eq_ofNat_of_zero_le hb.1
      have hj : j < R.length := by omega
      have eb : rk R (j : Int) = R[j] := by unfold rk; rw [if_pos hb]; simp [hj]
      have b1 : decide ((0 : Int) ≤ (j : Int)) = true := decide_eq_true hb.1
      have b2 : decide (j < R.length) = true := decide_eq_true hj
      obtain ⟨ad, e, _, c1⟩ := hr.int_at hj
      subst e
      rw [ea, eb] at HR
      clear hr ea eb ha hb
      generalize R[j] = y at *
      by_cases h : (0 : Int) = y
      · rw [if_pos h] at HR
        have hne : ((0 : Int) != y) = false := by rw [h]; simp
        clear h
        go_enter Tryz.func110, Tryz.ntmps110
        go_wp2_with fail
        go_ret
        exact ⟨by rw [HR.out]; first | rfl | simp, rfl⟩
      · rw [if_neg h] at HR
        have hne : ((0 : Int) != y) = true := by simpa using h
        clear h
        go_enter Tryz.func110, Tryz.ntmps110
        go_wp2_with fail
        go_ret
        exact ⟨by rw [HR.out]; first | rfl | simp, rfl⟩
    · have eb : rk R b = 0 := by unfold rk; rw [if_neg (fun k => hb k.1)]
      have b1 : decide ((0 : Int) ≤ b) = false := decide_eq_false hb
      rw [ea, eb] at HR
      clear hr ea eb ha hb
      rw [if_pos rfl] at HR
      go_enter Tryz.func110, Tryz.ntmps110
      go_wp2_with fail
      go_ret
      exact ⟨by rw [HR.out]; first | rfl | simp, rfl⟩
    · have eb : rk R b = 0 := by unfold rk; rw [if_neg (fun k => hb.2 k.2)]
      have b1 : decide ((0 : Int) ≤ b) = true := decide_eq_true hb.1
      have b2 : decide (b < (R.length : Int)) = false := decide_eq_false hb.2
      rw [ea, eb] at HR
      clear hr ea eb ha hb
      rw [if_pos rfl] at HR
      go_enter Tryz.func110, Tryz.ntmps110
      go_wp2_with fail
      go_ret
      exact ⟨by rw [HR.out]; first | rfl | simp, rfl⟩

theorem upU (V : List Int) (A : Option Addr) (n c m : Nat) (w : World) (hn : n = V.length) (hr : Rds w w.heap.size A (cellsI V)) (hm : m < V.length) (p : Nat) (hp : V[m]? = some (p : Int)) (hpl : p < V.length) :
    Calls Tryz.prog 133 #[.slice A n c, .int .i64 (m : Int)] w fun e w' => e = .returned (.int .i64 (p : Int)) ∧ w = w' := by
  subst hn
  obtain ⟨ad, rfl, _, c0⟩ := hr.int_at hm
  obtain ⟨_, hp'⟩ := List.getElem?_eq_some_iff.1 hp
  rw [hp'] at c0
  have h0 : (0 : Int) ≤ (m : Int) := by omega
  have h1 : (m : Int) < (V.length : Int) := by omega
  have hd : (decide (0 ≤ (m : Int)) && decide ((m : Int) < (V.length : Int))) = true := by rw [decide_eq_true h0, decide_eq_true h1]; rfl
  have hd2 : (decide (0 ≤ (p : Int)) && decide ((p : Int) < (V.length : Int))) = true := by rw [decide_eq_true (show (0 : Int) ≤ (p : Int) by omega), decide_eq_true (show (p : Int) < (V.length : Int) by omega)]; rfl
  clear hr hp hp'
  go_enter Tryz.func133, Tryz.ntmps133
  go_wp2_with (go_at_call 188; refine (placeU _ _ _).mono ?_; rintro e w2 ⟨rfl, rfl⟩; first | rw [hd] | rw [hd2])
  go_ret
  exact ⟨rfl, rfl⟩
end Go.Proofs.YtnifmfdlocgefaaGreat.Uf

namespace Go.Proofs.YtnifmfdlocgefaaGreat.Uf
open Go.RowKit Kit Tr

set_option maxRecDepth 100000 in
set_option maxHeartbeats 1000000 in
theorem find_any (R : List Int) (c : Cells) (m : Nat) (A D E : Option Addr) (n1 k1 n2 k2 n3 k3 : Nat) (w : World) (h1 : n1 = c.V.length) (h2 : n2 = c.N.length) (h3 : n3 = c.M.length) (h : Rd w c A k1 D k2 E k3) (hC : Cl R c.V) (hm : m < c.V.length) (hl : c.V.length ≤ 1000000) :
    Calls Tryz.prog 65 #[.agg #[.slice A n1 k1, .slice D n2 k2, .slice E n3 k3], .int .i64 (m : Int)] w fun e w' => e = .returned (.int .i64 (fst c.V m : Int)) ∧ Q w w' := by
  subst h1 h2 h3
  have q0 := (Q.refl w).alloc (Obj.cells #[Value.slice A c.V.length k1, Value.slice D c.N.length k2, Value.slice E c.M.length k3] 29)
  have HB := Lib.hid (Box3.new w (Value.slice A c.V.length k1) (Value.slice D c.N.length k2) (Value.slice E c.M.length k3) 29)
  have HR := Lib.hid (h.q q0)
  have HC := Lib.hid hC
  have HF : Hid (root c.V (c.V.length - 0) m = fst c.V m) := rfl
  clear h hC
  go_enter Tryz.func65, Tryz.ntmps65
  go_upto_region 1 with fail
  generalize w.alloc (Obj.cells #[Value.slice A c.V.length k1, Value.slice D c.N.length k2, Value.slice E c.M.length k3] 29) = W0 at *
  have b0 := HB.out.c0
  go_wp2_with fail
  go_loopw [1, 9] (fun x i wr => ∃ (k y : Nat), k ≤ c.V.length ∧ y < c.V.length ∧ i = .int .i64 k ∧ x = .int .i64 (y : Int) ∧ Hid (root c.V (c.V.length - k) y = fst c.V m) ∧ W0 = wr) (fun _ i _ => c.V.length - (intOf i).toNat)
  case atStart => exact ⟨0, m, Nat.zero_le _, hm, rfl, rfl, HF, rfl⟩
  case round =>
    clear HF
    obtain ⟨k, y, hk, hy, rfl, rfl, HH, rfl⟩ := hrel
    by_cases hlt : k < c.V.length
    · obtain ⟨p1, p2, _⟩ := HC.out.parent hy
      have C := Lib.hid (upU c.V A _ k1 y W0 rfl HR.out.v hy _ p2 p1)
      by_cases e : par c.V y = y
      · have HF : Hid (fst c.V m = y) := by have := HH.out; rw [root_stay e] at this; exact this.symm
        rw [e] at C
        clear p1 p2 e
        go_wp2_with (go_at_call 133; refine C.out.mono ?_; rintro e w2 ⟨rfl, rfl⟩)
        go_ret
        exact ⟨by rw [HF.out]; rfl, q0⟩
      · have HF : Hid (root c.V (c.V.length - (k + 1)) (par c.V y) = fst c.V m) := by
          have := HH.out
          rw [show c.V.length - k = (c.V.length - (k + 1)) + 1 by omega] at this
          unfold root at this
          rw [if_neg e] at this
          exact this
        have e1 : ((par c.V y : Int) == (y : Int)) = false := beq_eq_false_iff_ne.2 (by omega)
        have e2 : (par c.V y == y) = false := by simpa using e
        clear p2 e
        go_wp2_with (go_at_call 133; refine C.out.mono ?_; rintro e w2 ⟨rfl, rfl⟩)
        go_roundw
        case rel => exact ⟨k + 1, par c.V y, by omega, p1, by go_num, rfl, HF, trivial⟩
        case measure => simp [intOf]; omega
    · have HF : Hid (y = fst c.V m) := by
        have := HH.out
        rw [show c.V.length - k = 0 by omega] at this
        exact this
      go_wp2_with fail
      go_ret
      exact ⟨by rw [← HF.out]; rfl, q0⟩

set_option maxRecDepth 100000 in
set_option maxHeartbeats 2000000 in
theorem right5_any (R : List Int) (c : Cells) (A D E F : Option Addr) (n1 k1 n2 k2 n3 k3 n4 k4 : Nat) (w : World) (h1 : n1 = c.V.length) (h2 : n2 = c.N.length) (h3 : n3 = c.M.length) (h4 : n4 = R.length) (h : Rd w c A k1 D k2 E k3) (hR : Rds w w.heap.size F (cellsI R)) (hf : Few c 1000000) :
    Calls Tryz.prog 76 #[.agg #[.slice A n1 k1, .slice D n2 k2, .slice E n3 k3], .slice F n4 k4] w fun e w' => e = .returned (.bool (clB R c.V && rightB c)) ∧ Q w w' := by
  subst h1 h2 h3 h4
  have Hf := Lib.hid hf
  obtain ⟨fv, fn, fm⟩ := hf
  have q0 := (Q.refl w).alloc (Obj.cells #[Value.slice A c.V.length k1, Value.slice D c.N.length k2, Value.slice E c.M.length k3] 29)
  have HB := Lib.hid (Box3.new w (Value.slice A c.V.length k1) (Value.slice D c.N.length k2) (Value.slice E c.M.length k3) 29)
  have HR := Lib.hid (h.q q0)
  have HRk := Lib.hid (hR.q q0)
  clear h hR
  go_enter Tryz.func76, Tryz.ntmps76
  go_wp2_with fail
  generalize w.alloc (Obj.cells #[Value.slice A c.V.length k1, Value.slice D c.N.length k2, Value.slice E c.M.length k3] 29) = W0 at *
  have b0 := HB.out.c0
  have b1 := HB.out.c1
  have b2 := HB.out.c2
  go_loopw [5] (fun i wr => ∃ k : Nat, k ≤ c.V.length ∧ i = .int .i64 k ∧ Hid (∀ n, n < k → okB R c.V n = true) ∧ W0 = wr) (fun i _ => c.V.length - (intOf i).toNat)
  case atStart => exact ⟨0, Nat.zero_le _, rfl, Lib.hid (fun n hn => absurd hn (by omega)), rfl⟩
  case round =>
    obtain ⟨k, hk, rfl, HH, rfl⟩ := hrel
    by_cases hlt : k < c.V.length
    · obtain ⟨ad, e, hb, c0⟩ := HR.out.v.int_at hlt
      have HE := Lib.hid e
      clear e
      have hget : c.V.getD k 0 = c.V[k] := by rw [List.getD_eq_getElem?_getD, List.getElem?_eq_getElem hlt]; rfl
      have HO : Hid (okB R c.V k = ((c.V[k] == (k : Int)) || (decide (0 ≤ c.V[k]) && decide (c.V[k] < c.V.length) && lessB R c.V[k] k))) := by unfold Hid okB; rw [hget]
      clear hget
      have HN : Hid (okB R c.V k = true → ∀ n, n < k + 1 → okB R c.V n = true) := fun hk n hn => by
        by_cases e : n = k
        · subst e; exact hk
        · exact HH.out n (by omega)
      have HZ : Hid (okB R c.V k = false → clB R c.V = false) := fun hk => decide_eq_false (fun h => by have := h k hlt; rw [hk] at this; cases this)
      have b0' : W0.cell? ⟨w.heap.size, 0, none⟩ = some (.slice (some ad) c.V.length k1) := by rw [← HE.out]; exact b0
      generalize c.V[k] = x at *
      by_cases x1 : x = (k : Int)
      · have HK := HN.out (by rw [HO.out, x1]; simp)
        have d1 : (x == (k : Int)) = true := by simpa using x1
        have HK := Lib.hid HK
        clear x1 b0
        go_wp2_with fail
        go_roundw
        case rel => exact ⟨k + 1, by omega, by go_num, HK, trivial⟩
        case measure => simp [intOf]; omega
      · have d1 : (x == (k : Int)) = false := by simpa using x1
        have HO : Hid (okB R c.V k = (decide (0 ≤ x) && decide (x < c.V.length) && lessB R x k)) := by have := HO.out; rw [d1, Bool.false_or] at this; exact this
        clear x1
        by_cases x2 : x < 0
        · have HF := Lib.hid (HZ.out (by rw [HO.out, decide_eq_false (by omega)]; rfl))
          have d2 : decide (x < 0) = true := decide_eq_true x2
          clear x2 b0
          go_wp2_with fail
          go_ret
          exact ⟨by rw [HF.out]; rfl, q0⟩
        · have d2 : decide (x < 0) = false := decide_eq_false x2
          by_cases x3 : (c.V.length : Int) ≤ x
          · have HF := Lib.hid (HZ.out (by rw [HO.out, decide_eq_false (show ¬ x < (c.V.length : Int) by omega), Bool.and_false]; rfl))
            have d3 : decide ((c.V.length : Int) ≤ x) = true := decide_eq_true x3
            clear x2 x3 b0
            go_wp2_with fail
            go_ret
            exact ⟨by rw [HF.out]; rfl, q0⟩
          · have d3 : decide ((c.V.length : Int) ≤ x) = false := decide_eq_false x3
            have C := Lib.hid (refLess_any R F _ k4 x k W0 rfl HRk.out)
            cases hls : lessB R x k
            · have HF := Lib.hid (HZ.out (by rw [HO.out, hls, Bool.and_false]))
              rw [hls] at C
              clear x2 x3 b0 hls
              go_wp2_with (go_at_call 110; refine C.out.mono ?_; rintro e w2 ⟨rfl, rfl⟩)
              go_ret
              exact ⟨by rw [HF.out]; rfl, q0⟩
            · have HK := Lib.hid (HN.out (by rw [HO.out, hls, decide_eq_true (show (0 : Int) ≤ x by omega), decide_eq_true (show x < (c.V.length : Int) by omega)]; rfl))
              rw [hls] at C
              clear x2 x3 b0 hls
              go_wp2_with (go_at_call 110; refine C.out.mono ?_; rintro e w2 ⟨rfl, rfl⟩)
              go_roundw
              case rel => exact ⟨k + 1, by omega, by go_num, HK, trivial⟩
              case measure => simp [intOf]; omega
    · have HT : Hid (clB R c.V = true) := decide_eq_true (fun n hn => HH.out n (by omega))
      have C := Lib.hid (refRight_any c A D E _ k1 _ k2 _ k3 W0 rfl rfl rfl HR.out Hf.out)
      go_wp2_with (go_at_call 144; refine C.out.mono ?_; rintro e w2 ⟨rfl, q2⟩)
      go_ret
      exact ⟨by rw [HT.out]; rfl, q0.trans q2⟩
end Go.Proofs.YtnifmfdlocgefaaGreat.Uf

namespace Go.Proofs.YtnifmfdlocgefaaGreat.Ig
open Go.RowKit Kit Tr Uf
open Go.Proofs.YtnifmfdlocgefaaGreat.Hs (Keys Ints atI refAt_any)
theorem root_next {V : List Int} {j y : Nat} : root V (j + 1) y = root V j (par V y) := by
  show (if par V y = y then y else root V j (par V y)) = _
  by_cases e : par V y = y
  · rw [if_pos e, e, root_stay e]
  · rw [if_neg e]

set_option maxRecDepth 100000 in
set_option maxHeartbeats 1000000 in
theorem refFind_any (R V : List Int) (m : Nat) (A : Option Addr) (n1 k1 : Nat) (b d : Value) (w : World) (h1 : n1 = V.length) (h : Tr.Rds w w.heap.size A (cellsI V)) (hC : Cl R V) (hm : m < V.length) (hl : V.length ≤ 1000000) :
    Calls Tryz.prog 27 #[.agg #[.slice A n1 k1, b, d], .int .i64 (m : Int)] w fun e w' => e = .returned (.int .i64 (fst V m : Int)) ∧ Q w w' := by
  subst h1
  have q0 := (Q.refl w).alloc (Obj.cells #[Value.slice A V.length k1, b, d] 29)
  have HB := Lib.hid (Box3.new w (Value.slice A V.length k1) b d 29)
  have HR := Lib.hid (h.q q0)
  have HC := Lib.hid hC
  have HF : Hid (root V (V.length - 0) m = fst V m) := rfl
  clear h hC
  go_enter Tryz.func27, Tryz.ntmps27
  go_wp2_with fail
  generalize w.alloc (Obj.cells #[Value.slice A V.length k1, b, d] 29) = W0 at *
  have b0 := HB.out.c0
  go_loopw [1, 5] (fun x i wr => ∃ (k y : Nat), k ≤ V.length ∧ y < V.length ∧ i = .int .i64 k ∧ x = .int .i64 (y : Int) ∧ Hid (root V (V.length - k) y = fst V m) ∧ W0 = wr) (fun _ i _ => V.length - (intOf i).toNat)
  case atStart => exact ⟨0, m, Nat.zero_le _, hm, rfl, rfl, HF, rfl⟩
  case round =>
    clear HF
    obtain ⟨k, y, hk, hy, rfl, rfl, HH, rfl⟩ := hrel
    by_cases hlt : k < V.length
    · obtain ⟨p1, p2, _⟩ := HC.out.parent hy
      obtain ⟨ad, e, hb, c0⟩ := HR.out.int_at hy
      rw [HC.out.at hy] at c0
      have HF : Hid (root V (V.length - (k + 1)) (par V y) = fst V m) := by
        have := HH.out
        rw [show V.length - k = (V.length - (k + 1)) + 1 by omega, root_next] at this
        exact this
      have b0' : W0.cell? ⟨w.heap.size, 0, none⟩ = some (.slice (some ad) V.length k1) := by rw [← e]; exact b0
      clear p2 b0 e
      go_wp2_with fail
      go_roundw
      case rel => exact ⟨k + 1, par V y, by omega, p1, by go_num, rfl, HF, trivial⟩
      case measure => simp [intOf]; omega
    · have HF : Hid (y = fst V m) := by
        have := HH.out
        rw [show V.length - k = 0 by omega] at this
        exact this
      go_wp2_with fail
      go_ret
      exact ⟨by rw [← HF.out]; rfl, q0⟩
end Go.Proofs.YtnifmfdlocgefaaGreat.Ig

namespace Go.Proofs.YtnifmfdlocgefaaGreat.Ig
open Go.RowKit Kit Tr Uf
open Go.Proofs.YtnifmfdlocgefaaGreat.Hs (Keys Ints atI refAt_any BoxT)
open Go.Proofs.YtnifmfdlocgefaaGreat.Tm (Tm termAt refOf_any Box4)
/-- the place of a variable's term -/
def atV (ks : List (List Int)) (n : Int) : Int := atI ks [2, n, 0]
/-- a term's variable, if it is one of the first m -/
def numV (ks : List (List Int)) (m : Nat) (id : Int) : Int :=
  let t := (termAt ks id).getD Tm.none
  if (termAt ks id).isSome = true ∧ t.k = 2 ∧ t.s < (m : Int) then t.s else -1
/-- the one for a term -/
def repV (ks : List (List Int)) (V : List Int) (id : Int) : Int :=
  if numV ks V.length id < 0 then id else atV ks (fst V (numV ks V.length id).toNat : Int)

theorem key_ints (w : World) (x : Int) (t : TypeId) : Ints (w.alloc (.cells #[.int .i64 2, .int .i64 x, .int .i64 0] t)) (w.alloc (.cells #[.int .i64 2, .int .i64 x, .int .i64 0] t)).heap.size (some ⟨w.heap.size, 0, none⟩) [2, x, 0] := fun _ => by
  refine ⟨_, rfl, by simp, fun i y h => ?_⟩
  match i, h with
  | 0, h => simp at h; subst h; simp [Addr.add]
  | 1, h => simp at h; subst h; simp [Addr.add]
  | 2, h => simp at h; subst h; simp [Addr.add]
  | i + 3, h => simp at h

set_option maxRecDepth 100000 in
set_option maxHeartbeats 1000000 in
theorem refAtV_any (A : Option Addr) (n c : Nat) (b : Value) (ks : List (List Int)) (x : Int) (w : World) (hn : n = ks.length) (hk : Keys w w.heap.size A ks) (hl : ks.length ≤ maxLen) (hs : ∀ k ∈ ks, k.length ≤ maxLen) :
    Calls Tryz.prog 53 #[.agg #[.slice A n c, b], .int .i64 x] w fun e w' => e = .returned (.int .i64 (atV ks x)) ∧ Q w w' := by
  subst hn
  have q0 := (Q.refl w).alloc (Obj.cells #[Value.slice A ks.length c, b] 26)
  have HB := Lib.hid (BoxT.new w (Value.slice A ks.length c) b 26)
  have Hk := Lib.hid ((hk.q (Nat.le_refl _) q0).more q0.size)
  clear hk
  go_enter Tryz.func53, Tryz.ntmps53
  go_upto_region 1 with fail
  generalize w.alloc (Obj.cells #[Value.slice A ks.length c, b] 26) = W0 at *
  have b0 := HB.out.c0
  have q1 := (Q.refl W0).alloc (Obj.cells #[.int .i64 2, .int .i64 x, .int .i64 0] 3)
  have C := Lib.hid (refAt_any A (some ⟨W0.heap.size, 0, none⟩) _ c 3 3 ks [2, x, 0] (W0.alloc (Obj.cells #[.int .i64 2, .int .i64 x, .int .i64 0] 3)) rfl rfl ((Hk.out.q (Nat.le_refl _) q1).more q1.size) (key_ints W0 x 3) hl hs)
  go_wp2_with (go_at_call 94; refine C.out.mono ?_; rintro e w2 ⟨rfl, hd⟩)
  go_ret
  exact ⟨rfl, (q0.trans q1).trans (q_drewN _ hd)⟩
end Go.Proofs.YtnifmfdlocgefaaGreat.Ig

namespace Go.Proofs.YtnifmfdlocgefaaGreat.Ig
open Go.RowKit Kit Tr Uf
open Go.Proofs.YtnifmfdlocgefaaGreat.Hs (Keys Ints atI refAt_any BoxT)
open Go.Proofs.YtnifmfdlocgefaaGreat.Tm (Tm termAt refOf_any Box4)
/-- a graph's box -/
structure Box6 (W : World) (B : Nat) (a b c d e f : Value) : Prop where
  c0 : W.cell? ⟨B, 0, none⟩ = some a
  c1 : W.cell? ⟨B, 1, none⟩ = some b
  c2 : W.cell? ⟨B, 2, none⟩ = some c
  c3 : W.cell? ⟨B, 3, none⟩ = some d
  c4 : W.cell? ⟨B, 4, none⟩ = some e
  c5 : W.cell? ⟨B, 5, none⟩ = some f
  lt : B < W.heap.size
theorem Box6.q {W W' : World} {B : Nat} {a b c d e f : Value} (h : Box6 W B a b c d e f) (q : Q W W') : Box6 W' B a b c d e f :=
  ⟨(q.cell (p := ⟨B, 0, none⟩) h.lt).trans h.c0, (q.cell (p := ⟨B, 1, none⟩) h.lt).trans h.c1, (q.cell (p := ⟨B, 2, none⟩) h.lt).trans h.c2, (q.cell (p := ⟨B, 3, none⟩) h.lt).trans h.c3, (q.cell (p := ⟨B, 4, none⟩) h.lt).trans h.c4, (q.cell (p := ⟨B, 5, none⟩) h.lt).trans h.c5, Nat.lt_of_lt_of_le h.lt q.size⟩
theorem Box6.new (w : World) (a b c d e f : Value) (t : TypeId) : Box6 (w.alloc (.cells #[a, b, c, d, e, f] t)) w.heap.size a b c d e f := ⟨by simp, by simp, by simp, by simp, by simp, by simp, by simp⟩

set_option maxRecDepth 100000 in
set_option maxHeartbeats 2000000 in
theorem refNumber_any (A S Av : Option Addr) (n c m d nv cv : Nat) (r b1 b2 b3 b4 : Value) (ks : List (List Int)) (id : Int) (w : World) (hn : n = ks.length) (hk : Keys w w.heap.size A ks) :
    Calls Tryz.prog 104 #[.agg #[.slice A n c, .slice S m d], .agg #[r, .slice Av nv cv, b1, b2, b3, b4], .int .i64 id] w fun e w' => e = .returned (.int .i64 (numV ks nv id)) ∧ Q w w' := by
  subst hn
  have q0 := ((Q.refl w).alloc (Obj.cells #[Value.slice A ks.length c, Value.slice S m d] 26)).alloc (Obj.cells #[r, Value.slice Av nv cv, b1, b2, b3, b4] 31)
  have HB := Lib.hid ((BoxT.new w (Value.slice A ks.length c) (Value.slice S m d) 26).q ((Q.refl _).alloc (Obj.cells #[r, Value.slice Av nv cv, b1, b2, b3, b4] 31)))
  have X := Box6.new (w.alloc (Obj.cells #[Value.slice A ks.length c, Value.slice S m d] 26)) r (Value.slice Av nv cv) b1 b2 b3 b4 31
  rw [World.size_alloc] at X
  have HG := Lib.hid X
  have Hk := Lib.hid ((hk.q (Nat.le_refl _) q0).more q0.size)
  have HN : Hid (numV ks nv id = if (termAt ks id).isSome = true ∧ ((termAt ks id).getD Tm.none).k = 2 ∧ ((termAt ks id).getD Tm.none).s < (nv : Int) then ((termAt ks id).getD Tm.none).s else -1) := rfl
  clear hk X
  go_enter Tryz.func104, Tryz.ntmps104
  go_upto_region 1 with fail
  generalize (w.alloc (Obj.cells #[Value.slice A ks.length c, Value.slice S m d] 26)).alloc (Obj.cells #[r, Value.slice Av nv cv, b1, b2, b3, b4] 31) = W0 at *
  have b0 := HB.out.c0
  have b1' := HB.out.c1
  have C := Lib.hid (refOf_any A S _ c m d ks id W0 rfl Hk.out)
  go_upto_region 2 with (go_at_call 123; refine C.out.mono ?_; rintro e w2 ⟨At, nt, ct, rfl, rfl, _, q1⟩)
  generalize (termAt ks id).isSome = is at *
  generalize (termAt ks id).getD Tm.none = t at *
  have qt := q1.alloc (Obj.cells #[.int .i64 t.k, .int .i64 t.s, .int .i64 t.p, .slice At t.xs.length ct] 175)
  have g1 := (HG.out.q qt).c1
  have X := Box4.new w2 (.int .i64 t.k) (.int .i64 t.s) (.int .i64 t.p) (.slice At t.xs.length ct) 175
  have x0 := X.c0
  have HQt := Lib.hid qt
  have x1 := X.c1
  clear X C b0 b1' q1
  cases is
  · have HF : Hid (numV ks nv id = -1) := by unfold Hid; rw [HN.out, if_neg (fun h => by cases h.1)]
    go_wp2_with fail
    go_ret
    exact ⟨by rw [HF.out]; rfl, q0.trans qt⟩
  · by_cases h2 : t.k = 2
    · have e2 : (t.k != 2) = false := by simp [h2]
      by_cases hs : t.s < (nv : Int)
      · have d1 : decide ((nv : Int) ≤ t.s) = false := decide_eq_false (by omega)
        have HF : Hid (numV ks nv id = t.s) := by unfold Hid; rw [HN.out, if_pos ⟨rfl, h2, hs⟩]
        clear h2 hs
        go_wp2_with fail
        go_ret
        exact ⟨by rw [HF.out]; rfl, q0.trans qt⟩
      · have d1 : decide ((nv : Int) ≤ t.s) = true := decide_eq_true (by omega)
        have HF : Hid (numV ks nv id = -1) := by unfold Hid; rw [HN.out, if_neg (fun h => hs h.2.2)]
        clear h2 hs
        go_wp2_with fail
        go_ret
        exact ⟨by rw [HF.out]; rfl, q0.trans qt⟩
    · have e2 : (t.k != 2) = true := by simpa using h2
      have HF : Hid (numV ks nv id = -1) := by unfold Hid; rw [HN.out, if_neg (fun h => h2 h.2.1)]
      clear h2
      go_wp2_with fail
      go_ret
      exact ⟨by rw [HF.out]; rfl, q0.trans qt⟩

theorem numV_lt {ks : List (List Int)} {m : Nat} {id : Int} (h : ¬ numV ks m id < 0) : (numV ks m id).toNat < m := by
  have e : numV ks m id = if (termAt ks id).isSome = true ∧ ((termAt ks id).getD Tm.none).k = 2 ∧ ((termAt ks id).getD Tm.none).s < (m : Int) then ((termAt ks id).getD Tm.none).s else -1 := rfl
  by_cases c : (termAt ks id).isSome = true ∧ ((termAt ks id).getD Tm.none).k = 2 ∧ ((termAt ks id).getD Tm.none).s < (m : Int)
  · rw [if_pos c] at e
    rw [e] at h ⊢
    have := c.2.2
    omega
  · rw [if_neg c] at e
    omega

set_option maxRecDepth 100000 in
set_option maxHeartbeats 2000000 in
theorem refRep_any (R V : List Int) (A S Av : Option Addr) (n c m d nv cv : Nat) (r b1 b2 b3 b4 : Value) (ks : List (List Int)) (id : Int) (w : World) (hn : n = ks.length) (hk : Keys w w.heap.size A ks) (hl : ks.length ≤ maxLen) (hs : ∀ k ∈ ks, k.length ≤ maxLen)
    (hnv : nv = V.length) (hv : Tr.Rds w w.heap.size Av (cellsI V)) (hC : Cl R V) (hlv : V.length ≤ 1000000) :
    Calls Tryz.prog 115 #[.agg #[.slice A n c, .slice S m d], .agg #[r, .slice Av nv cv, b1, b2, b3, b4], .int .i64 id] w fun e w' => e = .returned (.int .i64 (repV ks V id)) ∧ Q w w' := by
  subst hn
  subst hnv
  have q0 := ((Q.refl w).alloc (Obj.cells #[Value.slice A ks.length c, Value.slice S m d] 26)).alloc (Obj.cells #[r, Value.slice Av V.length cv, b1, b2, b3, b4] 31)
  have HB := Lib.hid ((BoxT.new w (Value.slice A ks.length c) (Value.slice S m d) 26).q ((Q.refl _).alloc (Obj.cells #[r, Value.slice Av V.length cv, b1, b2, b3, b4] 31)))
  have X := Box6.new (w.alloc (Obj.cells #[Value.slice A ks.length c, Value.slice S m d] 26)) r (Value.slice Av V.length cv) b1 b2 b3 b4 31
  rw [World.size_alloc] at X
  have HG := Lib.hid X
  have Hk := Lib.hid ((hk.q (Nat.le_refl _) q0).more q0.size)
  have Hv := Lib.hid (hv.q q0)
  have HP : Hid (repV ks V id = if numV ks V.length id < 0 then id else atV ks (fst V (numV ks V.length id).toNat : Int)) := rfl
  have HL := fun h => numV_lt (ks := ks) (m := V.length) (id := id) h
  clear hk hv X
  go_enter Tryz.func115, Tryz.ntmps115
  go_upto_region 1 with fail
  generalize (w.alloc (Obj.cells #[Value.slice A ks.length c, Value.slice S m d] 26)).alloc (Obj.cells #[r, Value.slice Av V.length cv, b1, b2, b3, b4] 31) = W0 at *
  have b0 := HB.out.c0
  have b1' := HB.out.c1
  have g0 := HG.out.c0
  have g1 := HG.out.c1
  have g2 := HG.out.c2
  have g3 := HG.out.c3
  have g4 := HG.out.c4
  have g5 := HG.out.c5
  have C := Lib.hid (refNumber_any A S Av _ c m d V.length cv r b1 b2 b3 b4 ks id W0 rfl Hk.out)
  go_upto_region 2 with (go_at_call 104; refine C.out.mono ?_; rintro e w2 ⟨rfl, q1⟩)
  generalize numV ks V.length id = x at *
  clear b0 b1' g0 g1 g2 g3 g4 g5 C
  by_cases hx : x < 0
  · have d0 : decide (x < 0) = true := decide_eq_true hx
    have HF : Hid (repV ks V id = id) := by unfold Hid; rw [HP.out, if_pos hx]
    clear hx HL
    go_wp2_with fail
    go_ret
    exact ⟨by rw [HF.out]; rfl, q0.trans q1⟩
  · have d0 : decide (x < 0) = false := decide_eq_false hx
    have HF : Hid (repV ks V id = atV ks (fst V x.toNat : Int)) := by unfold Hid; rw [HP.out, if_neg hx]
    have hm := HL (by omega)
    obtain ⟨y, rfl⟩ : ∃ y : Nat, x = (y : Int) := ⟨x.toNat, by omega⟩
    rw [Int.toNat_natCast] at HF hm
    have HBq := Lib.hid (HB.out.q q1)
    have HGq := Lib.hid (HG.out.q q1)
    have Hkq := Lib.hid ((Hk.out.q (Nat.le_refl _) q1).more q1.size)
    have Hvq := Lib.hid (Hv.out.q q1)
    have b0 := HBq.out.c0
    have b1' := HBq.out.c1
    have g1 := HGq.out.c1
    have g2 := HGq.out.c2
    have g3 := HGq.out.c3
    have l0 := HBq.out.lt
    have l1 := HGq.out.lt
    have CF : Hid (∀ W, Q w2 W → Calls Tryz.prog 27 #[.agg #[.slice Av V.length cv, b1, b2], .int .i64 (y : Int)] W fun e W' => e = .returned (.int .i64 (fst V y : Int)) ∧ Q W W') := fun W q => refFind_any R V y Av V.length cv b1 b2 W rfl (Hvq.out.q q) hC hm hlv
    have CA : Hid (∀ W, Q w2 W → Calls Tryz.prog 53 #[.agg #[.slice A ks.length c, .slice S m d], .int .i64 (fst V y : Int)] W fun e W' => e = .returned (.int .i64 (atV ks (fst V y : Int))) ∧ Q W W') := fun W q => refAtV_any A _ c (.slice S m d) ks _ W rfl ((Hkq.out.q (Nat.le_refl _) q).more q.size) hl hs
    clear hx HL hm hl hs hC hlv
    go_upto_region 4 with fail
    go_region_held3 (fun w' => w'.cell? ⟨w.heap.size, 0, none⟩ = some (.slice A ks.length c) ∧ w'.cell? ⟨w.heap.size, 1, none⟩ = some (.slice S m d) ∧ w'.cell? ⟨w.heap.size + 1, 1, none⟩ = some (.slice Av V.length cv) ∧ w'.cell? ⟨w.heap.size + 1, 2, none⟩ = some b1 ∧ w'.cell? ⟨w.heap.size + 1, 3, none⟩ = some b2)
      (first
        | go_keep
        | exact ⟨(p3.cell (p := ⟨w.heap.size, 0, none⟩) l0).trans b0, (p3.cell (p := ⟨w.heap.size, 1, none⟩) l0).trans b1', (p3.cell (p := ⟨w.heap.size + 1, 1, none⟩) l1).trans g1, (p3.cell (p := ⟨w.heap.size + 1, 2, none⟩) l1).trans g2, (p3.cell (p := ⟨w.heap.size + 1, 3, none⟩) l1).trans g3⟩
        | exact ⟨(p2.cell (p := ⟨w.heap.size, 0, none⟩) l0).trans b0, (p2.cell (p := ⟨w.heap.size, 1, none⟩) l0).trans b1', (p2.cell (p := ⟨w.heap.size + 1, 1, none⟩) l1).trans g1, (p2.cell (p := ⟨w.heap.size + 1, 2, none⟩) l1).trans g2, (p2.cell (p := ⟨w.heap.size + 1, 3, none⟩) l1).trans g3⟩)
      (first
        | (go_at_call 27; (with_reducible refine (CF.out _ (Q.refl w2).drew).mono ?_); rintro e w3 ⟨rfl, q2⟩; have p2 : Q w2 w3 := (Q.refl w2).drew.trans q2)
        | (go_at_call 53; (with_reducible refine (CA.out _ p2).mono ?_); rintro e w4 ⟨rfl, q3⟩; have p3 : Q w2 w4 := p2.trans q3))
    go_wp2_with fail
    go_ret
    exact ⟨by rw [HF.out]; rfl, (q0.trans q1).trans p3⟩
end Go.Proofs.YtnifmfdlocgefaaGreat.Ig

namespace Go.Proofs.YtnifmfdlocgefaaGreat.Ig
open Go.RowKit Kit Tr Uf
open Go.Proofs.YtnifmfdlocgefaaGreat.Hs (Keys Ints atI refAt_any BoxT)
open Go.Proofs.YtnifmfdlocgefaaGreat.Tm (Tm termAt refOf_any Box4)
/-- may a kind stand in a row of those that are less, greater -/
def kindV (k : Int) (less : Bool) : Bool := if less then (k == 1) || (k == 3) else (k == 0) || (k == 3) || (k == 6)
/-- may a term stand in a variable's row -/
def mayV (R : List Int) (ks : List (List Int)) (m : Nat) (id v : Int) (less : Bool) : Bool :=
  if 0 ≤ numV ks m id then lessB R (numV ks m id) v else (termAt ks id).isSome && kindV ((termAt ks id).getD Tm.none).k less

set_option maxRecDepth 100000 in
set_option maxHeartbeats 4000000 in
theorem refMayV_any (R : List Int) (A S F Av : Option Addr) (n c m d nr cr nv cv : Nat) (b1 b2 b3 b4 : Value) (ks : List (List Int)) (id v : Int) (less : Bool) (w : World) (hn : n = ks.length) (hk : Keys w w.heap.size A ks) (hnr : nr = R.length) (hR : Tr.Rds w w.heap.size F (cellsI R)) :
    Calls Tryz.prog 116 #[.agg #[.slice A n c, .slice S m d], .agg #[.slice F nr cr, .slice Av nv cv, b1, b2, b3, b4], .int .i64 id, .int .i64 v, .bool less] w fun e w' => e = .returned (.bool (mayV R ks nv id v less)) ∧ Q w w' := by
  subst hn
  subst hnr
  have q0 := ((Q.refl w).alloc (Obj.cells #[Value.slice A ks.length c, Value.slice S m d] 26)).alloc (Obj.cells #[Value.slice F R.length cr, Value.slice Av nv cv, b1, b2, b3, b4] 31)
  have HB := Lib.hid ((BoxT.new w (Value.slice A ks.length c) (Value.slice S m d) 26).q ((Q.refl _).alloc (Obj.cells #[Value.slice F R.length cr, Value.slice Av nv cv, b1, b2, b3, b4] 31)))
  have X := Box6.new (w.alloc (Obj.cells #[Value.slice A ks.length c, Value.slice S m d] 26)) (Value.slice F R.length cr) (Value.slice Av nv cv) b1 b2 b3 b4 31
  rw [World.size_alloc] at X
  have HG := Lib.hid X
  have Hk := Lib.hid ((hk.q (Nat.le_refl _) q0).more q0.size)
  have HR := Lib.hid (hR.q q0)
  have HN : Hid (mayV R ks nv id v less = if 0 ≤ numV ks nv id then lessB R (numV ks nv id) v else (termAt ks id).isSome && kindV ((termAt ks id).getD Tm.none).k less) := rfl
  clear hk hR X
  go_enter Tryz.func116, Tryz.ntmps116
  go_upto_region 1 with fail
  generalize (w.alloc (Obj.cells #[Value.slice A ks.length c, Value.slice S m d] 26)).alloc (Obj.cells #[Value.slice F R.length cr, Value.slice Av nv cv, b1, b2, b3, b4] 31) = W0 at *
  have b0 := HB.out.c0
  have b1' := HB.out.c1
  have g0 := HG.out.c0
  have g1 := HG.out.c1
  have g2 := HG.out.c2
  have g3 := HG.out.c3
  have g4 := HG.out.c4
  have g5 := HG.out.c5
  have C := Lib.hid (refNumber_any A S Av _ c m d nv cv (.slice F R.length cr) b1 b2 b3 b4 ks id W0 rfl Hk.out)
  go_upto_region 2 with (go_at_call 104; refine C.out.mono ?_; rintro e w2 ⟨rfl, q1⟩)
  generalize numV ks nv id = x at *
  clear b0 b1' g0 g1 g2 g3 g4 g5 C
  by_cases hx : 0 ≤ x
  · have d0 : decide (0 ≤ x) = true := decide_eq_true hx
    have HF : Hid (mayV R ks nv id v less = lessB R x v) := by unfold Hid; rw [HN.out, if_pos hx]
    have g0 := (HG.out.q q1).c0
    have CL := Lib.hid (refLess_any R F _ cr x v w2 rfl (HR.out.q q1))
    clear hx HN
    go_wp2_with (go_at_call 110; refine CL.out.mono ?_; rintro e w3 ⟨rfl, rfl⟩)
    go_ret
    exact ⟨by rw [HF.out]; rfl, q0.trans q1⟩
  · have d0 : decide (0 ≤ x) = false := decide_eq_false hx
    have HF : Hid (mayV R ks nv id v less = ((termAt ks id).isSome && kindV ((termAt ks id).getD Tm.none).k less)) := by unfold Hid; rw [HN.out, if_neg hx]
    have b0 := (HB.out.q q1).c0
    have b1' := (HB.out.q q1).c1
    have C := Lib.hid (refOf_any A S _ c m d ks id w2 rfl ((Hk.out.q (Nat.le_refl _) q1).more q1.size))
    clear hx HN
    go_upto_region 5 with (go_at_call 123; refine C.out.mono ?_; rintro e w3 ⟨At, nt, ct, rfl, rfl, _, q2⟩)
    generalize (termAt ks id).isSome = is at *
    generalize (termAt ks id).getD Tm.none = t at *
    have qt := q2.alloc (Obj.cells #[.int .i64 t.k, .int .i64 t.s, .int .i64 t.p, .slice At t.xs.length ct] 175)
    have X := Box4.new w3 (.int .i64 t.k) (.int .i64 t.s) (.int .i64 t.p) (.slice At t.xs.length ct) 175
    have x0 := X.c0
    clear X C b0 b1' q2
    cases is
    · go_wp2_with fail
      go_ret
      exact ⟨by rw [HF.out]; rfl, (q0.trans q1).trans qt⟩
    · cases less
      · have HF : Hid (mayV R ks nv id v false = ((t.k == 0) || (t.k == 3) || (t.k == 6))) := by unfold Hid; rw [HF.out]; rfl
        cases e0 : t.k == 0 <;> cases e3 : t.k == 3 <;> cases e6 : t.k == 6
        all_goals
          rw [e0, e3, e6] at HF
          go_wp2_with fail
          go_ret
          exact ⟨by rw [HF.out]; rfl, (q0.trans q1).trans qt⟩
      · have HF : Hid (mayV R ks nv id v true = ((t.k == 1) || (t.k == 3))) := by unfold Hid; rw [HF.out]; rfl
        cases e1 : t.k == 1 <;> cases e3 : t.k == 3
        all_goals
          rw [e1, e3] at HF
          go_wp2_with fail
          go_ret
          exact ⟨by rw [HF.out]; rfl, (q0.trans q1).trans qt⟩
end Go.Proofs.YtnifmfdlocgefaaGreat.Ig

namespace Go.Proofs.YtnifmfdlocgefaaGreat.Ig
open Go.RowKit Kit Tr Uf
open Go.Proofs.YtnifmfdlocgefaaGreat.Hs (Keys Ints atI refAt_any BoxT)
open Go.Proofs.YtnifmfdlocgefaaGreat.Tm (Tm termAt refOf_any Box4)
/-- a place of a row: it may stand there, and rises -/
def okV (R : List Int) (ks : List (List Int)) (m : Nat) (v : Int) (less : Bool) (l : List Int) (i : Nat) : Bool :=
  mayV R ks m (l.getD i 0) v less && (decide (i = 0) || decide (l.getD (i - 1) 0 < l.getD i 0))
def rowV (R : List Int) (ks : List (List Int)) (m : Nat) (v : Int) (less : Bool) (l : List Int) : Bool := decide (∀ i, i < l.length → okV R ks m v less l i = true)
theorem getD_at {l : List Int} {k : Nat} (h : k < l.length) : l.getD k 0 = l[k] := by rw [List.getD_eq_getElem?_getD, List.getElem?_eq_getElem h]; rfl

set_option maxRecDepth 100000 in
set_option maxHeartbeats 4000000 in
theorem refRowV_any (R : List Int) (A S F Av B : Option Addr) (n c m d nr cr nv cv nl cl : Nat) (b1 b2 b3 b4 : Value) (ks : List (List Int)) (l : List Int) (v : Int) (less : Bool) (w : World) (hn : n = ks.length) (hk : Keys w w.heap.size A ks) (hnr : nr = R.length) (hR : Tr.Rds w w.heap.size F (cellsI R))
    (hnl : nl = l.length) (hB : Tr.Rds w w.heap.size B (cellsI l)) (hll : l.length ≤ 1000000) :
    Calls Tryz.prog 77 #[.agg #[.slice A n c, .slice S m d], .agg #[.slice F nr cr, .slice Av nv cv, b1, b2, b3, b4], .slice B nl cl, .int .i64 v, .bool less] w fun e w' => e = .returned (.bool (rowV R ks nv v less l)) ∧ Q w w' := by
  subst hn
  subst hnr
  subst hnl
  have q0 := ((Q.refl w).alloc (Obj.cells #[Value.slice A ks.length c, Value.slice S m d] 26)).alloc (Obj.cells #[Value.slice F R.length cr, Value.slice Av nv cv, b1, b2, b3, b4] 31)
  have HB := Lib.hid ((BoxT.new w (Value.slice A ks.length c) (Value.slice S m d) 26).q ((Q.refl _).alloc (Obj.cells #[Value.slice F R.length cr, Value.slice Av nv cv, b1, b2, b3, b4] 31)))
  have X := Box6.new (w.alloc (Obj.cells #[Value.slice A ks.length c, Value.slice S m d] 26)) (Value.slice F R.length cr) (Value.slice Av nv cv) b1 b2 b3 b4 31
  rw [World.size_alloc] at X
  have HG := Lib.hid X
  have Hk := Lib.hid ((hk.q (Nat.le_refl _) q0).more q0.size)
  have HR := Lib.hid (hR.q q0)
  have HL := Lib.hid (hB.q q0)
  have HN : Hid (rowV R ks nv v less l = decide (∀ i, i < l.length → okV R ks nv v less l i = true)) := rfl
  clear hk hR hB X
  go_enter Tryz.func77, Tryz.ntmps77
  go_upto_region 1 with fail
  generalize (w.alloc (Obj.cells #[Value.slice A ks.length c, Value.slice S m d] 26)).alloc (Obj.cells #[Value.slice F R.length cr, Value.slice Av nv cv, b1, b2, b3, b4] 31) = W0 at *
  go_wp2_with fail
  go_loopw [11] (fun i wr => ∃ k : Nat, k ≤ l.length ∧ i = .int .i64 k ∧ Hid (∀ i, i < k → okV R ks nv v less l i = true) ∧ Hid (Q W0 wr)) (fun i _ => l.length - (intOf i).toNat)
  case atStart => exact ⟨0, Nat.zero_le _, rfl, Lib.hid (fun n hn => absurd hn (by omega)), Lib.hid (Q.refl _)⟩
  case round =>
    obtain ⟨k, hk, rfl, HH, HQ⟩ := hrel
    have HBr := Lib.hid (HB.out.q HQ.out)
    have HGr := Lib.hid (HG.out.q HQ.out)
    have HLr := Lib.hid (HL.out.q HQ.out)
    have b0 := HBr.out.c0
    have b1' := HBr.out.c1
    have g0 := HGr.out.c0
    have g1 := HGr.out.c1
    have g2 := HGr.out.c2
    have g3 := HGr.out.c3
    have g4 := HGr.out.c4
    have g5 := HGr.out.c5
    have l0 := HBr.out.lt
    have l1 := HGr.out.lt
    by_cases hlt : k < l.length
    · obtain ⟨ad, e, hb, c0⟩ := HLr.out.int_at hlt
      subst e
      have hbk : (ad.add k).block < wr.heap.size := by rw [Tr.add_block]; exact hb
      have HO : Hid (okV R ks nv v less l k = (mayV R ks nv l[k] v less && (decide (k = 0) || decide (l.getD (k - 1) 0 < l[k])))) := by unfold Hid okV; rw [getD_at hlt]
      have HK : Hid (okV R ks nv v less l k = true → ∀ n, n < k + 1 → okV R ks nv v less l n = true) := fun hk n hn => by
        by_cases e : n = k
        · subst e; exact hk
        · exact HH.out n (by omega)
      have HZ : Hid (okV R ks nv v less l k = false → rowV R ks nv v less l = false) := fun hk => by rw [HN.out]; exact decide_eq_false (fun h => by have := h k hlt; rw [hk] at this; cases this)
      have CM : Hid (∀ W, Q wr W → Calls Tryz.prog 116 #[.agg #[.slice A ks.length c, .slice S m d], .agg #[.slice F R.length cr, .slice Av nv cv, b1, b2, b3, b4], .int .i64 l[k], .int .i64 v, .bool less] W fun e W' => e = .returned (.bool (mayV R ks nv l[k] v less)) ∧ Q W W') := fun W q =>
        refMayV_any R A S F Av _ c m d _ cr nv cv b1 b2 b3 b4 ks l[k] v less W rfl (((Hk.out.q (Nat.le_refl _) (HQ.out.trans q)).more (HQ.out.trans q).size)) rfl (HR.out.q (HQ.out.trans q))
      generalize mayV R ks nv l[k] v less = ok at *
      have j0 : (0 : Int) ≤ (k : Int) := Int.natCast_nonneg _
      have j1 : (k : Int) < (l.length : Int) := by omega
      go_upto_region 4 with fail
      go_region_held3 (fun w' => w'.cell? ⟨w.heap.size, 0, none⟩ = some (.slice A ks.length c) ∧ w'.cell? ⟨w.heap.size, 1, none⟩ = some (.slice S m d) ∧ w'.cell? ⟨w.heap.size + 1, 0, none⟩ = some (.slice F R.length cr) ∧ w'.cell? ⟨w.heap.size + 1, 1, none⟩ = some (.slice Av nv cv) ∧ w'.cell? ⟨w.heap.size + 1, 2, none⟩ = some b1 ∧ w'.cell? ⟨w.heap.size + 1, 3, none⟩ = some b2 ∧ w'.cell? ⟨w.heap.size + 1, 4, none⟩ = some b3 ∧ w'.cell? ⟨w.heap.size + 1, 5, none⟩ = some b4 ∧ w'.cell? (ad.add k) = some (.int .i64 l[k]))
        (first
          | go_keep
          | exact ⟨(p3.cell (p := ⟨w.heap.size, 0, none⟩) l0).trans b0, (p3.cell (p := ⟨w.heap.size, 1, none⟩) l0).trans b1', (p3.cell (p := ⟨w.heap.size + 1, 0, none⟩) l1).trans g0, (p3.cell (p := ⟨w.heap.size + 1, 1, none⟩) l1).trans g1, (p3.cell (p := ⟨w.heap.size + 1, 2, none⟩) l1).trans g2, (p3.cell (p := ⟨w.heap.size + 1, 3, none⟩) l1).trans g3, (p3.cell (p := ⟨w.heap.size + 1, 4, none⟩) l1).trans g4, (p3.cell (p := ⟨w.heap.size + 1, 5, none⟩) l1).trans g5, (p3.cell hbk).trans c0⟩)
        (first
          | (go_at_call 116; (with_reducible refine (CM.out _ (Q.refl wr).drew).mono ?_); rintro e w3 ⟨rfl, q2⟩; have p3 : Q wr w3 := (Q.refl wr).drew.trans q2))
      have c0' := (p3.cell hbk).trans c0
      have Hp := Lib.hid p3
      clear b0 b1' g0 g1 g2 g3 g4 g5 c0 q2 p3 CM
      cases ok
      · have HF := Lib.hid (HZ.out (by rw [HO.out]; rfl))
        go_wp2_with fail
        go_quiet (fail)
        go_wp2_with fail
        go_ret
        exact ⟨by rw [HF.out]; rfl, (q0.trans HQ.out).trans (Hp.out.trans (q_drewN _ ⟨_, rfl⟩))⟩
      · rcases k with _ | k
        · have HF := Lib.hid (HK.out (by rw [HO.out]; rfl))
          go_wp2_with fail
          go_quiet (fail)
          go_wp2_with fail
          go_roundw
          case rel => exact ⟨0 + 1, by omega, by go_num, HF, Lib.hid (HQ.out.trans (Hp.out.trans (q_drewN _ ⟨_, rfl⟩)))⟩
          case measure => simp [intOf]; omega
        · have hk' : k < l.length := by omega
          obtain ⟨ad', e', _, c1⟩ := HLr.out.int_at hk'
          obtain rfl : ad' = ad := by injection e' with e'; exact e'.symm
          have c1' := (Hp.out.cell (by rw [Tr.add_block]; exact hb)).trans c1
          have HO : Hid (okV R ks nv v less l (k + 1) = decide (l[k] < l[k + 1])) := by unfold Hid; rw [HO.out, Bool.true_and, decide_eq_false (by omega), Bool.false_or, show k + 1 - 1 = k by omega, getD_at hk']
          have j2 : ((k : Int) + 1 - 1) = (k : Int) := by omega
          have j3 : decide (0 < (k : Int) + 1) = true := decide_eq_true (by omega)
          have j5 : ((k : Int) + 1).toNat = k + 1 := by omega
          have j6 : (k : Int) + 1 < (l.length : Int) := by omega
          have j7 : (0 : Int) ≤ (k : Int) + 1 := by omega
          have j8 : (k : Int) < (l.length : Int) := by omega
          have j9 : IntKind.i64.wrap (k : Int) = (k : Int) := IntWalk.i64_in _ (by omega)
          have j10 : (0 : Int) ≤ (k : Int) := by omega
          have j4 : IntKind.i64.wrap ((k : Int) + 1 - 1) = (k : Int) := by rw [j2]; exact IntWalk.i64_in _ (by omega)
          have c0' : w3.cell? ⟨ad'.block, ad'.off + (k + 1), none⟩ = some (.int .i64 l[k + 1]) := by have := c0'; simpa [Addr.add] using this
          clear c1 e'
          generalize l[k + 1] = x at *
          generalize l[k] = y at *
          by_cases hxy : y < x
          · have d3 : decide (x ≤ y) = false := decide_eq_false (by omega)
            have HF := Lib.hid (HK.out (by rw [HO.out]; exact decide_eq_true hxy))
            clear hxy
            go_wp2_with fail
            go_quiet (fail)
            go_wp2_with fail
            go_roundw
            case rel => exact ⟨k + 1 + 1, by omega, by go_num, HF, Lib.hid (HQ.out.trans (Hp.out.trans (q_drewN _ ⟨_, rfl⟩)))⟩
            case measure => simp [intOf]; omega
          · have d3 : decide (x ≤ y) = true := decide_eq_true (by omega)
            have HF := Lib.hid (HZ.out (by rw [HO.out]; exact decide_eq_false hxy))
            clear hxy
            go_wp2_with fail
            go_quiet (fail)
            go_wp2_with fail
            go_ret
            exact ⟨by rw [HF.out]; rfl, (q0.trans HQ.out).trans (Hp.out.trans (q_drewN _ ⟨_, rfl⟩))⟩
    · have HF : Hid (rowV R ks nv v less l = true) := by unfold Hid; rw [HN.out]; exact decide_eq_true (fun i hi => HH.out i (by omega))
      clear b0 b1' g0 g1 g2 g3 g4 g5
      go_wp2_with fail
      go_ret
      exact ⟨by rw [HF.out]; rfl, q0.trans HQ.out⟩
end Go.Proofs.YtnifmfdlocgefaaGreat.Ig
