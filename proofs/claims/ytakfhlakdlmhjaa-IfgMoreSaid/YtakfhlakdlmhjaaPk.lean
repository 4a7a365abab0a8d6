/-
  What the proofs lean on, part 11 of 13.
-/
import Derived.Test.YtakfhlakdlmhjaaPa
import Derived.Test.YtakfhlakdlmhjaaPc
import Derived.Test.YtakfhlakdlmhjaaPd
import Derived.Test.YtakfhlakdlmhjaaPh
import Derived.Test.YtakfhlakdlmhjaaPj
import Derived.Laws.StructEq
import Derived.ChangeKeysEq
import Derived.Deep.RegionHeld
import Derived.Laws.EntriesVeiled
import Derived.Deep.RegionHeld3
import Derived.Deep.QuietTactic
import Derived.BigQuiet
namespace Go.Proofs.Ytakfhlakdlmhjaa.Ig
open Go.RowKit Kit Tr Uf
open Go.Proofs.Ytakfhlakdlmhjaa.Hs (Keys Ints BoxT KeysP IntsP)
theorem nils_one (m : Nat) : ∀ u ∈ List.replicate m (Value.slice none 0 0), u.oneCell' = true := fun u hu => by
  rw [List.eq_of_mem_replicate hu]; rfl
def K1 (B O gs : Nat) (b : Nat) : Prop := b ≠ gs ∧ b ≠ O ∧ b ≠ B + 1 ∧ B ≤ b
def K2 (B O : Nat) (b : Nat) : Prop := b ≠ O ∧ b ≠ B + 1 ∧ B ≤ b
/-- More, in the midst: the boxes, the copy, the empty rows -/
structure MoreS (w W : World) (R : List Int) (c : Cells) (P T : List (List Int)) (m : Nat) (F A D E Pa Ta : Option Addr) (cr k1 k2 k3 kp kt g0 g1 g2 g3 gp ep gs es O M : Nat) : Prop where
  box : Box6 W w.heap.size (.slice F R.length cr) (.slice A c.V.length k1) (.slice D c.N.length k2) (.slice E c.M.length k3) (.slice Pa P.length kp) (.slice Ta T.length kt)
  res : BoxW W (w.heap.size + 1) (.slice none 0 0) (.slice none 0 0) (.slice none 0 0) (.slice none 0 0) (.slice none 0 0) (.slice none 0 0)
  out : BoxW W O (.slice (some ⟨g0, 0, none⟩) R.length R.length) (.slice (some ⟨g1, 0, none⟩) c.V.length c.V.length) (.slice (some ⟨g2, 0, none⟩) c.N.length c.N.length) (.slice (some ⟨g3, 0, none⟩) c.M.length c.M.length) (.slice (some ⟨gp, 0, none⟩) P.length P.length) (.slice (some ⟨gs, 0, none⟩) T.length T.length)
  r : OwnC W g0 (cellsI R)
  tp : Tab W gp ep P
  tt : Tab W gs es T
  nil : OwnC W M (List.replicate m (.slice none 0 0))
  ord : w.heap.size + 2 ≤ g0 ∧ g0 < gp ∧ ep ≤ gs ∧ es ≤ O ∧ O < M
  q : Q w W
section
variable {w W : World} {R : List Int} {c : Cells} {P T : List (List Int)} {m : Nat} {F A D E Pa Ta : Option Addr} {cr k1 k2 k3 kp kt g0 g1 g2 g3 gp ep gs es O M : Nat} 
theorem MoreS.held (h : MoreS w W R c P T m F A D E Pa Ta cr k1 k2 k3 kp kt g0 g1 g2 g3 gp ep gs es O M) : W.cell? ⟨w.heap.size, 1, none⟩ = some (.slice A c.V.length k1) ∧ W.cell? ⟨w.heap.size, 2, none⟩ = some (.slice D c.N.length k2) ∧ W.cell? ⟨w.heap.size, 3, none⟩ = some (.slice E c.M.length k3) ∧ W.cell? ⟨O, 4, none⟩ = some (.slice (some ⟨gp, 0, none⟩) P.length P.length) ∧ W.cell? ⟨O, 5, none⟩ = some (.slice (some ⟨gs, 0, none⟩) T.length T.length) :=
  ⟨h.box.c1, h.box.c2, h.box.c3, h.out.c.c4, h.out.c.c5⟩
theorem MoreS.next {W' : World} (h : MoreS w W R c P T m F A D E Pa Ta cr k1 k2 k3 kp kt g0 g1 g2 g3 gp ep gs es O M) (q : Q W W') : MoreS w W' R c P T m F A D E Pa Ta cr k1 k2 k3 kp kt g0 g1 g2 g3 gp ep gs es O M :=
  ⟨h.box.q q, h.res.q q, h.out.q q, h.r.q q, h.tp.q q, h.tt.q q, h.nil.q q, h.ord, h.q.trans q⟩
theorem Box6.grown {W W' : World} {B g : Nat} {a b c d e f : Value} (h : Box6 W B a b c d e f) (hg : W.grownBy W' (some g)) (hne : g ≠ B) : Box6 W' B a b c d e f := by
  have hb : W'.heap[B]? = W.heap[B]? := hg.block B h.lt (fun e => by injection e with e; exact hne e.symm)
  have hc : ∀ i, W'.cell? ⟨B, i, none⟩ = W.cell? ⟨B, i, none⟩ := fun i => World.cell?_of_block (a := ⟨B, i, none⟩) hb
  exact ⟨(hc 0).trans h.c0, (hc 1).trans h.c1, (hc 2).trans h.c2, (hc 3).trans h.c3, (hc 4).trans h.c4, (hc 5).trans h.c5, Nat.lt_of_lt_of_le h.lt hg.size⟩
theorem BoxW.set5 {W : World} {B : Nat} {a b c d e f : Value} (h : BoxW W B a b c d e f) (y z u v t : Value) : BoxW (((((W.setCell ⟨B, 1, none⟩ y).setCell ⟨B, 2, none⟩ z).setCell ⟨B, 3, none⟩ u).setCell ⟨B, 4, none⟩ v).setCell ⟨B, 5, none⟩ t) B a y z u v t :=
  BoxW.own.2 (((((((BoxW.own.1 h).set (s := 1) (by simp) y).set (s := 2) (by simp) z).set (s := 3) (by simp) u).set (s := 4) (by simp) v).set (s := 5) (by simp) t))
theorem set5_grown (W : World) (B : Nat) (b c d e f : Value) : W.grownBy (((((W.setCell ⟨B, 1, none⟩ b).setCell ⟨B, 2, none⟩ c).setCell ⟨B, 3, none⟩ d).setCell ⟨B, 4, none⟩ e).setCell ⟨B, 5, none⟩ f) (some B) :=
  grown_trans (grown_trans (grown_trans (grown_trans (setCell_grown _ _ _ _) (setCell_grown _ _ _ _)) (setCell_grown _ _ _ _)) (setCell_grown _ _ _ _)) (setCell_grown _ _ _ _)
theorem MoreS.gpO (h : MoreS w W R c P T m F A D E Pa Ta cr k1 k2 k3 kp kt g0 g1 g2 g3 gp ep gs es O M) : gp < O ∧ gs < O ∧ O < W.heap.size := by
  have := h.ord
  have := h.tp.lt
  have := h.tt.lt
  have := h.out.c.lt
  omega
theorem MoreS.src (h : MoreS w W R c P T m F A D E Pa Ta cr k1 k2 k3 kp kt g0 g1 g2 g3 gp ep gs es O M) : Src W (some ⟨M, 0, none⟩) (List.replicate m (.slice none 0 0)) := OwnC.src h.nil
theorem MoreS.gpl (h : MoreS w W R c P T m F A D E Pa Ta cr k1 k2 k3 kp kt g0 g1 g2 g3 gp ep gs es O M) : gp ≤ W.heap.size := by have := h.gpO; omega
theorem MoreS.gsl (h : MoreS w W R c P T m F A D E Pa Ta cr k1 k2 k3 kp kt g0 g1 g2 g3 gp ep gs es O M) : gs ≤ W.heap.size := by have := h.gpO; omega
theorem MoreS.kA (h : MoreS w W R c P T m F A D E Pa Ta cr k1 k2 k3 kp kt g0 g1 g2 g3 gp ep gs es O M) : ∀ b, gp ≤ b ∧ b < ep ∨ b = W.heap.size → K1 w.heap.size O gs b := fun b hb => by
  have := h.ord
  have := h.gpO
  have := h.tt.lt
  exact ⟨by omega, by omega, by omega, by omega⟩
theorem MoreS.kB (h : MoreS w W R c P T m F A D E Pa Ta cr k1 k2 k3 kp kt g0 g1 g2 g3 gp ep gs es O M) : ∀ b, gs ≤ b ∧ b < es ∨ b = W.heap.size → K2 w.heap.size O b := fun b hb => by
  have := h.ord
  have := h.gpO
  have := h.tp.lt
  exact ⟨by omega, by omega, by omega⟩
/-- what was laid behind Pre: Pre's own table counts no more -/
structure MoreT (w W : World) (R : List Int) (c : Cells) (P T : List (List Int)) (m : Nat) (F A D E Pa Ta : Option Addr) (cr k1 k2 k3 kp kt g0 g1 g2 g3 gp ep gs es O M : Nat) : Prop where
  box : Box6 W w.heap.size (.slice F R.length cr) (.slice A c.V.length k1) (.slice D c.N.length k2) (.slice E c.M.length k3) (.slice Pa P.length kp) (.slice Ta T.length kt)
  res : BoxW W (w.heap.size + 1) (.slice none 0 0) (.slice none 0 0) (.slice none 0 0) (.slice none 0 0) (.slice none 0 0) (.slice none 0 0)
  out : BoxW W O (.slice (some ⟨g0, 0, none⟩) R.length R.length) (.slice (some ⟨g1, 0, none⟩) c.V.length c.V.length) (.slice (some ⟨g2, 0, none⟩) c.N.length c.N.length) (.slice (some ⟨g3, 0, none⟩) c.M.length c.M.length) (.slice (some ⟨gp, 0, none⟩) P.length P.length) (.slice (some ⟨gs, 0, none⟩) T.length T.length)
  r : OwnC W g0 (cellsI R)
  tt : Tab W gs es T
  nil : OwnC W M (List.replicate m (.slice none 0 0))
  ord : w.heap.size + 2 ≤ g0 ∧ g0 < gp ∧ gp < gs ∧ es ≤ O ∧ O < M
  q : Q w W
theorem MoreS.step {W' : World} (h : MoreS w W R c P T m F A D E Pa Ta cr k1 k2 k3 kp kt g0 g1 g2 g3 gp ep gs es O M) (gr : W.grownBy W' (some gp)) : MoreT w W' R c P T m F A D E Pa Ta cr k1 k2 k3 kp kt g0 g1 g2 g3 gp ep gs es O M := by
  have h1 := h.ord
  have h2 := h.tp.lt
  have h3 := h.tt.lt
  have ne : ∀ g, gp ≠ g → (some gp : Option Nat) ≠ some g := fun g hg e => by injection e with e; exact hg e
  exact ⟨h.box.grown gr (by omega), h.res.grown gr (by omega), h.out.grown gr (by omega), h.r.grown gr (ne _ (by omega)), h.tt.far gr (.inl (by omega)), h.nil.grown gr (ne _ (by omega)), ⟨h1.1, h1.2.1, by omega, h1.2.2.2⟩, grown_q gr h.q (by omega)⟩
theorem MoreT.held (h : MoreT w W R c P T m F A D E Pa Ta cr k1 k2 k3 kp kt g0 g1 g2 g3 gp ep gs es O M) : W.cell? ⟨w.heap.size, 1, none⟩ = some (.slice A c.V.length k1) ∧ W.cell? ⟨w.heap.size, 2, none⟩ = some (.slice D c.N.length k2) ∧ W.cell? ⟨w.heap.size, 3, none⟩ = some (.slice E c.M.length k3) ∧ W.cell? ⟨O, 4, none⟩ = some (.slice (some ⟨gp, 0, none⟩) P.length P.length) ∧ W.cell? ⟨O, 5, none⟩ = some (.slice (some ⟨gs, 0, none⟩) T.length T.length) :=
  ⟨h.box.c1, h.box.c2, h.box.c3, h.out.c.c4, h.out.c.c5⟩
theorem MoreT.src (h : MoreT w W R c P T m F A D E Pa Ta cr k1 k2 k3 kp kt g0 g1 g2 g3 gp ep gs es O M) : Src W (some ⟨M, 0, none⟩) (List.replicate m (.slice none 0 0)) := OwnC.src h.nil
theorem MoreT.gsl (h : MoreT w W R c P T m F A D E Pa Ta cr k1 k2 k3 kp kt g0 g1 g2 g3 gp ep gs es O M) : gs ≤ W.heap.size := by
  have := h.tt.lt
  have := h.tt.le
  omega
theorem MoreT.kB (h : MoreT w W R c P T m F A D E Pa Ta cr k1 k2 k3 kp kt g0 g1 g2 g3 gp ep gs es O M) : ∀ b, gs ≤ b ∧ b < es ∨ b = W.heap.size → K2 w.heap.size O b := fun b hb => by
  have := h.ord
  have := h.tt.lt
  have := h.out.c.lt
  exact ⟨by omega, by omega, by omega⟩
theorem owno_step {w2 w3 W' : World} {c' : Cells} {A3 D3 E3 : Option Addr} {l1 l2 l3 O g : Nat} (h : OutO w2 w3 c' A3 l1 D3 l2 E3 l3) (gr : w3.grownBy W' (some g)) (hO : g < O ∧ gs < O ∧ O < w2.heap.size) : OwnO W' w2.heap.size A3 (cellsI c'.V) ∧ OwnO W' w2.heap.size D3 (cellsP c'.N) ∧ OwnO W' w2.heap.size E3 (cellsI c'.M) ∧ c'.V.length ≤ l1 ∧ c'.N.length ≤ l2 ∧ c'.M.length ≤ l3 ∧ O < w2.heap.size :=
  ⟨OwnO.far h.v gr (by omega), OwnO.far h.n gr (by omega), OwnO.far h.m gr (by omega), h.lv, h.ln, h.lm, hO.2.2⟩
/-- all laid: the boxes, and the answer's rows -/
structure MoreF (w W : World) (R : List Int) (c c' : Cells) (P T : List (List Int)) (F A D E Pa Ta A3 D3 E3 A4 A5 : Option Addr) (cr k1 k2 k3 kp kt l1 l2 l3 c4 c5 g0 g1 g2 g3 gp gs O np nt : Nat) (pl tl : List (List Int)) : Prop where
  boxes : BoxW W O (.slice (some ⟨g0, 0, none⟩) R.length R.length) (.slice (some ⟨g1, 0, none⟩) c.V.length c.V.length) (.slice (some ⟨g2, 0, none⟩) c.N.length c.N.length) (.slice (some ⟨g3, 0, none⟩) c.M.length c.M.length) (.slice (some ⟨gp, 0, none⟩) P.length P.length) (.slice (some ⟨gs, 0, none⟩) T.length T.length) ∧
    BoxW W (w.heap.size + 1) (.slice none 0 0) (.slice none 0 0) (.slice none 0 0) (.slice none 0 0) (.slice none 0 0) (.slice none 0 0)
  box : Box6 W w.heap.size (.slice F R.length cr) (.slice A c.V.length k1) (.slice D c.N.length k2) (.slice E c.M.length k3) (.slice Pa P.length kp) (.slice Ta T.length kt)
  g : GRP W (K2 w.heap.size O) R c' pl tl (some ⟨g0, 0, none⟩) A3 D3 E3 A4 A5 R.length l1 l2 l3 c4 c5
  O2 : w.heap.size + 2 ≤ O
  q : Q w W
theorem MoreF.held {c' : Cells} {A3 D3 E3 A4 A5 : Option Addr} {l1 l2 l3 c4 c5 np nt : Nat} {pl tl : List (List Int)} (h : MoreF w W R c c' P T F A D E Pa Ta A3 D3 E3 A4 A5 cr k1 k2 k3 kp kt l1 l2 l3 c4 c5 g0 g1 g2 g3 gp gs O np nt pl tl) : W.cell? ⟨w.heap.size, 1, none⟩ = some (.slice A c.V.length k1) ∧ W.cell? ⟨w.heap.size, 2, none⟩ = some (.slice D c.N.length k2) ∧ W.cell? ⟨w.heap.size, 3, none⟩ = some (.slice E c.M.length k3) ∧ W.cell? ⟨O, 4, none⟩ = some (.slice (some ⟨gp, 0, none⟩) P.length P.length) ∧ W.cell? ⟨O, 5, none⟩ = some (.slice (some ⟨gs, 0, none⟩) T.length T.length) :=
  ⟨h.box.c1, h.box.c2, h.box.c3, h.boxes.1.c.c4, h.boxes.1.c.c5⟩
theorem more_close {W4 W5 : World} {c' : Cells} {A3 D3 E3 A4 A5 : Option Addr} {l1 l2 l3 c4 c5 B2 : Nat} (h : MoreT w W4 R c P T m F A D E Pa Ta cr k1 k2 k3 kp kt g0 g1 g2 g3 gp ep gs es O M)
    (hO : OwnO W4 B2 A3 (cellsI c'.V) ∧ OwnO W4 B2 D3 (cellsP c'.N) ∧ OwnO W4 B2 E3 (cellsI c'.M) ∧ c'.V.length ≤ l1 ∧ c'.N.length ≤ l2 ∧ c'.M.length ≤ l3 ∧ O < B2)
    (hk4 : KeysP W4 (K1 w.heap.size O gs) A4 (P ++ List.replicate m [])) (hc4 : P.length + m ≤ c4) (hk5 : KeysP W5 (K2 w.heap.size O) A5 (T ++ List.replicate m [])) (hc5 : T.length + m ≤ c5) (gr : W4.grownBy W5 (some gs)) :
    MoreF w W5 R c c' P T F A D E Pa Ta A3 D3 E3 A4 A5 cr k1 k2 k3 kp kt l1 l2 l3 c4 c5 g0 g1 g2 g3 gp gs O (P.length + m) (T.length + m) (P ++ List.replicate m []) (T ++ List.replicate m []) := by
  have h1 := h.ord
  have h3 := h.tt.lt
  obtain ⟨oA, oD, oE, e1, e2, e3, hOB⟩ := hO
  have ne : ∀ g, gs ≠ g → (some gs : Option Nat) ≠ some g := fun g hg e => by injection e with e; exact hg e
  have hK : ∀ b, B2 ≤ b → K2 w.heap.size O b := fun b hb => ⟨by omega, by omega, by omega⟩
  have ag := agree_grown (P := K1 w.heap.size O gs) gr (fun hk => hk.1 rfl)
  refine ⟨⟨h.out.grown gr (by omega), h.res.grown gr (by omega)⟩, h.box.grown gr (by omega), ⟨.of_own (h.r.grown gr (ne _ (by omega))) ⟨by omega, by omega, by omega⟩, .of_owno (OwnO.far oA gr (by omega)) hK, .of_owno (OwnO.far oD gr (by omega)) hK, .of_owno (OwnO.far oE gr (by omega)) hK, hk4.toP ag.1 ag.2 (fun b hb _ => hb.2), hk5, Nat.le_refl _, e1, e2, e3, by simpa using hc4, by simpa using hc5⟩, by omega, grown_q gr h.q (by omega)⟩
end

set_option maxRecDepth 100000 in
set_option maxHeartbeats 8000000 in
theorem more12 (R : List Int) (c : Cells) (P T : List (List Int)) (F A D E Pa Ta : Option Addr) (nr cr n1 k1 n2 k2 n3 k3 np kp nt kt : Nat) (n : Nat) (w : World) (hr : nr = R.length) (h1 : n1 = c.V.length) (h2 : n2 = c.N.length) (h3 : n3 = c.M.length) (hp : np = P.length) (ht : nt = T.length)
    (hR : Tr.Rds w w.heap.size F (cellsI R)) (h : Rd w c A k1 D k2 E k3) (hP : Keys w w.heap.size Pa P) (hT : Keys w w.heap.size Ta T)
    (lR : R.length ≤ 2000) (hf : Few c 2000) (lP : P.length ≤ 2000) (lT : T.length ≤ 2000) (sP : ∀ k ∈ P, k.length ≤ 2000) (sT : ∀ k ∈ T, k.length ≤ 2000) (hn : n ≤ 4000) :
    Calls Try.prog 10 #[.agg #[.slice F nr cr, .slice A n1 k1, .slice D n2 k2, .slice E n3 k3, .slice Pa np kp, .slice Ta nt kt], .int .i64 (n : Int)] w (GAns R (moreC c (n - c.V.length)) (P ++ List.replicate (n - c.V.length) []) (T ++ List.replicate (n - c.V.length) []) w) := by
  subst hr h1 h2 h3 hp ht
  have q0 := ((Q.refl w).alloc (Obj.cells #[.slice F R.length cr, .slice A c.V.length k1, .slice D c.N.length k2, .slice E c.M.length k3, .slice Pa P.length kp, .slice Ta T.length kt] 31)).alloc (Obj.cells #[.slice none 0 0, .slice none 0 0, .slice none 0 0, .slice none 0 0, .slice none 0 0, .slice none 0 0] 31)
  have HB := Lib.hid ((Box6.new w (.slice F R.length cr) (.slice A c.V.length k1) (.slice D c.N.length k2) (.slice E c.M.length k3) (.slice Pa P.length kp) (.slice Ta T.length kt) 31).q ((Q.refl _).alloc (Obj.cells #[.slice none 0 0, .slice none 0 0, .slice none 0 0, .slice none 0 0, .slice none 0 0, .slice none 0 0] 31)))
  have X := BoxW.new (w.alloc (Obj.cells #[.slice F R.length cr, .slice A c.V.length k1, .slice D c.N.length k2, .slice E c.M.length k3, .slice Pa P.length kp, .slice Ta T.length kt] 31)) (.slice none 0 0) (.slice none 0 0) (.slice none 0 0) (.slice none 0 0) (.slice none 0 0) (.slice none 0 0) 31
  rw [World.size_alloc] at X
  have HX := Lib.hid X
  have HZ : Hid (((w.alloc (Obj.cells #[.slice F R.length cr, .slice A c.V.length k1, .slice D c.N.length k2, .slice E c.M.length k3, .slice Pa P.length kp, .slice Ta T.length kt] 31)).alloc (Obj.cells #[.slice none 0 0, .slice none 0 0, .slice none 0 0, .slice none 0 0, .slice none 0 0, .slice none 0 0] 31)).heap.size = w.heap.size + 2) := by unfold Hid; simp
  have HR := Lib.hid (hR.q q0)
  have HC := Lib.hid (h.q q0)
  have HP := Lib.hid ((hP.q (Nat.le_refl _) q0).more q0.size)
  have HT := Lib.hid ((hT.q (Nat.le_refl _) q0).more q0.size)
  have HQ0 := Lib.hid q0
  have HFw := Lib.hid hf
  obtain ⟨i0, hi, hz0, hz1, hz2⟩ := info_parts rowInfo
  have Hi := Lib.hid hi
  have Hz0 := Lib.hid hz0
  have Hz1 := Lib.hid hz1
  have Hz2 := Lib.hid hz2
  clear h X hR hP hT q0 hf hi hz0 hz1 hz2
  go_enter Try.func10, Try.ntmps10
  go_upto_region 1 with fail
  generalize (w.alloc (Obj.cells #[.slice F R.length cr, .slice A c.V.length k1, .slice D c.N.length k2, .slice E c.M.length k3, .slice Pa P.length kp, .slice Ta T.length kt] 31)).alloc (Obj.cells #[.slice none 0 0, .slice none 0 0, .slice none 0 0, .slice none 0 0, .slice none 0 0, .slice none 0 0] 31) = W0 at *
  have b0 := HB.out.c0
  have b1 := HB.out.c1
  have b2 := HB.out.c2
  have b3 := HB.out.c3
  have b4 := HB.out.c4
  have b5 := HB.out.c5
  have CC := Lib.hid (copyOf12 R c P T F A D E Pa Ta _ cr _ k1 _ k2 _ k3 _ kp _ kt W0 rfl rfl rfl rfl rfl rfl HR.out HC.out HP.out HT.out (by omega) ⟨by have := HFw.out.1; omega, by have := HFw.out.2.1; omega, by have := HFw.out.2.2; omega⟩ (by omega) (by omega) (fun k h => Nat.le_trans (sP k h) (by omega)) (fun k h => Nat.le_trans (sT k h) (by omega)))
  go_upto_region 2 with (go_at_call 26; refine CC.out.mono ?_; rintro e w1 ⟨g0, g1, g2, g3, gp, ep, gs, es, rfl, hG⟩; have HG := Lib.hid hG; unfold gVal; clear hG)
  have q2 := (Q.refl w1).alloc (Obj.cells #[(.slice (some ⟨g0, 0, none⟩) R.length R.length), (.slice (some ⟨g1, 0, none⟩) c.V.length c.V.length), (.slice (some ⟨g2, 0, none⟩) c.N.length c.N.length), (.slice (some ⟨g3, 0, none⟩) c.M.length c.M.length), (.slice (some ⟨gp, 0, none⟩) P.length P.length), (.slice (some ⟨gs, 0, none⟩) T.length T.length)] 31)
  have HO2 := Lib.hid (BoxW.new w1 (.slice (some ⟨g0, 0, none⟩) R.length R.length) (.slice (some ⟨g1, 0, none⟩) c.V.length c.V.length) (.slice (some ⟨g2, 0, none⟩) c.N.length c.N.length) (.slice (some ⟨g3, 0, none⟩) c.M.length c.M.length) (.slice (some ⟨gp, 0, none⟩) P.length P.length) (.slice (some ⟨gs, 0, none⟩) T.length T.length) 31)
  have HG2 := Lib.hid (HG.out.next q2)
  have HQ2 := Lib.hid (HG.out.q.trans q2)
  have HEs : Hid (es ≤ w1.heap.size) := HG.out.t.le
  have HZ2 : Hid ((w1.alloc (Obj.cells #[(.slice (some ⟨g0, 0, none⟩) R.length R.length), (.slice (some ⟨g1, 0, none⟩) c.V.length c.V.length), (.slice (some ⟨g2, 0, none⟩) c.N.length c.N.length), (.slice (some ⟨g3, 0, none⟩) c.M.length c.M.length), (.slice (some ⟨gp, 0, none⟩) P.length P.length), (.slice (some ⟨gs, 0, none⟩) T.length T.length)] 31)).heap.size = w1.heap.size + 1) := by unfold Hid; simp
  clear b0 b1 b2 b3 b4 b5 CC q2 HG
  generalize w1.alloc (Obj.cells #[(.slice (some ⟨g0, 0, none⟩) R.length R.length), (.slice (some ⟨g1, 0, none⟩) c.V.length c.V.length), (.slice (some ⟨g2, 0, none⟩) c.N.length c.N.length), (.slice (some ⟨g3, 0, none⟩) c.M.length c.M.length), (.slice (some ⟨gp, 0, none⟩) P.length P.length), (.slice (some ⟨gs, 0, none⟩) T.length T.length)] 31) = W1 at *
  generalize w1.heap.size = O at *
  have HB1 := Lib.hid (HB.out.q HQ2.out)
  have HX1 := Lib.hid (HX.out.q HQ2.out)
  have hN : c.V.length ≤ 2000 := HFw.out.1
  have b1 := HB1.out.c1
  by_cases hle : n ≤ c.V.length
  · have HE : Hid (n - c.V.length = 0) := by unfold Hid; omega
    have o0 := HO2.out.c.c0
    have o1 := HO2.out.c.c1
    have o2 := HO2.out.c.c2
    have o3 := HO2.out.c.c3
    have o4 := HO2.out.c.c4
    have o5 := HO2.out.c.c5
    have x0 := HX1.out.c.c0
    have x1 := HX1.out.c.c1
    have x2 := HX1.out.c.c2
    have x3 := HX1.out.c.c3
    have x4 := HX1.out.c.c4
    have x5 := HX1.out.c.c5
    have xf0 := HX1.out.f0
    have xf1 := HX1.out.f1
    have xf2 := HX1.out.f2
    have xf3 := HX1.out.f3
    have xf4 := HX1.out.f4
    have xf5 := HX1.out.f5
    have bz := HX1.out.set (.slice (some ⟨g0, 0, none⟩) R.length R.length) (.slice (some ⟨g1, 0, none⟩) c.V.length c.V.length) (.slice (some ⟨g2, 0, none⟩) c.N.length c.N.length) (.slice (some ⟨g3, 0, none⟩) c.M.length c.M.length) (.slice (some ⟨gp, 0, none⟩) P.length P.length) (.slice (some ⟨gs, 0, none⟩) T.length T.length)
    have y0 := bz.c.c0
    have y1 := bz.c.c1
    have y2 := bz.c.c2
    have y3 := bz.c.c3
    have y4 := bz.c.c4
    have y5 := bz.c.c5
    have hgr := Lib.hid (set6_grown W1 (w.heap.size + 1) (.slice (some ⟨g0, 0, none⟩) R.length R.length) (.slice (some ⟨g1, 0, none⟩) c.V.length c.V.length) (.slice (some ⟨g2, 0, none⟩) c.N.length c.N.length) (.slice (some ⟨g3, 0, none⟩) c.M.length c.M.length) (.slice (some ⟨gp, 0, none⟩) P.length P.length) (.slice (some ⟨gs, 0, none⟩) T.length T.length))
    clear bz
    go_wp2_with fail
    refine bodyPost_ret (v := gvP R c P T (some ⟨g0, 0, none⟩) (some ⟨g1, 0, none⟩) (some ⟨g2, 0, none⟩) (some ⟨g3, 0, none⟩) (some ⟨gp, 0, none⟩) (some ⟨gs, 0, none⟩) R.length c.V.length c.N.length c.M.length P.length T.length) (by simp [gvP, results, Try.f10, go_sem, y0, y1, y2, y3, y4, y5]) rfl ?_
    have hz := HZ.out
    have ho := HG2.out.o0
    have hg := HG2.out.grp (K := fun b => b ≠ w.heap.size + 1 ∧ w.heap.size ≤ b) (fun b h1 _ => ⟨by omega, by omega⟩)
    have hg2 := hg.to (agree_grown (P := fun b => b ≠ w.heap.size + 1 ∧ w.heap.size ≤ b) hgr.out (fun hk => hk.1 rfl)) (K' := fun b => w.heap.size ≤ b) (fun b hb _ => hb.2)
    rw [HE.out]
    rw [show P ++ List.replicate 0 ([] : List Int) = P by simp, show T ++ List.replicate 0 ([] : List Int) = T by simp]
    exact gans hg2 (grown_q hgr.out (HQ0.out.trans HQ2.out) (by omega))
  · obtain ⟨m, hm⟩ : ∃ m, m = n - c.V.length := ⟨_, rfl⟩
    have HM0 := Lib.hid hm
    have hm0 : 0 < m := by omega
    have hmn : m ≤ 4000 := by omega
    have hsub : (n : Int) - (c.V.length : Int) = (m : Int) := by omega
    have hw : wrap64 (m : Int) = (m : Int) := by unfold wrap64; omega
    have hmk := make_rows12 m (by omega)
    have d0 : decide (n ≤ c.V.length) = false := decide_eq_false hle
    have hcl : Hid (c.V.length < n) := by unfold Hid; omega
    clear hm hle
    have HM : Hid (MoreS w (W1.alloc (Obj.cells (madeCells #[.slice none 0 0] m) 24)) R c P T m F A D E Pa Ta cr k1 k2 k3 kp kt g0 g1 g2 g3 gp ep gs es O (O + 1)) := by
      have qa := (Q.refl W1).alloc (Obj.cells (madeCells #[.slice none 0 0] m) 24)
      have hz := HZ.out
      have hz2 := HZ2.out
      have ho := HG2.out.o0
      have ho1 := HG2.out.o1
      have ho2 := HG2.out.o2
      have ho3 := HG2.out.o3
      have ho4 := HG2.out.o4
      have ho5 := HG2.out.o5
      have hn0 : OwnC (W1.alloc (Obj.cells (madeCells #[.slice none 0 0] m) 24)) (O + 1) (List.replicate m (.slice none 0 0)) := by
        have := World.ownsRow_lit (e := 24) (size := 1) W1 (madeCells #[.slice none 0 0] m) m (Nat.le_refl _) (by unfold maxLen; omega) (by rw [size_madeCells]; simp)
        rw [toList_madeCells_one, hz2] at this
        exact OwnC.of_row this
      exact ⟨HB1.out.q qa, HX1.out.q qa, HO2.out.q qa, HG2.out.r.q qa, HG2.out.p.q qa, HG2.out.t.q qa, hn0, ⟨by omega, by omega, ho5, HEs.out, by omega⟩, (HQ0.out.trans HQ2.out).trans qa⟩
    have HCq := Lib.hid ((HC.out.q HQ2.out).q ((Q.refl W1).alloc (Obj.cells (madeCells #[.slice none 0 0] m) 24)))
    have HCG : Hid (∀ U, Q (W1.alloc (Obj.cells (madeCells #[.slice none 0 0] m) 24)) U → Calls Try.prog 27 #[.agg #[.slice A c.V.length k1, .slice D c.N.length k2, .slice E c.M.length k3], .int .i64 (n : Int)] U (OPost (moreC c m) U)) := fun U q => by
      have := grown12 c n A D E _ k1 _ k2 _ k3 U rfl rfl rfl (HCq.out.q q) HFw.out hcl.out hn
      rwa [← HM0.out] at this
    have HHn : Hid (n - c.V.length = m) := HM0.out.symm
    rw [HHn.out]
    have HOM : Hid (W1.heap.size = O + 1) := HZ2.out
    clear hN
    go_upto_region 5 with fail
    rw [HOM.out]
    generalize W1.alloc (Obj.cells (madeCells #[.slice none 0 0] m) 24) = W at *
    generalize O + 1 = M at *
    clear hmk b1 hw hsub d0 HCq
    refine begin_t (S := fun w' => w'.cell? ⟨w.heap.size, 1, none⟩ = some (.slice A c.V.length k1) ∧ w'.cell? ⟨w.heap.size, 2, none⟩ = some (.slice D c.N.length k2) ∧ w'.cell? ⟨w.heap.size, 3, none⟩ = some (.slice E c.M.length k3) ∧ w'.cell? ⟨O, 4, none⟩ = some (.slice (some ⟨gp, 0, none⟩) P.length P.length) ∧ w'.cell? ⟨O, 5, none⟩ = some (.slice (some ⟨gs, 0, none⟩) T.length T.length)) (z := 13) (by kernel_rfl) ?_ (fun hHeld => ?_)
    · exact HM.out.held
    refine take_y (i := 0) (d := some 23) (v := ?_) rfl (by kernel_rfl) (by kernel_rfl) (by kernel_rfl) (by kernel_rfl) (fun _ _ _ h => h) rfl (by rfl) ?_ (by assumption) ?_
    rotate_left
    · (intro w; go_simp; (try with_reducible rfl))
    try simp only [Act.put, List.setIfInBounds_toArray, List.set_cons_zero, List.set_cons_succ]
    refine take_t (i := 1) (d := some 24) (v := ?_) rfl (by kernel_rfl) (by kernel_rfl) (by kernel_rfl) (by kernel_rfl) (fun _ _ _ h => h) rfl (by rfl) ?_ (by assumption) ?_
    rotate_left
    · (intro w hSw; (try dsimp only at hSw); go_simp; (try with_reducible rfl))
    try simp only [Act.put, List.setIfInBounds_toArray, List.set_cons_zero, List.set_cons_succ]
    refine take_y (i := 2) (d := some 25) (v := ?_) rfl (by kernel_rfl) (by kernel_rfl) (by kernel_rfl) (by kernel_rfl) (fun _ _ _ h => h) rfl (by rfl) ?_ (by assumption) ?_
    rotate_left
    · (intro w; go_simp; (try with_reducible rfl))
    try simp only [Act.put, List.setIfInBounds_toArray, List.set_cons_zero, List.set_cons_succ]
    refine take_y (i := 4) (d := some 27) (v := ?_) rfl (by kernel_rfl) (by kernel_rfl) (by kernel_rfl) (by kernel_rfl) (fun _ _ _ h => h) rfl (by rfl) ?_ (by assumption) ?_
    rotate_left
    · (intro w; go_simp; (try with_reducible rfl))
    try simp only [Act.put, List.setIfInBounds_toArray, List.set_cons_zero, List.set_cons_succ]
    refine take_t (i := 5) (d := some 28) (v := ?_) rfl (by kernel_rfl) (by kernel_rfl) (by kernel_rfl) (by kernel_rfl) (fun _ _ _ h => h) rfl (by rfl) ?_ (by assumption) ?_
    rotate_left
    · (intro w hSw; (try dsimp only at hSw); go_simp; (try with_reducible rfl))
    try simp only [Act.put, List.setIfInBounds_toArray, List.set_cons_zero, List.set_cons_succ]
    refine take_y (i := 6) (d := some 29) (v := ?_) rfl (by kernel_rfl) (by kernel_rfl) (by kernel_rfl) (by kernel_rfl) (fun _ _ _ h => h) rfl (by rfl) ?_ (by assumption) ?_
    rotate_left
    · (intro w; go_simp; (try with_reducible rfl))
    try simp only [Act.put, List.setIfInBounds_toArray, List.set_cons_zero, List.set_cons_succ]
    refine take_y (i := 8) (d := some 31) (v := ?_) rfl (by kernel_rfl) (by kernel_rfl) (by kernel_rfl) (by kernel_rfl) (fun _ _ _ h => h) rfl (by rfl) ?_ (by assumption) ?_
    rotate_left
    · (intro w; go_simp; (try with_reducible rfl))
    try simp only [Act.put, List.setIfInBounds_toArray, List.set_cons_zero, List.set_cons_succ]
    refine take_t (i := 9) (d := some 32) (v := ?_) rfl (by kernel_rfl) (by kernel_rfl) (by kernel_rfl) (by kernel_rfl) (fun _ _ _ h => h) rfl (by rfl) ?_ (by assumption) ?_
    rotate_left
    · (intro w hSw; (try dsimp only at hSw); go_simp; (try with_reducible rfl))
    try simp only [Act.put, List.setIfInBounds_toArray, List.set_cons_zero, List.set_cons_succ]
    refine take_y (i := 10) (d := some 33) (v := ?_) rfl (by kernel_rfl) (by kernel_rfl) (by kernel_rfl) (by kernel_rfl) (fun _ _ _ h => h) rfl (by rfl) ?_ (by assumption) ?_
    rotate_left
    · (intro w; go_simp; (try with_reducible rfl))
    try simp only [Act.put, List.setIfInBounds_toArray, List.set_cons_zero, List.set_cons_succ]
    refine call_t (i := 3) rfl (by kernel_rfl) (by rfl) (fun K hK => ?_)
    go_simp
    go_at_call 27
    refine (HCG.out _ (Q.refl W).drew).mono ?_
    rintro e w3 ⟨A3, l1, D3, l2, E3, l3, rfl, hO⟩
    have HO3 := Lib.hid hO
    have HM3 := Lib.hid (HM.out.next ((Q.refl W).drew.trans hO.q))
    clear hO
    have hHeld : ((fun w' => w'.cell? ⟨w.heap.size, 1, none⟩ = some (.slice A c.V.length k1) ∧ w'.cell? ⟨w.heap.size, 2, none⟩ = some (.slice D c.N.length k2) ∧ w'.cell? ⟨w.heap.size, 3, none⟩ = some (.slice E c.M.length k3) ∧ w'.cell? ⟨O, 4, none⟩ = some (.slice (some ⟨gp, 0, none⟩) P.length P.length) ∧ w'.cell? ⟨O, 5, none⟩ = some (.slice (some ⟨gs, 0, none⟩) T.length T.length)) : World → Prop) _ := HM3.out.held
    refine hK.out _ _ (fun _ => hHeld) ?_
    clear hK K
    try simp only [Act.put, List.setIfInBounds_toArray, List.set_cons_zero, List.set_cons_succ]
    refine take_y (i := 12) (d := some 35) (v := ?_) rfl (by kernel_rfl) (by kernel_rfl) (by kernel_rfl) (by kernel_rfl) (fun _ _ _ h => h) rfl (by rfl) ?_ (by assumption) ?_
    rotate_left
    · (intro w; go_simp; (try with_reducible rfl))
    try simp only [Act.put, List.setIfInBounds_toArray, List.set_cons_zero, List.set_cons_succ]
    refine call_t (i := 7) rfl (by kernel_rfl) (by rfl) (fun K hK => ?_)
    obtain ⟨csP, ownP, -, hlP, hrP⟩ := HM3.out.tp.own
    have OwnP := Lib.hid ownP
    clear ownP
    refine wp_append_src _ (.tmp 28) (.tmp 29) _ rfl gp 24 i0 _ 1 24 Try.underlying23 Hi.out Hz0.out Hz1.out Hz2.out rfl (by omega) (.slice (some ⟨gp, 0, none⟩) P.length P.length) P.length csP rfl OwnP.out (some ⟨M, 0, none⟩) m m (List.replicate m (.slice none 0 0)) rfl (by simp) HM3.out.src (nils_one m) (by unfold maxLen; omega) (by omega) HM3.out.gpl ?_
    intro v4 w4 own4 gr4 bl4
    obtain ⟨A4, c4, rfl, hc4, hk4⟩ := tab_more HM3.out.tp hlP hrP own4 gr4 bl4 hm0 (P := K1 w.heap.size O gs) (HM3.out.kA)
    have HC4 := Lib.hid hc4
    have HK4 := Lib.hid hk4
    have HM4 := Lib.hid (HM3.out.step gr4)
    have HO4 := Lib.hid (owno_step HO3.out gr4 HM.out.gpO)
    clear own4 gr4 bl4 hc4 hk4 hlP hrP
    have hHeld : ((fun w' => w'.cell? ⟨w.heap.size, 1, none⟩ = some (.slice A c.V.length k1) ∧ w'.cell? ⟨w.heap.size, 2, none⟩ = some (.slice D c.N.length k2) ∧ w'.cell? ⟨w.heap.size, 3, none⟩ = some (.slice E c.M.length k3) ∧ w'.cell? ⟨O, 4, none⟩ = some (.slice (some ⟨gp, 0, none⟩) P.length P.length) ∧ w'.cell? ⟨O, 5, none⟩ = some (.slice (some ⟨gs, 0, none⟩) T.length T.length)) : World → Prop) _ := HM4.out.held
    refine hK.out _ _ (fun _ => hHeld) ?_
    clear hK K
    try simp only [Act.put, List.setIfInBounds_toArray]
    refine call_t (i := 11) rfl (by kernel_rfl) (by rfl) (fun K hK => ?_)
    obtain ⟨csT, ownT, -, hlT, hrT⟩ := HM4.out.tt.own
    have OwnT := Lib.hid ownT
    clear ownT
    refine wp_append_src _ (.tmp 32) (.tmp 33) _ rfl gs 24 i0 _ 1 24 Try.underlying23 Hi.out Hz0.out Hz1.out Hz2.out rfl (by omega) (.slice (some ⟨gs, 0, none⟩) T.length T.length) T.length csT rfl OwnT.out (some ⟨M, 0, none⟩) m m (List.replicate m (.slice none 0 0)) rfl (by simp) HM4.out.src (nils_one m) (by unfold maxLen; omega) (by omega) HM4.out.gsl ?_
    intro v5 w5 own5 gr5 bl5
    obtain ⟨A5, c5, rfl, hc5, hk5⟩ := tab_more HM4.out.tt hlT hrT own5 gr5 bl5 hm0 (P := K2 w.heap.size O) (HM4.out.kB)
    have HC5 := Lib.hid hc5
    have HK5 := Lib.hid hk5
    have HF5 := Lib.hid (more_close HM4.out HO4.out HK4.out HC4.out HK5.out HC5.out gr5)
    obtain ⟨hb, hres⟩ := HF5.out.boxes
    have o1 := hb.c.c1
    have o2 := hb.c.c2
    have o3 := hb.c.c3
    have o4 := hb.c.c4
    have o5 := hb.c.c5
    have z1 := hb.f1
    have z2 := hb.f2
    have z3 := hb.f3
    have z4 := hb.f4
    have z5 := hb.f5
    have hh := HF5.out.held
    clear own5 gr5 bl5 hc5 hk5 hb hres hlT hrT
    have hHeld : ((fun w' => w'.cell? ⟨w.heap.size, 1, none⟩ = some (.slice A c.V.length k1) ∧ w'.cell? ⟨w.heap.size, 2, none⟩ = some (.slice D c.N.length k2) ∧ w'.cell? ⟨w.heap.size, 3, none⟩ = some (.slice E c.M.length k3) ∧ w'.cell? ⟨O, 4, none⟩ = some (.slice (some ⟨gp, 0, none⟩) P.length P.length) ∧ w'.cell? ⟨O, 5, none⟩ = some (.slice (some ⟨gs, 0, none⟩) T.length T.length)) : World → Prop) _ := hh
    refine hK.out _ _ (fun _ => hHeld) ?_
    clear hK K
    try simp only [Act.put]
    refine call_t (i := 13) rfl (by kernel_rfl) (by rfl) (fun K hK => ?_)
    go_simp
    refine hK.out _ _ (fun hz => by cases hz) ?_
    clear hK K
    try simp only [Act.put, List.setIfInBounds_toArray, List.set_cons_zero, List.set_cons_succ]
    refine call_t (i := 14) rfl (by kernel_rfl) (by rfl) (fun K hK => ?_)
    go_simp
    refine hK.out _ _ (fun hz => by cases hz) ?_
    clear hK K
    try simp only [Act.put, List.setIfInBounds_toArray, List.set_cons_zero, List.set_cons_succ]
    refine call_t (i := 15) rfl (by kernel_rfl) (by rfl) (fun K hK => ?_)
    go_simp
    refine hK.out _ _ (fun hz => by cases hz) ?_
    clear hK K
    try simp only [Act.put, List.setIfInBounds_toArray, List.set_cons_zero, List.set_cons_succ]
    refine call_t (i := 16) rfl (by kernel_rfl) (by rfl) (fun K hK => ?_)
    go_simp
    refine hK.out _ _ (fun hz => by cases hz) ?_
    clear hK K
    try simp only [Act.put, List.setIfInBounds_toArray, List.set_cons_zero, List.set_cons_succ]
    refine call_t (i := 17) rfl (by kernel_rfl) (by rfl) (fun K hK => ?_)
    go_simp
    refine hK.out _ _ (fun hz => by cases hz) ?_
    clear hK K
    try simp only [Act.put, List.setIfInBounds_toArray, List.set_cons_zero, List.set_cons_succ]
    refine done_t (by kernel_rfl) ?_ _
    clear o1 o2 o3 o4 o5 z1 z2 z3 z4 z5 hh hHeld
    have HO6 := Lib.hid (HF5.out.boxes.1.set5 (.slice A3 (moreC c m).V.length l1) (.slice D3 (moreC c m).N.length l2) (.slice E3 (moreC c m).M.length l3) (.slice A4 (P.length + m) c4) (.slice A5 (T.length + m) c5))
    have hg6 := set5_grown w5 O (.slice A3 (moreC c m).V.length l1) (.slice D3 (moreC c m).N.length l2) (.slice E3 (moreC c m).M.length l3) (.slice A4 (P.length + m) c4) (.slice A5 (T.length + m) c5)
    have HX6 := Lib.hid (HF5.out.boxes.2.grown hg6 (by have := HF5.out.O2; omega))
    have HG6 := Lib.hid (HF5.out.g.to (agree_grown hg6 (fun hk => hk.1 rfl)) (K' := fun b => b ≠ w.heap.size + 1 ∧ w.heap.size ≤ b) (fun b hb _ => hb.2))
    have HQ6 := Lib.hid (grown_q hg6 HF5.out.q (by have := HF5.out.O2; omega))
    clear hg6
    generalize ((((w5.setCell ⟨O, 1, none⟩ (.slice A3 (moreC c m).V.length l1)).setCell ⟨O, 2, none⟩ (.slice D3 (moreC c m).N.length l2)).setCell ⟨O, 3, none⟩ (.slice E3 (moreC c m).M.length l3)).setCell ⟨O, 4, none⟩ (.slice A4 (P.length + m) c4)).setCell ⟨O, 5, none⟩ (.slice A5 (T.length + m) c5) = W6 at *
    have o0 := HO6.out.c.c0
    have o1 := HO6.out.c.c1
    have o2 := HO6.out.c.c2
    have o3 := HO6.out.c.c3
    have o4 := HO6.out.c.c4
    have o5 := HO6.out.c.c5
    have x0 := HX6.out.c.c0
    have x1 := HX6.out.c.c1
    have x2 := HX6.out.c.c2
    have x3 := HX6.out.c.c3
    have x4 := HX6.out.c.c4
    have x5 := HX6.out.c.c5
    have xf0 := HX6.out.f0
    have xf1 := HX6.out.f1
    have xf2 := HX6.out.f2
    have xf3 := HX6.out.f3
    have xf4 := HX6.out.f4
    have xf5 := HX6.out.f5
    have bz := HX6.out.set (.slice (some ⟨g0, 0, none⟩) R.length R.length) (.slice A3 (moreC c m).V.length l1) (.slice D3 (moreC c m).N.length l2) (.slice E3 (moreC c m).M.length l3) (.slice A4 (P.length + m) c4) (.slice A5 (T.length + m) c5)
    have y0 := bz.c.c0
    have y1 := bz.c.c1
    have y2 := bz.c.c2
    have y3 := bz.c.c3
    have y4 := bz.c.c4
    have y5 := bz.c.c5
    have hgr := Lib.hid (set6_grown W6 (w.heap.size + 1) (.slice (some ⟨g0, 0, none⟩) R.length R.length) (.slice A3 (moreC c m).V.length l1) (.slice D3 (moreC c m).N.length l2) (.slice E3 (moreC c m).M.length l3) (.slice A4 (P.length + m) c4) (.slice A5 (T.length + m) c5))
    clear bz
    go_wp2_with fail
    have hl1 : (P ++ List.replicate m ([] : List Int)).length = P.length + m := by simp
    have hl2 : (T ++ List.replicate m ([] : List Int)).length = T.length + m := by simp
    refine bodyPost_ret (v := gvP R (moreC c m) (P ++ List.replicate m []) (T ++ List.replicate m []) (some ⟨g0, 0, none⟩) A3 D3 E3 A4 A5 R.length l1 l2 l3 c4 c5) (by unfold gvP; rw [hl1, hl2]; simp [results, Try.f10, go_sem, y0, y1, y2, y3, y4, y5]) rfl ?_
    rw [HHn.out]
    exact gans (HG6.out.to (agree_grown (P := fun b => b ≠ w.heap.size + 1 ∧ w.heap.size ≤ b) hgr.out (fun hk => hk.1 rfl)) (fun b hb _ => hb.2)) (grown_q hgr.out HQ6.out (by omega))
end Go.Proofs.Ytakfhlakdlmhjaa.Ig

namespace Go.Proofs.Ytakfhlakdlmhjaa.Rw
open Go.RowKit Kit

/-- any token as memory has it: its kind, its text, where it begins -/
abbrev Tg := Int × ByteArray × Int
/-- two texts are the same -/
def eqS (a b : ByteArray) : Bool := a.toList == b.toList
theorem eqS_iff (a b : ByteArray) : eqS a b = true ↔ a = b := by
  unfold eqS
  rw [beq_iff_eq, ByteArray.toList_eq, ByteArray.toList_eq]
  exact ⟨fun h => ByteArray.ext (Array.toList_inj.mp h), fun h => by rw [h]⟩
end Go.Proofs.Ytakfhlakdlmhjaa.Rw

namespace Go.Proofs.Ytakfhlakdlmhjaa.Nm
open Go.RowKit Kit

def inB (lo hi c : Int) : Bool := decide (lo ≤ c) && decide (c ≤ hi)

def goesB (c : Int) : Bool := inB 97 122 c || inB 65 90 c || inB 48 57 c || (c == 95)

theorem take_snoc (s : ByteArray) (k : Nat) (h : k < s.size) : s.data.toList.take (k + 1) = s.data.toList.take k ++ [s[k]] := by
  rw [List.take_succ_eq_append_getElem (by simpa using h)]; rfl

def restB (l : List UInt8) : Bool := (l.drop 1).all fun c => goesB c.toNat
/-- a name whose first byte lies from lo to hi -/
def nameB (lo hi : Int) (l : List UInt8) : Bool :=
  match l with
  | [] => false
  | c :: _ => decide (l.length ≤ 20) && inB lo hi c.toNat && restB l

theorem small_any (c : Int) (w : World) :
    Calls Try.prog 63 #[.int .u8 c] w fun e w' => e = .returned (.bool (inB 97 122 c)) ∧ w = w' := by
  by_cases h : 97 ≤ c
  · have d : decide (97 ≤ c) = true := by simpa using h
    have HR : Hid (inB 97 122 c = decide (c ≤ 122)) := by unfold Hid inB; rw [d]; rfl
    go_enter Try.func63, Try.ntmps63
    go_wp2_with fail
    go_ret
    exact ⟨by rw [HR.out]; rfl, rfl⟩
  · have d : decide (97 ≤ c) = false := by simpa using h
    have HR : Hid (inB 97 122 c = false) := by unfold Hid inB; rw [d]; rfl
    go_enter Try.func63, Try.ntmps63
    go_wp2_with fail
    go_ret
    exact ⟨by rw [HR.out]; rfl, rfl⟩
theorem big_any (c : Int) (w : World) :
    Calls Try.prog 83 #[.int .u8 c] w fun e w' => e = .returned (.bool (inB 65 90 c)) ∧ w = w' := by
  by_cases h : 65 ≤ c
  · have d : decide (65 ≤ c) = true := by simpa using h
    have HR : Hid (inB 65 90 c = decide (c ≤ 90)) := by unfold Hid inB; rw [d]; rfl
    go_enter Try.func83, Try.ntmps83
    go_wp2_with fail
    go_ret
    exact ⟨by rw [HR.out]; rfl, rfl⟩
  · have d : decide (65 ≤ c) = false := by simpa using h
    have HR : Hid (inB 65 90 c = false) := by unfold Hid inB; rw [d]; rfl
    go_enter Try.func83, Try.ntmps83
    go_wp2_with fail
    go_ret
    exact ⟨by rw [HR.out]; rfl, rfl⟩

def letB (c : Int) : Bool := inB 97 122 c || inB 65 90 c
def figB (c : Int) : Bool := inB 48 57 c || (c == 95)
def okAt (k : Nat) (c : Int) : Bool := letB c || (!(k == 0) && figB c)
def okFrom : List UInt8 → Nat → Bool
  | [], _ => true
  | c :: l, k => okAt k c.toNat && okFrom l (k + 1)
def nmB (l : List UInt8) : Bool := decide (1 ≤ l.length) && decide (l.length ≤ 20) && okFrom l 0
theorem okFrom_at (l : List UInt8) (k : Nat) (h : k < l.length) : okFrom (l.drop k) k = (okAt k l[k].toNat && okFrom (l.drop (k + 1)) (k + 1)) := by
  rw [List.drop_eq_getElem_cons h]; rfl
theorem okFrom_end (l : List UInt8) (k : Nat) (h : l.length ≤ k) : okFrom (l.drop k) k = true := by
  rw [List.drop_eq_nil_of_le h]; rfl
theorem okFrom_rest : ∀ (l : List UInt8) (k : Nat), okFrom l (k + 1) = l.all fun c => goesB c.toNat
  | [], _ => rfl
  | c :: l, k => by
    show (okAt (k + 1) c.toNat && okFrom l (k + 2)) = (goesB c.toNat && _)
    rw [okFrom_rest l (k + 1)]
    have e : okAt (k + 1) c.toNat = goesB c.toNat := by
      unfold okAt letB figB goesB
      generalize inB 97 122 c.toNat = p, inB 65 90 c.toNat = q, inB 48 57 c.toNat = r, ((c.toNat : Int) == 95) = t
      rw [show ((k + 1) == 0) = false by simp]
      revert p q r t; decide
    rw [e]
theorem con_of_nm (l : List UInt8) (h : 0 < l.length) : (nmB l && inB 97 122 (l[0].toNat : Int)) = nameB 97 122 l := by
  match l, h with
  | c :: l, _ =>
    simp only [List.getElem_cons_zero]
    show (decide (1 ≤ (c :: l).length) && decide ((c :: l).length ≤ 20) && (okAt 0 c.toNat && okFrom l (0 + 1)) && _) = (decide ((c :: l).length ≤ 20) && inB 97 122 c.toNat && l.all _)
    rw [okFrom_rest l 0, decide_eq_true (by simp : 1 ≤ (c :: l).length)]
    unfold okAt letB
    generalize inB 97 122 c.toNat = p, inB 65 90 c.toNat = q, (l.all fun c => goesB c.toNat) = r, decide ((c :: l).length ≤ 20) = t, figB c.toNat = u
    revert p q r t u; decide

set_option maxRecDepth 100000 in
set_option maxHeartbeats 400000 in
theorem name_any (s : ByteArray) (w : World) :
    Calls Try.prog 62 #[.string s] w fun e w' => e = .returned (.bool (nmB s.data.toList)) ∧ w = w' := by
  have hlen : s.data.toList.length = s.size := by simp
  by_cases h0 : s.size < 1
  · have HR : Hid (nmB s.data.toList = false) := by unfold Hid nmB; rw [hlen, decide_eq_false (by omega)]; rfl
    clear hlen
    go_enter Try.func62, Try.ntmps62
    go_wp2_with fail
    go_ret
    exact ⟨by rw [HR.out]; rfl, rfl⟩
  · by_cases h20 : 20 < s.size
    · have HR : Hid (nmB s.data.toList = false) := by unfold Hid nmB; rw [hlen, decide_eq_false (by omega : ¬ s.size ≤ 20), Bool.and_false]; rfl
      clear hlen
      go_enter Try.func62, Try.ntmps62
      go_wp2_with fail
      go_ret
      exact ⟨by rw [HR.out]; rfl, rfl⟩
    · have HR : Hid (nmB s.data.toList = okFrom s.data.toList 0) := by unfold Hid nmB; rw [hlen, decide_eq_true (by omega), decide_eq_true (by omega)]; rfl
      have d1 : decide ((s.size : Int) < 1) = false := by simp; omega
      have d2 : decide (20 < (s.size : Int)) = false := by simp; omega
      clear hlen
      go_enter Try.func62, Try.ntmps62
      go_wp2_with fail
      go_loop [3, 4, 5] (fun i _ _ => ∃ k : Nat, k ≤ s.size ∧ i = .int .i64 k ∧ Hid (okFrom s.data.toList 0 = okFrom (s.data.toList.drop k) k)) (fun i _ _ => s.size - (intOf i).toNat)
      case atStart => exact ⟨0, Nat.zero_le _, rfl, Lib.hid (by simp)⟩
      case round =>
        obtain ⟨k, hk, rfl, HF⟩ := hrel
        by_cases hlt : k < s.size
        · have HS : Hid (okFrom (s.data.toList.drop k) k = (okAt k s[k].toNat && okFrom (s.data.toList.drop (k + 1)) (k + 1))) := okFrom_at s.data.toList k (by simpa using hlt)
          go_upto_region 6 with fail
          go_cut [4] (fun f wx => f = .bool (figB s[k].toNat) ∧ wx = w)
          case first =>
            go_wp2_with fail
            all_goals go_meet
            all_goals
              refine ⟨congrArg Value.bool ?_, rfl⟩
              rw [Bool.eq_iff_iff]
              simp only [figB, inB, Bool.or_eq_true, Bool.and_eq_true, decide_eq_true_eq, beq_iff_eq]
              first | omega | (refine ⟨fun _ => ?_, fun _ => trivial⟩; omega)
          case rest =>
            obtain ⟨rfl, rfl⟩ := hcut
            have HO : Hid (okAt k s[k].toNat = (inB 97 122 s[k].toNat || inB 65 90 s[k].toNat || (!(k == 0) && figB s[k].toNat))) := rfl
            cases hp : inB 97 122 s[k].toNat
            · cases hq : inB 65 90 s[k].toNat
              · by_cases hk0 : k = 0
                · have HS' : Hid (okFrom (s.data.toList.drop k) k = false) := by unfold Hid; rw [HS.out, HO.out, hp, hq, show (k == 0) = true by simpa using hk0]; rfl
                  have hk0' : ((k : Int) == 0) = true := by simpa using hk0
                  clear hk0
                  go_wp2_with (first | (go_at_call 63; refine (small_any _ _).mono ?_; rintro e w' ⟨rfl, rfl⟩) | (go_at_call 83; refine (big_any _ _).mono ?_; rintro e w' ⟨rfl, rfl⟩))
                  go_ret
                  exact ⟨by rw [HR.out, HF.out, HS'.out]; rfl, rfl⟩
                · have hk0' : ((k : Int) == 0) = false := by simpa using hk0
                  have hk1 : (k == 0) = false := by simpa using hk0
                  cases hf : figB s[k].toNat
                  · have HS' : Hid (okFrom (s.data.toList.drop k) k = false) := by unfold Hid; rw [HS.out, HO.out, hp, hq, hk1, hf]; rfl
                    clear hk0 hk1
                    go_wp2_with (first | (go_at_call 63; refine (small_any _ _).mono ?_; rintro e w' ⟨rfl, rfl⟩) | (go_at_call 83; refine (big_any _ _).mono ?_; rintro e w' ⟨rfl, rfl⟩))
                    go_ret
                    exact ⟨by rw [HR.out, HF.out, HS'.out]; rfl, rfl⟩
                  · have HS' : Hid (okFrom (s.data.toList.drop k) k = okFrom (s.data.toList.drop (k + 1)) (k + 1)) := by unfold Hid; rw [HS.out, HO.out, hp, hq, hk1, hf]; rfl
                    clear hk0 hk1
                    go_wp2_with (first | (go_at_call 63; refine (small_any _ _).mono ?_; rintro e w' ⟨rfl, rfl⟩) | (go_at_call 83; refine (big_any _ _).mono ?_; rintro e w' ⟨rfl, rfl⟩))
                    go_round
                    case rel => exact ⟨k + 1, by omega, by go_num, Lib.hid (HF.out.trans HS'.out)⟩
                    case measure => simp [intOf]; omega
              · have HS' : Hid (okFrom (s.data.toList.drop k) k = okFrom (s.data.toList.drop (k + 1)) (k + 1)) := by unfold Hid; rw [HS.out, HO.out, hp, hq]; rfl
                go_wp2_with (first | (go_at_call 63; refine (small_any _ _).mono ?_; rintro e w' ⟨rfl, rfl⟩) | (go_at_call 83; refine (big_any _ _).mono ?_; rintro e w' ⟨rfl, rfl⟩))
                go_round
                case rel => exact ⟨k + 1, by omega, by go_num, Lib.hid (HF.out.trans HS'.out)⟩
                case measure => simp [intOf]; omega
            · have HS' : Hid (okFrom (s.data.toList.drop k) k = okFrom (s.data.toList.drop (k + 1)) (k + 1)) := by unfold Hid; rw [HS.out, HO.out, hp]; rfl
              go_wp2_with (first | (go_at_call 63; refine (small_any _ _).mono ?_; rintro e w' ⟨rfl, rfl⟩) | (go_at_call 83; refine (big_any _ _).mono ?_; rintro e w' ⟨rfl, rfl⟩))
              go_round
              case rel => exact ⟨k + 1, by omega, by go_num, Lib.hid (HF.out.trans HS'.out)⟩
              case measure => simp [intOf]; omega
        · have HS := Lib.hid (okFrom_end s.data.toList k (by simp; omega))
          go_wp2_with fail
          go_ret
          exact ⟨by rw [HR.out, HF.out, HS.out]; rfl, rfl⟩

set_option maxRecDepth 100000 in
set_option maxHeartbeats 400000 in
theorem con_any (s : ByteArray) (w : World) :
    Calls Try.prog 36 #[.string s] w fun e w' => e = .returned (.bool (nameB 97 122 s.data.toList)) ∧ w = w' := by
  by_cases h0 : 0 < s.size
  · have HC : Hid ((nmB s.data.toList && inB 97 122 s[0].toNat) = nameB 97 122 s.data.toList) := con_of_nm s.data.toList (by simpa using h0)
    cases hn : nmB s.data.toList
    · rw [hn] at HC
      go_enter Try.func36, Try.ntmps36
      go_wp2_with fail
      refine (name_any _ _).mono ?_
      rintro e w1 ⟨rfl, rfl⟩
      go_wp2_with fail
      go_ret
      exact ⟨by rw [← HC.out]; rfl, rfl⟩
    · rw [hn] at HC
      go_enter Try.func36, Try.ntmps36
      go_wp2_with fail
      refine (name_any _ _).mono ?_
      rintro e w1 ⟨rfl, rfl⟩
      go_wp2_with fail
      refine (small_any _ _).mono ?_
      rintro e w1 ⟨rfl, rfl⟩
      go_wp2_with fail
      go_ret
      exact ⟨by rw [← HC.out]; rfl, rfl⟩
  · have e : s.data.toList = [] := List.eq_nil_of_length_eq_zero (by have : s.data.toList.length = s.size := by simp
                                                                     omega)
    have hn : nmB s.data.toList = false := by rw [e]; rfl
    have HR : Hid (nameB 97 122 s.data.toList = false) := by unfold Hid; rw [e]; rfl
    clear e
    go_enter Try.func36, Try.ntmps36
    go_wp2_with fail
    refine (name_any _ _).mono ?_
    rintro e w1 ⟨rfl, rfl⟩
    go_wp2_with fail
    go_ret
    exact ⟨by rw [HR.out]; rfl, rfl⟩

end Go.Proofs.Ytakfhlakdlmhjaa.Nm

namespace Go.Proofs.Ytakfhlakdlmhjaa.Ex
open Go.RowKit Kit Rw Go.Proofs.Ytakfhlakdlmhjaa.Nm

/-- how many parts a node has -/
def partsN (t : Tg) : Int := if t.1 = 6 then 1 else t.2.2
end Go.Proofs.Ytakfhlakdlmhjaa.Ex

namespace Go.Proofs.Ytakfhlakdlmhjaa.Ex
open Go.RowKit Kit Rw Go.Proofs.Ytakfhlakdlmhjaa.Nm

/-- how many parts, as a length -/
def np (t : Tg) : Nat := (partsN t).toNat
end Go.Proofs.Ytakfhlakdlmhjaa.Ex

namespace Go.Proofs.Ytakfhlakdlmhjaa.Ex
open Go.RowKit Kit Rw Go.Proofs.Ytakfhlakdlmhjaa.Nm

def cellsI (l : List Int) : List Value := l.map (Value.int .i64)
theorem cellsI_len (l : List Int) : (cellsI l).length = l.length := by simp [cellsI]
theorem cellsI_one (l : List Int) : ∀ u ∈ cellsI l, u.oneCell' = true := fun u hu => by
  obtain ⟨x, _, rfl⟩ := List.mem_map.1 hu; rfl
theorem cellsI_at {l : List Int} {k : Nat} (h : k < l.length) : (cellsI l)[k]? = some (.int .i64 l[k]) := by simp [cellsI, h]
theorem cellsI_append (a b : List Int) : cellsI (a ++ b) = cellsI a ++ cellsI b := by simp [cellsI]
theorem intInfo : (Try.prog.info? 3).map (fun i => (i.zero, i.size, i.bytes)) = some (some (.int .i64 0), 1, 8) := by kernel_rfl
end Go.Proofs.Ytakfhlakdlmhjaa.Ex

namespace Go.Proofs.Ytakfhlakdlmhjaa.Ex
open Go.RowKit Kit Rw Go.Proofs.Ytakfhlakdlmhjaa.Nm

theorem int_at {w : World} {B : Nat} {A : Option Addr} {l : List Int} (h : Rds w B A (cellsI l)) {k : Nat} (hk : k < l.length) :
    ∃ ad, A = some ad ∧ ad.block < B ∧ w.cell? (ad.add k) = some (.int .i64 l[k]) := by
  obtain ⟨ad, e, hlt, hc⟩ := h (by rw [cellsI_len]; omega)
  exact ⟨ad, e, hlt, hc k _ (cellsI_at hk)⟩
end Go.Proofs.Ytakfhlakdlmhjaa.Ex

namespace Go.Proofs.Ytakfhlakdlmhjaa.Ex
open Go.RowKit Kit Rw
open Go.Proofs.Ytakfhlakdlmhjaa.Sg (Sig findI)
theorem own_new8 (w : World) (cs : List Value) (t : TypeId) : OwnC (w.alloc (.cells cs.toArray t)) w.heap.size cs :=
  ⟨by simp, fun j v hv => ⟨by have := (src_alloc w cs t (0, 0)) (by have := (List.getElem?_eq_some_iff.1 hv).1; omega); obtain ⟨ad, e, h⟩ := this; injection e with e; subst e; have := h j v hv; rwa [add_zero_head] at this, World.frozen?_alloc_at _ _ _ _ rfl⟩⟩
def turnB (s v : UInt8) : UInt8 := if v = 43 then s else if v = 45 ∧ s = 76 then 82 else if v = 45 ∧ s = 82 then 76 else 66
end Go.Proofs.Ytakfhlakdlmhjaa.Ex

namespace Go.Proofs.Ytakfhlakdlmhjaa.Ex
open Go.RowKit Kit Rw Go.Proofs.Ytakfhlakdlmhjaa.Nm

end Go.Proofs.Ytakfhlakdlmhjaa.Ex

namespace Go.Proofs.Ytakfhlakdlmhjaa.Ex
open Go.RowKit Kit Rw Go.Proofs.Ytakfhlakdlmhjaa.Nm

end Go.Proofs.Ytakfhlakdlmhjaa.Ex

namespace Go.Proofs.Ytakfhlakdlmhjaa.Ex
open Go.RowKit Kit Rw
open Go.Proofs.Ytakfhlakdlmhjaa.Sg (Sig findI Row refFind_any)
end Go.Proofs.Ytakfhlakdlmhjaa.Ex

namespace Go.Proofs.Ytakfhlakdlmhjaa.Ld
open Go.RowKit Kit Rw
open Go.Proofs.Ytakfhlakdlmhjaa.Sg (Sig findI)
open Go.Proofs.Ytakfhlakdlmhjaa.Hs (Dist atI atI_cases atI_some)
open Go.Proofs.Ytakfhlakdlmhjaa.Tm (Tm Store mayB keyOk ofKey standB isPl isPl_iff allPl hasB)
open Go.Proofs.Ytakfhlakdlmhjaa.Ex (np)
section
variable {L : List Sig} {ks : List (List Int)} {own : List ByteArray}
end

section
variable {L : List Sig} {ks : List (List Int)} {own : List ByteArray}
end
end Go.Proofs.Ytakfhlakdlmhjaa.Ld

namespace Go.Proofs.Ytakfhlakdlmhjaa.Ld
open Go.RowKit Kit Rw
open Go.Proofs.Ytakfhlakdlmhjaa.Sg (Sig findI)
open Go.Proofs.Ytakfhlakdlmhjaa.Nm (nameB)
open Go.Proofs.Ytakfhlakdlmhjaa.Hs (Dist atI atI_cases atI_some)
open Go.Proofs.Ytakfhlakdlmhjaa.Tm (Tm Store mayB keyOk ofKey standB isPl isPl_iff allPl hasB)
open Go.Proofs.Ytakfhlakdlmhjaa.Ex (np)
end Go.Proofs.Ytakfhlakdlmhjaa.Ld

namespace Go.Proofs.Ytakfhlakdlmhjaa.Tm
open Go.RowKit Kit Hs

end Go.Proofs.Ytakfhlakdlmhjaa.Tm

namespace Go.Proofs.Ytakfhlakdlmhjaa.Ld
open Go.RowKit Kit Rw
open Go.Proofs.Ytakfhlakdlmhjaa.Sg (Sig findI)
open Go.Proofs.Ytakfhlakdlmhjaa.Nm (nameB)
open Go.Proofs.Ytakfhlakdlmhjaa.Hs (Dist atI atI_cases atI_some)
open Go.Proofs.Ytakfhlakdlmhjaa.Tm (Tm Store mayB keyOk ofKey standB isPl isPl_iff allPl hasB termAt ofKey_at)
open Go.Proofs.Ytakfhlakdlmhjaa.Ex (np)
section
variable {L : List Sig} {names : List ByteArray} {ks : List (List Int)}
end
end Go.Proofs.Ytakfhlakdlmhjaa.Ld

namespace Go.Proofs.Ytakfhlakdlmhjaa.St
open Go.RowKit Kit Rw
open Go.Proofs.Ytakfhlakdlmhjaa.Sg (Sig)
open Go.Proofs.Ytakfhlakdlmhjaa.Tm (Tm Store ofKey termAt termAt_at mayB standB hasB isPl isPl_iff arity arity_at partsN isKindB)

open Go.Proofs.Ytakfhlakdlmhjaa.Ex (turnB)
abbrev PI := Int × Int
/-- how the part k of the constructor of a number varies -/
def varyN (L : List Sig) (s : Int) (k : Nat) : UInt8 := (((L[s.toNat]?.map fun g : Sig => g.2).getD (⟨#[]⟩ : ByteArray)).data.toList)[k]?.getD 0
def pairsF (p q : Int) (v : UInt8) : List PI := (if v ≠ 45 then [(p, q)] else []) ++ (if v ≠ 43 then [(q, p)] else [])
def conF (L : List Sig) (s : Int) : Nat → List Int → List Int → List PI
  | k, a :: l, b :: m => pairsF a b (varyN L s k) ++ conF L s (k + 1) l m
  | _, _, _ => []
def projF (L : List Sig) (s t : Tm) : Int × List PI :=
  if s.k = 1 then (1, (if varyN L t.s t.p.toNat ≠ 45 then [(1, t.xs.headD 0)] else []) ++ (if varyN L t.s t.p.toNat ≠ 43 then [(t.xs.headD 0, 0)] else []))
  else if s.k = 3 ∧ s.s = t.s then (1, pairsF (s.xs[t.p.toNat]?.getD 0) (t.xs.headD 0) (varyN L t.s t.p.toNat)) else (0, [])
def stepT (L : List Sig) (x y : Int) (s t : Tm) : Int × List PI :=
  if x = y ∨ s.k = 0 ∨ t.k = 1 then (0, [])
  else if s.k = 4 then (1, [(s.xs[0]?.getD 0, y), (s.xs[1]?.getD 0, y)])
  else if t.k = 5 then (1, [(x, t.xs[0]?.getD 0), (x, t.xs[1]?.getD 0)])
  else if s.k = 2 ∨ t.k = 2 then (2, [])
  else if t.k = 6 then projF L s t
  else if s.k = 3 ∧ t.k = 3 ∧ s.s = t.s then (1, conF L s.s 0 s.xs t.xs)
  else if (s.k = 1 ∨ s.k = 3) ∧ (t.k = 0 ∨ t.k = 3) then (3, [])
  else (0, [])
def stepF (L : List Sig) (ks : List (List Int)) (x y : Int) : Int × List PI :=
  match termAt ks x, termAt ks y with
  | some s, some t => stepT L x y s t
  | _, _ => (0, [])
end Go.Proofs.Ytakfhlakdlmhjaa.St

namespace Go.Proofs.Ytakfhlakdlmhjaa.St
open Go.RowKit Kit Rw
open Go.Proofs.Ytakfhlakdlmhjaa.Sg (Sig)
open Go.Proofs.Ytakfhlakdlmhjaa.Tm (Tm Store ofKey termAt isPl isPl_iff)

open Go.Proofs.Ytakfhlakdlmhjaa.Ex (turnB)
abbrev B3 := Bool × Bool × Bool
def onF (side : UInt8) (b : B3) : Bool := if side = 76 then b.1 else if side = 82 then b.2.1 else b.2.2
def varyT (L : List Sig) (t : Tm) (k : Nat) : UInt8 := if t.k = 3 then varyN L t.s k else if t.k = 6 then varyN L t.s t.p.toNat else 43
def allS (L : List Sig) (t : Tm) (f : Int → B3) (s : UInt8) : Nat → List Int → Bool
  | _, [] => true
  | k, x :: l => onF (turnB s (varyT L t k)) (f x) && allS L t f s (k + 1) l
def may3 (t : Tm) : B3 := (decide (¬ t.k = 5 ∧ ¬ t.k = 6), decide (¬ t.k = 4), decide (¬ t.k = 5 ∧ ¬ t.k = 6 ∧ ¬ t.k = 4))
def own3 (L : List Sig) (t : Tm) (f : Int → B3) : B3 := ((may3 t).1 && allS L t f 76 0 t.xs, (may3 t).2.1 && allS L t f 82 0 t.xs, (may3 t).2.2 && allS L t f 66 0 t.xs)
section
variable {L : List Sig} {ks : List (List Int)}
end
end Go.Proofs.Ytakfhlakdlmhjaa.St

namespace Go.Proofs.Ytakfhlakdlmhjaa.Ex
open Go.RowKit Kit Go.Proofs.Ytakfhlakdlmhjaa.Nm Rw

end Go.Proofs.Ytakfhlakdlmhjaa.Ex

namespace Go.Proofs.Ytakfhlakdlmhjaa.Ex
open Go.RowKit Kit Rw
open Go.Proofs.Ytakfhlakdlmhjaa.Sg (Sig findI Row refFind_any)
end Go.Proofs.Ytakfhlakdlmhjaa.Ex

namespace Go.Proofs.Ytakfhlakdlmhjaa.Ex
open Go.RowKit Kit Rw
open Go.Proofs.Ytakfhlakdlmhjaa.Sg (Sig findI Row refFind_any)
end Go.Proofs.Ytakfhlakdlmhjaa.Ex

namespace Go.Proofs.Ytakfhlakdlmhjaa.St
open Go.RowKit Kit Rw

def cellsQ : List PI → List Value
  | [] => []
  | t :: l => .int .i64 t.1 :: .int .i64 t.2 :: cellsQ l
theorem cellsQ_len (l : List PI) : (cellsQ l).length = l.length * 2 := by
  induction l with
  | nil => rfl
  | cons s l ih => simp [cellsQ, ih]; omega
theorem cellsQ_append (a b : List PI) : cellsQ (a ++ b) = cellsQ a ++ cellsQ b := by
  induction a with
  | nil => rfl
  | cons s l ih => simp [cellsQ, ih]
theorem cellsQ_0 (l : List PI) (i : Nat) : (cellsQ l)[i * 2]? = l[i]?.map fun s => Value.int .i64 s.1 := by
  induction l generalizing i with
  | nil => simp [cellsQ]
  | cons s l ih =>
    cases i with
    | zero => rfl
    | succ i => rw [show (i + 1) * 2 = i * 2 + 1 + 1 by omega]; simpa [cellsQ] using ih i
theorem cellsQ_1 (l : List PI) (i : Nat) : (cellsQ l)[i * 2 + 1]? = l[i]?.map fun s => Value.int .i64 s.2 := by
  induction l generalizing i with
  | nil => simp [cellsQ]
  | cons s l ih =>
    cases i with
    | zero => rfl
    | succ i => rw [show (i + 1) * 2 + 1 = i * 2 + 1 + 1 + 1 by omega]; simpa [cellsQ] using ih i
theorem pair_at {w : World} {B : Nat} {A : Option Addr} {l : List PI} (h : Rds w B A (cellsQ l)) {k : Nat} (hk : k < l.length) :
    ∃ ad, A = some ad ∧ ad.block < B ∧ w.cell? (ad.add (k * 2)) = some (.int .i64 l[k].1) ∧ w.cell? ⟨(ad.add (k * 2)).block, (ad.add (k * 2)).off + 1, none⟩ = some (.int .i64 l[k].2) := by
  obtain ⟨ad, e, hlt, hc⟩ := h (by rw [cellsQ_len]; omega)
  refine ⟨ad, e, hlt, hc _ _ (by rw [cellsQ_0, List.getElem?_eq_getElem hk]; rfl), ?_⟩
  rw [← add_succ]
  exact hc _ _ (by rw [cellsQ_1, List.getElem?_eq_getElem hk]; rfl)
theorem pairInfo : (Try.prog.info? 50).map (fun i => (i.zero, i.size, i.bytes)) = some (some (.agg #[.int .i64 0, .int .i64 0]), 2, 16) := by kernel_rfl
end Go.Proofs.Ytakfhlakdlmhjaa.St

namespace Go.Proofs.Ytakfhlakdlmhjaa.St
open Go.RowKit Kit Rw
open Go.Proofs.Ytakfhlakdlmhjaa.Sg (Sig)
open Go.Proofs.Ytakfhlakdlmhjaa.Tm (Tm Store ofKey termAt isPl isPl_iff)

open Go.Proofs.Ytakfhlakdlmhjaa.Ex (turnB)
section
variable {L : List Sig} {ks : List (List Int)}
inductive Reach (L : List Sig) (ks : List (List Int)) (p : PI) : PI → Prop where
  | self : Reach L ks p p
  | step {q z : PI} : Reach L ks p q → z ∈ (stepF L ks q.1 q.2).2 → Reach L ks p z
theorem Reach.trans {p q z : PI} (h : Reach L ks p q) (k : Reach L ks q z) : Reach L ks p z := by
  induction k with
  | self => exact h
  | step _ hz ih => exact ih.step hz
/-- pairs in order -/
def ltP (a b : PI) : Prop := a.1 < b.1 ∨ (a.1 = b.1 ∧ a.2 < b.2)
instance (a b : PI) : Decidable (ltP a b) := by unfold ltP; infer_instance
end
end Go.Proofs.Ytakfhlakdlmhjaa.St

namespace Go.Proofs.Ytakfhlakdlmhjaa.St
open Go.RowKit Kit Rw
open Go.Proofs.Ytakfhlakdlmhjaa.Sg (Sig)
open Go.Proofs.Ytakfhlakdlmhjaa.Tm (Tm Store ofKey termAt isPl isPl_iff)

open Go.Proofs.Ytakfhlakdlmhjaa.Ex (turnB)
section
variable {L : List Sig} {ks : List (List Int)}
end
end Go.Proofs.Ytakfhlakdlmhjaa.St

namespace Go.Proofs.Ytakfhlakdlmhjaa.St
open Go.RowKit Kit Rw

end Go.Proofs.Ytakfhlakdlmhjaa.St
