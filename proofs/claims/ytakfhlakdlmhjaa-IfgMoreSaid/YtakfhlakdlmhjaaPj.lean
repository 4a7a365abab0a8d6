/-
  What the proofs lean on, part 10 of 13.
-/
import Derived.Test.YtakfhlakdlmhjaaPa
import Derived.Test.YtakfhlakdlmhjaaPb
import Derived.Test.YtakfhlakdlmhjaaPi
import Derived.Deep.RegionHeld3
namespace Go.Proofs.Ytakfhlakdlmhjaa.Ig
open Go.RowKit Kit Tr Uf
open Go.Proofs.Ytakfhlakdlmhjaa.Hs (Keys Ints BoxT)
set_option maxRecDepth 100000 in
set_option maxHeartbeats 1000000 in
theorem addR_any (c : Cells) (A D E : Option Addr) (n1 k1 n2 k2 n3 k3 : Nat) (w : World) (h1 : n1 = c.V.length) (h2 : n2 = c.N.length) (h3 : n3 = c.M.length) (h : Rd w c A k1 D k2 E k3) (hf : Few c 1000000) :
    Calls Try.prog 52 #[.agg #[.slice A n1 k1, .slice D n2 k2, .slice E n3 k3]] w (OutPostR (growC c (c.V.length : Int)) w) := by
  subst h1 h2 h3
  obtain ⟨W0, hW0, q0, hz0, hB, hX⟩ := boxes w (Value.slice A c.V.length k1) (Value.slice D c.N.length k2) (Value.slice E c.M.length k3) 29
  have HB := Lib.hid hB
  have HX := Lib.hid hX
  have HR := Lib.hid (h.q q0)
  have HZ := Lib.hid hz0
  have HW := Lib.hid hW0
  clear h hB hX hz0 hW0
  go_enter Try.func52, Try.ntmps52
  go_upto_region 1 with fail
  rw [← HW.out]
  clear HW
  have C := Lib.hid (growR_any c (c.V.length : Int) A D E _ k1 _ k2 _ k3 W0 rfl rfl rfl HR.out hf)
  have c0 := HB.out.c0
  have c1 := HB.out.c1
  have c2 := HB.out.c2
  go_wp2_with (go_at_call 74; refine C.out.mono ?_; rintro e w1 ⟨g1, l1, g2, l2, g3, l3, rfl, hO⟩; have HO := Lib.hid hO; have bx := HX.out.q hO.o.q; have x0 := bx.c0; have x1 := bx.c1; have x2 := bx.c2; have u0 := bx.f0; have u1 := bx.f1; have u2 := bx.f2; clear hO)
  have bz := bx.all (.slice (some ⟨g1, 0, none⟩) (growC c (c.V.length : Int)).V.length l1) (.slice (some ⟨g2, 0, none⟩) (growC c (c.V.length : Int)).N.length l2) (.slice (some ⟨g3, 0, none⟩) (growC c (c.V.length : Int)).M.length l3)
  have y0 := bz.c0
  have y1 := bz.c1
  have y2 := bz.c2
  have hz := HZ.out
  have o1 := HO.out.o.o1
  have o2 := HO.out.o.o2
  have o3 := HO.out.o.o3
  have O4 := (HO.out.from q0).far (set3_grown w1 (w.heap.size + 1) (.slice (some ⟨g1, 0, none⟩) (growC c (c.V.length : Int)).V.length l1) (.slice (some ⟨g2, 0, none⟩) (growC c (c.V.length : Int)).N.length l2) (.slice (some ⟨g3, 0, none⟩) (growC c (c.V.length : Int)).M.length l3)) (by omega) (by omega) (by omega) (by omega)
  exact bodyPost_ret (v := .agg #[.slice (some ⟨g1, 0, none⟩) (growC c (c.V.length : Int)).V.length l1, .slice (some ⟨g2, 0, none⟩) (growC c (c.V.length : Int)).N.length l2, .slice (some ⟨g3, 0, none⟩) (growC c (c.V.length : Int)).M.length l3]) (by simp [results, Try.f52, go_sem, y0, y1, y2]) rfl ⟨_, l1, _, l2, _, l3, rfl, O4⟩

/-- cells with so many more, each a class -/
def moreC (c : Cells) : Nat → Cells
  | 0 => c
  | k + 1 => growC (moreC c k) ((c.V.length + k : Nat) : Int)
theorem moreC_len (c : Cells) (k : Nat) : (moreC c k).V.length = c.V.length + k ∧ (moreC c k).N.length = c.N.length + k ∧ (moreC c k).M = c.M := by
  induction k with
  | zero => exact ⟨rfl, rfl, rfl⟩
  | succ k ih =>
    obtain ⟨a, b, d⟩ := ih
    exact ⟨by simp [moreC, growC, a]; omega, by simp [moreC, growC, b]; omega, d⟩
theorem moreC_old {c : Cells} (k : Nat) {i : Nat} (hi : i < c.V.length) : (moreC c k).V[i]? = c.V[i]? := by
  induction k with
  | zero => rfl
  | succ k ih => rw [← ih]; exact List.getElem?_append_left (by have := (moreC_len c k).1; omega)
theorem moreC_new {c : Cells} (k : Nat) {i : Nat} (h1 : c.V.length ≤ i) (h2 : i < c.V.length + k) : (moreC c k).V[i]? = some (i : Int) := by
  induction k with
  | zero => omega
  | succ k ih =>
    have hl := (moreC_len c k).1
    show ((moreC c k).V ++ [((c.V.length + k : Nat) : Int)])[i]? = _
    by_cases e : i < c.V.length + k
    · rw [List.getElem?_append_left (by omega)]; exact ih e
    · have : i = c.V.length + k := by omega
      subst this
      rw [List.getElem?_append_right (by omega), hl]; simp
theorem moreC_next (c : Cells) (k : Nat) : cellsI (moreC c (k + 1)).V = cellsI (moreC c k).V ++ [.int .i64 ((c.V.length + k : Nat) : Int)] ∧ cellsP (moreC c (k + 1)).N = cellsP (moreC c k).N ++ [.int .i64 (-1), .int .i64 0] :=
  ⟨by show cellsI (_ ++ _) = _; rw [cellsI_append]; rfl, by show cellsP (_ ++ _) = _; rw [cellsP_append]; rfl⟩

theorem row_some {w : World} {base size n : Nat} {e : TypeId} {v : Value} {xs : List Value} (h : w.ownsRow base e size v n xs) (h0 : 0 < n) : ∃ g c, v = .slice (some ⟨g, 0, none⟩) n c ∧ base ≤ g ∧ g < w.heap.size ∧ n ≤ c := by
  rcases h.2 with ⟨_, e⟩ | ⟨g, cap, cur, rfl, hb, hg, hc, _⟩
  · omega
  · exact ⟨g, cap, rfl, hb, (Array.getElem?_eq_some_iff.1 hg).1, hc⟩
/-- cells in the making, in a box; a note in the box behind -/
structure GrowS (w wr : World) (B : Nat) (L1 L2 L3 : List Value) (n1 n2 n3 g1 k1 g2 k2 g3 k3 : Nat) : Prop where
  box : Box3 wr B (.slice (some ⟨g1, 0, none⟩) n1 k1) (.slice (some ⟨g2, 0, none⟩) n2 k2) (.slice (some ⟨g3, 0, none⟩) n3 k3)
  note : OwnC wr (B + 1) [.int .i64 (-1), .int .i64 0]
  rv : wr.ownsRow (w.heap.size + 2) 3 1 (.slice (some ⟨g1, 0, none⟩) n1 k1) n1 L1
  rn : wr.ownsRow (w.heap.size + 2) 85 2 (.slice (some ⟨g2, 0, none⟩) n2 k2) n2 L2
  m : OwnC wr g3 L3
  d1 : g1 ≠ B ∧ g1 ≠ B + 1 ∧ g1 ≠ g2 ∧ g1 ≠ g3
  d2 : g2 ≠ B ∧ g2 ≠ B + 1 ∧ g2 ≠ g3
  d3 : g3 ≠ B ∧ g3 ≠ B + 1
  lo : w.heap.size + 2 ≤ B ∧ w.heap.size + 2 ≤ g3
  q : Q w wr
theorem GrowS.q' {w wr W : World} {B : Nat} {L1 L2 L3 : List Value} {n1 n2 n3 g1 k1 g2 k2 g3 k3 : Nat} (h : GrowS w wr B L1 L2 L3 n1 n2 n3 g1 k1 g2 k2 g3 k3) (q : Q wr W) : GrowS w W B L1 L2 L3 n1 n2 n3 g1 k1 g2 k2 g3 k3 :=
  ⟨h.box.q q, h.note.q q, row_kept h.rv q (Nat.le_refl _), row_kept h.rn q (Nat.le_refl _), h.m.q q, h.d1, h.d2, h.d3, h.lo, h.q.trans q⟩
/-- a number more, and its place in the box -/
theorem GrowS.putV {w wr W : World} {B : Nat} {L1 L2 L3 L : List Value} {n1 n2 n3 g1 k1 g2 k2 g3 k3 n g k : Nat} (h : GrowS w wr B L1 L2 L3 n1 n2 n3 g1 k1 g2 k2 g3 k3) (hg : wr.grownBy W (some g1)) (ho : W.ownsRow (w.heap.size + 2) 3 1 (.slice (some ⟨g, 0, none⟩) n k) n L) (he : g = g1 ∨ g = wr.heap.size) :
    GrowS w (W.setCell ⟨B, 0, none⟩ (.slice (some ⟨g, 0, none⟩) n k)) B L L2 L3 n n2 n3 g k g2 k2 g3 k3 := by
  obtain ⟨a, b, c, d⟩ := h.d1
  obtain ⟨a2, b2, c2⟩ := h.d2
  obtain ⟨a3, b3⟩ := h.d3
  have hBl := h.box.lt
  have hNl := h.note.1
  have hml := h.m.1
  have h2l := (h.rn.lt g2 rfl).2
  have hs := setCell_grown W B 0 (.slice (some ⟨g, 0, none⟩) n k)
  have lo1 := (h.rv.lt g1 rfl).1
  have lo2 := h.lo
  refine ⟨(h.box.grown hg a).set0 _, (h.note.grown hg (by intro e; injection e with e; exact b e)).grown hs (by intro e; injection e with e; omega), row_far ho hs (by omega), row_far (row_far h.rn hg c) hs (by omega), (h.m.grown hg (by intro e; injection e with e; exact d e)).grown hs (by intro e; injection e with e; omega), by omega, h.d2, h.d3, h.lo, ?_⟩
  exact grown_q hs (grown_q hg h.q (by omega)) (by omega)
theorem GrowS.putN {w wr W : World} {B : Nat} {L1 L2 L3 L : List Value} {n1 n2 n3 g1 k1 g2 k2 g3 k3 n g k : Nat} (h : GrowS w wr B L1 L2 L3 n1 n2 n3 g1 k1 g2 k2 g3 k3) (hg : wr.grownBy W (some g2)) (ho : W.ownsRow (w.heap.size + 2) 85 2 (.slice (some ⟨g, 0, none⟩) n k) n L) (he : g = g2 ∨ g = wr.heap.size) :
    GrowS w (W.setCell ⟨B, 1, none⟩ (.slice (some ⟨g, 0, none⟩) n k)) B L1 L L3 n1 n n3 g1 k1 g k g3 k3 := by
  obtain ⟨a, b, c, d⟩ := h.d1
  obtain ⟨a2, b2, c2⟩ := h.d2
  obtain ⟨a3, b3⟩ := h.d3
  have hBl := h.box.lt
  have hNl := h.note.1
  have hml := h.m.1
  have h1l := (h.rv.lt g1 rfl).2
  have hs := setCell_grown W B 1 (.slice (some ⟨g, 0, none⟩) n k)
  have lo1 := (h.rn.lt g2 rfl).1
  have lo2 := h.lo
  refine ⟨(h.box.grown hg a2).set1 _, (h.note.grown hg (by intro e; injection e with e; exact b2 e)).grown hs (by intro e; injection e with e; omega), row_far (row_far h.rv hg (by omega)) hs (by omega), row_far ho hs (by omega), (h.m.grown hg (by intro e; injection e with e; exact c2 e)).grown hs (by intro e; injection e with e; omega), by omega, by omega, h.d3, h.lo, ?_⟩
  exact grown_q hs (grown_q hg h.q (by omega)) (by omega)
def lenAt (w : World) (B : Nat) : Nat := match w.cell? ⟨B, 0, none⟩ with
  | some (.slice _ n _) => n
  | _ => 0
theorem lenAt_box {w : World} {B n k : Nat} {A : Option Addr} (h : w.cell? ⟨B, 0, none⟩ = some (.slice A n k)) : lenAt w B = n := by unfold lenAt; rw [h]

set_option maxRecDepth 100000 in
set_option maxHeartbeats 4000000 in
theorem grown12 (c : Cells) (n : Nat) (A D E : Option Addr) (n1 k1 n2 k2 n3 k3 : Nat) (w : World) (h1 : n1 = c.V.length) (h2 : n2 = c.N.length) (h3 : n3 = c.M.length) (h : Rd w c A k1 D k2 E k3) (hf : Few c 2000) (hn : c.V.length < n) (hn2 : n ≤ 4000) :
    Calls Try.prog 27 #[.agg #[.slice A n1 k1, .slice D n2 k2, .slice E n3 k3], .int .i64 (n : Int)] w (OPost (moreC c (n - c.V.length)) w) := by
  subst h1 h2 h3
  obtain ⟨W0, hW0, q0, hz0, hB, hX⟩ := boxes w (Value.slice A c.V.length k1) (Value.slice D c.N.length k2) (Value.slice E c.M.length k3) 29
  have HB := Lib.hid hB
  have HX := Lib.hid hX
  have HR := Lib.hid (h.q q0)
  have HZ := Lib.hid hz0
  have HW := Lib.hid hW0
  have Hf := Lib.hid hf
  obtain ⟨j0, hi, hy0, hy1, hy2⟩ := info_parts Tr.intInfo
  have Hi := Lib.hid hi
  have Hy0 := Lib.hid hy0
  have Hy1 := Lib.hid hy1
  have Hy2 := Lib.hid hy2
  clear hi hy0 hy1 hy2
  obtain ⟨j1, hi, hy0, hy1, hy2⟩ := info_parts Tr.noteInfo
  have Gi := Lib.hid hi
  have Gy0 := Lib.hid hy0
  have Gy1 := Lib.hid hy1
  have Gy2 := Lib.hid hy2
  clear hi hy0 hy1 hy2 h hB hX hz0 hW0
  go_enter Try.func27, Try.ntmps27
  go_upto_region 1 with fail
  rw [← HW.out]
  clear HW
  have C := Lib.hid (addR_any c A D E _ k1 _ k2 _ k3 W0 rfl rfl rfl HR.out ⟨by have := hf.1; omega, by have := hf.2.1; omega, by have := hf.2.2; omega⟩)
  have c0 := HB.out.c0
  have c1 := HB.out.c1
  have c2 := HB.out.c2
  clear hf
  go_upto_region 2 with (go_at_call 52; refine C.out.mono ?_; rintro e w1 ⟨g1, l1, g2, l2, g3, l3, rfl, hO⟩; have HO := Lib.hid hO; clear hO)
  clear c0 c1 c2
  have q2 := (Q.refl w1).alloc (Obj.cells #[.slice (some ⟨g1, 0, none⟩) (growC c (c.V.length : Int)).V.length l1, .slice (some ⟨g2, 0, none⟩) (growC c (c.V.length : Int)).N.length l2, .slice (some ⟨g3, 0, none⟩) (growC c (c.V.length : Int)).M.length l3] 29)
  have HO2 := Lib.hid (HO.out.more q2)
  have HB2 := Lib.hid (Box3.new w1 (.slice (some ⟨g1, 0, none⟩) (growC c (c.V.length : Int)).V.length l1) (.slice (some ⟨g2, 0, none⟩) (growC c (c.V.length : Int)).N.length l2) (.slice (some ⟨g3, 0, none⟩) (growC c (c.V.length : Int)).M.length l3) 29)
  have HXw := Lib.hid ((HX.out.q HO.out.o.q).q q2)
  have HQ0 := Lib.hid (q0.trans (HO.out.o.q.trans q2))
  have s1 := (HO.out.rv.lt g1 rfl)
  have s2 := (HO.out.rn.lt g2 rfl)
  have s3 := HO.out.o.m.1
  have s4 := HO.out.o.o3
  have z1 : (growC c (c.V.length : Int)).V.length = c.V.length + 1 := by simp [growC]
  have z2 : (growC c (c.V.length : Int)).N.length = c.N.length + 1 := by simp [growC]
  have z3 : (growC c (c.V.length : Int)).M.length = c.M.length := rfl
  rw [z1, z2, z3] at HB2 HXw HO2 HQ0
  have HZ2 : Hid ((w1.alloc (Obj.cells #[.slice (some ⟨g1, 0, none⟩) (c.V.length + 1) l1, .slice (some ⟨g2, 0, none⟩) (c.N.length + 1) l2, .slice (some ⟨g3, 0, none⟩) c.M.length l3] 29)).heap.size = w1.heap.size + 1) := by unfold Hid; simp
  rw [z1, z2, z3]
  generalize w1.alloc (Obj.cells #[.slice (some ⟨g1, 0, none⟩) (c.V.length + 1) l1, .slice (some ⟨g2, 0, none⟩) (c.N.length + 1) l2, .slice (some ⟨g3, 0, none⟩) c.M.length l3] 29) = W1 at *
  generalize w1.heap.size = B at *
  have b0 := HB2.out.c0
  have b1 := HB2.out.c1
  have b2 := HB2.out.c2
  have y0 : W1.cell? ⟨g2, c.N.length * 2, none⟩ = some (.int .i64 (-1)) := by
    have := (HO2.out.o.n.2 (c.N.length * 2) (.int .i64 (-1)) (by rw [show (growC c (c.V.length : Int)).N = c.N ++ [(-1, 0)] from rfl, cellsP_append, List.getElem?_append_right (by rw [cellsP_len]; exact Nat.le_refl _), cellsP_len]; simp [cellsP])).1
    exact this
  have y1 : W1.cell? ⟨g2, c.N.length * 2 + 1, none⟩ = some (.int .i64 0) := by
    have := (HO2.out.o.n.2 (c.N.length * 2 + 1) (.int .i64 0) (by rw [show (growC c (c.V.length : Int)).N = c.N ++ [(-1, 0)] from rfl, cellsP_append, List.getElem?_append_right (by rw [cellsP_len]; omega), cellsP_len]; simp [cellsP])).1
    exact this
  have Hn2 := Lib.hid hn2
  have HL3 : Hid (c.M.length ≤ l3) := HO.out.o.lm
  have Hn := Lib.hid hn
  have hN : c.N.length ≤ 2000 := Hf.out.2.1
  have hw9 : wrap64 (c.N.length : Int) = (c.N.length : Int) := by unfold wrap64; omega
  have qn := (Q.refl W1).alloc (Obj.cells #[.int .i64 (-1), .int .i64 0] 85)
  have HXn := Lib.hid (HXw.out.q qn)
  have HS0 : Hid (GrowS w (W1.alloc (Obj.cells #[.int .i64 (-1), .int .i64 0] 85)) B (cellsI (moreC c 1).V) (cellsP (moreC c 1).N) (cellsI c.M) (c.V.length + 1) (c.N.length + 1) c.M.length g1 l1 g2 l2 g3 l3) := by
    have hz := HZ.out
    have hz2 := HZ2.out
    have d12 := HO.out.o.d12
    have d13 := HO.out.o.d13
    have d23 := HO.out.o.d23
    have rv := HO2.out.rv
    have rn := HO2.out.rn
    rw [z1, hz] at rv
    rw [z2, hz] at rn
    have ho := OwnC.of_row (World.ownsRow_lit (e := 85) (size := 2) W1 #[.int .i64 (-1), .int .i64 0] 1 (Nat.le_refl _) (by unfold maxLen; omega) rfl)
    rw [hz2] at ho
    exact ⟨HB2.out.q qn, ho, row_kept rv qn (Nat.le_refl _), row_kept rn qn (Nat.le_refl _), HO2.out.o.m.q qn, by omega, by omega, by omega, by omega, HQ0.out.trans qn⟩
  clear q0 qn s1 s2 s3 s4 z1 z2 z3 b0 b2 hn2
  go_wp2_with fail
  generalize W1.alloc (Obj.cells #[.int .i64 (-1), .int .i64 0] 85) = W2 at *
  clear b1 y0 y1 hw9
  go_loopw [17] (fun _ wr => ∃ k h1 m1 h2 m2, 1 ≤ k ∧ c.V.length + k ≤ n ∧ Hid (GrowS w wr B (cellsI (moreC c k).V) (cellsP (moreC c k).N) (cellsI c.M) (c.V.length + k) (c.N.length + k) c.M.length h1 m1 h2 m2 g3 l3) ∧ Hid (Box3 wr (w.heap.size + 1) (Value.slice none 0 0) (Value.slice none 0 0) (Value.slice none 0 0))) (fun _ wr => n - lenAt wr B)
  case atStart => exact ⟨1, g1, l1, g2, l2, Nat.le_refl _, by have := Hn.out; omega, HS0, HXn⟩
  case round =>
    obtain ⟨k, h1, m1, h2, m2, hk1, hkn, HG, HX⟩ := hrel
    obtain ⟨N1, hN1⟩ : ∃ N1, N1 = c.V.length + k := ⟨_, rfl⟩
    obtain ⟨N2, hN2⟩ : ∃ N2, N2 = c.N.length + k := ⟨_, rfl⟩
    have hNb : N2 ≤ 8000 := by have := Hn2.out; omega
    have hNa : N1 ≤ 4000 := by have := Hn2.out; omega
    have HE : Hid (N1 = c.V.length + k ∧ N2 = c.N.length + k) := ⟨hN1, hN2⟩
    rw [← hN1, ← hN2] at HG
    have b0 := HG.out.box.c0
    have b1 := HG.out.box.c1
    have b2 := HG.out.box.c2
    have f0 := HG.out.box.f0
    have f1 := HG.out.box.f1
    have hkn' : N1 ≤ n := by omega
    have HM0 : Hid (lenAt wr B = N1) := lenAt_box b0
    clear hN hkn hN1 hN2
    by_cases hlt : N1 < n
    · have qa := (Q.refl wr).alloc (Obj.cells #[.int .i64 (N1 : Int)] 3)
      have HGa := Lib.hid (HG.out.q' qa)
      have Hs := Lib.hid (src_block (heap_alloc_new wr (Obj.cells #[.int .i64 (N1 : Int)] 3)))
      have HSz : Hid (w.heap.size + 2 ≤ (wr.alloc (Obj.cells #[.int .i64 (N1 : Int)] 3)).heap.size) := by unfold Hid; have := HG.out.lo.1; have := HG.out.box.lt; simp; omega
      have HXa := Lib.hid (HX.out.q qa)
      clear qa
      go_upto_region 4 with fail
      go_upto_region 5 with (at_builtin; refine wpList_append_src _ rfl (.tmp 23) (.tmp 27) _ rfl (w.heap.size + 2) 3 j0 _ 1 8 Try.underlying24 Hi.out Hy0.out Hy1.out Hy2.out rfl (by omega) (.slice (some ⟨h1, 0, none⟩) N1 m1) N1 _ rfl HGa.out.rv (some ⟨wr.heap.size, 0, none⟩) 1 1 [.int .i64 (N1 : Int)] rfl rfl Hs.out (by simp [Value.oneCell']) (by unfold maxLen; omega) (by omega) HSz.out ?_; intro v' w5 own5 gr5 hb5; obtain ⟨h5, m5, rfl, -, -, -⟩ := row_some own5 (by omega); have Own5 := Lib.hid own5; have Gr5 := Lib.hid gr5; have Hb5 := Lib.hid hb5; clear own5 gr5 hb5; have bx := HGa.out.box.grown Gr5.out HGa.out.d1.1; have x0 := bx.c0; have x1 := bx.c1; have xf := bx.f0)
      have HG6 := Lib.hid (HGa.out.putV Gr5.out Own5.out (by have := Hb5.out; simpa [Value.ownBlock] using this))
      have HX6 := Lib.hid ((HXa.out.grown Gr5.out (show h1 ≠ w.heap.size + 1 by have := (HGa.out.rv.lt h1 rfl).1; omega)).grown (setCell_grown w5 B 0 (.slice (some ⟨h5, 0, none⟩) (N1 + 1) m5)) (by have := HGa.out.lo.1; omega))
      clear bx x0 x1 xf b0 b1 b2 f0 f1 HG HGa HXa HX Hs HSz Own5 Gr5 Hb5
      generalize w5.setCell ⟨B, 0, none⟩ (.slice (some ⟨h5, 0, none⟩) (N1 + 1) m5) = W6 at *
      have b0 := HG6.out.box.c0
      have b1 := HG6.out.box.c1
      have b2 := HG6.out.box.c2
      have f1 := HG6.out.box.f1
      have n0 : W6.cell? ⟨W1.heap.size, 0, none⟩ = some (.int .i64 (-1)) := by rw [HZ2.out]; exact (HG6.out.note.2 0 _ rfl).1
      have n1 : W6.cell? ⟨W1.heap.size, 1, none⟩ = some (.int .i64 0) := by rw [HZ2.out]; exact (HG6.out.note.2 1 _ rfl).1
      have qa := (Q.refl W6).alloc (Obj.cells #[.int .i64 (-1), .int .i64 0] 85)
      have HGa := Lib.hid (HG6.out.q' qa)
      have Hs := Lib.hid (src_block (heap_alloc_new W6 (Obj.cells #[.int .i64 (-1), .int .i64 0] 85)))
      have HSz : Hid (w.heap.size + 2 ≤ (W6.alloc (Obj.cells #[.int .i64 (-1), .int .i64 0] 85)).heap.size) := by unfold Hid; have := HG6.out.lo.1; have := HG6.out.box.lt; simp; omega
      have HXa := Lib.hid (HX6.out.q qa)
      clear qa
      go_wp2_with (at_builtin; refine wpList_append_src _ rfl (.tmp 31) (.tmp 33) _ rfl (w.heap.size + 2) 85 j1 _ 2 16 Try.underlying27 Gi.out Gy0.out Gy1.out Gy2.out rfl (by omega) (.slice (some ⟨h2, 0, none⟩) N2 m2) N2 _ rfl HGa.out.rn (some ⟨W6.heap.size, 0, none⟩) 1 1 [.int .i64 (-1), .int .i64 0] rfl rfl Hs.out (by simp [Value.oneCell']) (by unfold maxLen; omega) (by omega) HSz.out ?_; intro v' w7 own7 gr7 hb7; obtain ⟨h7, m7, rfl, -, -, -⟩ := row_some own7 (by omega); have Own7 := Lib.hid own7; have Gr7 := Lib.hid gr7; have Hb7 := Lib.hid hb7; clear own7 gr7 hb7; have bx := HGa.out.box.grown Gr7.out HGa.out.d2.1; have x0 := bx.c0; have x1 := bx.c1; have xf := bx.f1)
      have HG8 := Lib.hid (HGa.out.putN Gr7.out Own7.out (by have := Hb7.out; simpa [Value.ownBlock] using this))
      have HX8 := Lib.hid ((HXa.out.grown Gr7.out (show h2 ≠ w.heap.size + 1 by have := (HGa.out.rn.lt h2 rfl).1; omega)).grown (setCell_grown w7 B 1 (.slice (some ⟨h7, 0, none⟩) (N2 + 1) m7)) (by have := HGa.out.lo.1; omega))
      have HM8 : Hid (lenAt (w7.setCell ⟨B, 1, none⟩ (.slice (some ⟨h7, 0, none⟩) (N2 + 1) m7)) B = N1 + 1) := lenAt_box HG8.out.box.c0
      have eL : cellsI (moreC c k).V ++ [.int .i64 (N1 : Int)] = cellsI (moreC c (k + 1)).V := by rw [HE.out.1]; exact (moreC_next c k).1.symm
      rw [eL, ← (moreC_next c k).2] at HG8
      have EL := Lib.hid eL
      clear eL
      go_roundw
      case rel => exact ⟨k + 1, h5, m5, h7, m7, by omega, by have := HE.out.1; omega, by rw [show c.V.length + (k + 1) = N1 + 1 by have := HE.out.1; omega, show c.N.length + (k + 1) = N2 + 1 by have := HE.out.2; omega]; exact HG8, HX8⟩
      case measure => rw [HM0.out, HM8.out]; omega
    · have e : N1 = n := by omega
      have HNe : Hid (n = c.V.length + k ∧ n - c.V.length = k) := by have := HE.out.1; unfold Hid; omega
      have x0 := HX.out.c0
      have x1 := HX.out.c1
      have x2 := HX.out.c2
      have xf0 := HX.out.f0
      have xf1 := HX.out.f1
      have xf2 := HX.out.f2
      have bz := HX.out.all (.slice (some ⟨h1, 0, none⟩) N1 m1) (.slice (some ⟨h2, 0, none⟩) N2 m2) (.slice (some ⟨g3, 0, none⟩) c.M.length l3)
      have y0 := bz.c0
      have y1 := bz.c1
      have y2 := bz.c2
      clear bz e
      go_wp2_with fail
      refine bodyPost_ret (v := .agg #[.slice (some ⟨h1, 0, none⟩) N1 m1, .slice (some ⟨h2, 0, none⟩) N2 m2, .slice (some ⟨g3, 0, none⟩) c.M.length l3]) (by simp [results, Try.f27, go_sem, y0, y1, y2]) rfl ⟨some ⟨h1, 0, none⟩, m1, some ⟨h2, 0, none⟩, m2, some ⟨g3, 0, none⟩, l3, ?_, ?_⟩
      · rw [HNe.out.2, (moreC_len c k).1, (moreC_len c k).2.1, (moreC_len c k).2.2, ← HE.out.1, ← HE.out.2]
      · rw [HNe.out.2]
        have hg := set3_grown wr (w.heap.size + 1) (.slice (some ⟨h1, 0, none⟩) N1 m1) (.slice (some ⟨h2, 0, none⟩) N2 m2) (.slice (some ⟨g3, 0, none⟩) c.M.length l3)
        have e1 := (HG.out.rv.lt h1 rfl).1
        have e2 := (HG.out.rn.lt h2 rfl).1
        have e3 := HG.out.lo.2
        obtain ⟨_, _, hc1, _, _, hn1⟩ := row_some HG.out.rv (by have := HE.out.1; omega)
        obtain ⟨_, _, hc2, _, _, hn2⟩ := row_some HG.out.rn (by have := HE.out.2; omega)
        injection hc1 with _ _ hc1
        injection hc2 with _ _ hc2
        exact ⟨fun _ => ⟨h1, rfl, by omega, OwnC.of_row (row_far HG.out.rv hg (by omega))⟩, fun _ => ⟨h2, rfl, by omega, OwnC.of_row (row_far HG.out.rn hg (by omega))⟩, by rw [(moreC_len c k).2.2]; exact fun _ => ⟨g3, rfl, by omega, HG.out.m.grown hg (by intro e; injection e with e; omega)⟩, by rw [(moreC_len c k).1, ← HE.out.1]; omega, by rw [(moreC_len c k).2.1, ← HE.out.2]; omega, by rw [(moreC_len c k).2.2]; exact HL3.out, grown_q hg HG.out.q (by omega)⟩
end Go.Proofs.Ytakfhlakdlmhjaa.Ig

namespace Go.Proofs.Ytakfhlakdlmhjaa.Hs
open Go.RowKit Kit

/-- a slice value that reads as these numbers, in a block of this kind -/
def IntsP (w : World) (P : Nat → Prop) (A : Option Addr) (xs : List Int) : Prop := 0 < xs.length → ∃ ad, A = some ad ∧ P ad.block ∧ ad.block < w.heap.size ∧ ∀ i x, xs[i]? = some x → w.cell? (ad.add i) = some (.int .i64 x)
def KeysP (w : World) (P : Nat → Prop) (A : Option Addr) (ks : List (List Int)) : Prop :=
  0 < ks.length → ∃ ad, A = some ad ∧ P ad.block ∧ ad.block < w.heap.size ∧ ∀ i k, ks[i]? = some k → ∃ a c, k.length ≤ c ∧ w.cell? (ad.add i) = some (.slice a k.length c) ∧ IntsP w P a k
section
variable {w w' : World} {P : Nat → Prop} {A : Option Addr}
theorem IntsP.ints {xs : List Int} (h : IntsP w P A xs) : Ints w w.heap.size A xs := fun h0 => by
  obtain ⟨ad, e, _, hl, hc⟩ := h h0
  exact ⟨ad, e, hl, hc⟩
theorem KeysP.keys {ks : List (List Int)} (h : KeysP w P A ks) : Keys w w.heap.size A ks := fun h0 => by
  obtain ⟨ad, e, _, hl, hc⟩ := h h0
  exact ⟨ad, e, hl, fun i k hk => by obtain ⟨a, c, h1, h2, h3⟩ := hc i k hk; exact ⟨a, c, h1, h2, h3.ints⟩⟩
theorem IntsP.q {xs : List Int} (h : IntsP w P A xs) (q : Q w w') : IntsP w' P A xs := fun h0 => by
  obtain ⟨ad, e, hp, hl, hc⟩ := h h0
  exact ⟨ad, e, hp, Nat.lt_of_lt_of_le hl q.size, fun i x hx => (q.cell (by rw [add_block]; exact hl)).trans (hc i x hx)⟩
theorem KeysP.q {ks : List (List Int)} (h : KeysP w P A ks) (q : Q w w') : KeysP w' P A ks := fun h0 => by
  obtain ⟨ad, e, hp, hl, hc⟩ := h h0
  exact ⟨ad, e, hp, Nat.lt_of_lt_of_le hl q.size, fun i k hk => by obtain ⟨a, c, h1, h2, h3⟩ := hc i k hk; exact ⟨a, c, h1, (q.cell (by rw [add_block]; exact hl)).trans h2, h3.q q⟩⟩
theorem Ints.p {lo : Nat} {xs : List Int} (h : Ints w lo A xs) (hlo : lo ≤ w.heap.size) (hP : ∀ b, b < lo → P b) : IntsP w P A xs := fun h0 => by
  obtain ⟨ad, e, hl, hc⟩ := h h0
  exact ⟨ad, e, hP _ hl, by omega, hc⟩
theorem Keys.p {lo : Nat} {ks : List (List Int)} (h : Keys w lo A ks) (hlo : lo ≤ w.heap.size) (hP : ∀ b, b < lo → P b) : KeysP w P A ks := fun h0 => by
  obtain ⟨ad, e, hl, hc⟩ := h h0
  exact ⟨ad, e, hP _ hl, by omega, fun i k hk => by obtain ⟨a, c, h1, h2, h3⟩ := hc i k hk; exact ⟨a, c, h1, h2, h3.p hlo hP⟩⟩
/-- another world, the same in blocks of this kind -/
theorem IntsP.to {W : World} {xs : List Int} (h : IntsP w P A xs) (hs : w.heap.size ≤ W.heap.size) (hW : ∀ p : Addr, P p.block → p.block < w.heap.size → W.cell? p = w.cell? p) : Ints W W.heap.size A xs := fun h0 => by
  obtain ⟨ad, e, hp, hl, hc⟩ := h h0
  exact ⟨ad, e, by omega, fun i x hx => by rw [hW _ (by rw [add_block]; exact hp) (by rw [add_block]; exact hl)]; exact hc i x hx⟩
theorem KeysP.to {W : World} {ks : List (List Int)} (h : KeysP w P A ks) (hs : w.heap.size ≤ W.heap.size) (hW : ∀ p : Addr, P p.block → p.block < w.heap.size → W.cell? p = w.cell? p) : Keys W W.heap.size A ks := fun h0 => by
  obtain ⟨ad, e, hp, hl, hc⟩ := h h0
  refine ⟨ad, e, by omega, fun i k hk => ?_⟩
  obtain ⟨a, c, h1, h2, h3⟩ := hc i k hk
  exact ⟨a, c, h1, by rw [hW _ (by rw [add_block]; exact hp) (by rw [add_block]; exact hl)]; exact h2, h3.to hs hW⟩
theorem IntsP.toP {W : World} {P' : Nat → Prop} {xs : List Int} (h : IntsP w P A xs) (hs : w.heap.size ≤ W.heap.size) (hW : ∀ p : Addr, P p.block → p.block < w.heap.size → W.cell? p = w.cell? p) (hP : ∀ b, P b → b < w.heap.size → P' b) : IntsP W P' A xs := fun h0 => by
  obtain ⟨ad, e, hp, hl, hc⟩ := h h0
  exact ⟨ad, e, hP _ hp hl, by omega, fun i x hx => by rw [hW _ (by rw [add_block]; exact hp) (by rw [add_block]; exact hl)]; exact hc i x hx⟩
theorem KeysP.toP {W : World} {P' : Nat → Prop} {ks : List (List Int)} (h : KeysP w P A ks) (hs : w.heap.size ≤ W.heap.size) (hW : ∀ p : Addr, P p.block → p.block < w.heap.size → W.cell? p = w.cell? p) (hP : ∀ b, P b → b < w.heap.size → P' b) : KeysP W P' A ks := fun h0 => by
  obtain ⟨ad, e, hp, hl, hc⟩ := h h0
  refine ⟨ad, e, hP _ hp hl, by omega, fun i k hk => ?_⟩
  obtain ⟨a, c, h1, h2, h3⟩ := hc i k hk
  exact ⟨a, c, h1, by rw [hW _ (by rw [add_block]; exact hp) (by rw [add_block]; exact hl)]; exact h2, h3.toP hs hW hP⟩
end
end Go.Proofs.Ytakfhlakdlmhjaa.Hs

namespace Go.Proofs.Ytakfhlakdlmhjaa.Ig
open Go.RowKit Kit Tr Uf
open Go.Proofs.Ytakfhlakdlmhjaa.Hs (Keys Ints BoxT KeysP IntsP)
/-- a slice value that reads these cells, in a block of this kind -/
def RdsP (w : World) (P : Nat → Prop) (A : Option Addr) (cs : List Value) : Prop := 0 < cs.length → ∃ ad, A = some ad ∧ P ad.block ∧ ad.block < w.heap.size ∧ ∀ j v, cs[j]? = some v → w.cell? (ad.add j) = some v
theorem RdsP.rds {w : World} {P : Nat → Prop} {A : Option Addr} {cs : List Value} (h : RdsP w P A cs) : Tr.Rds w w.heap.size A cs := fun h0 => by
  obtain ⟨ad, e, _, hl, hc⟩ := h h0
  exact ⟨ad, e, hl, hc⟩
theorem RdsP.toP {w W : World} {P P' : Nat → Prop} {A : Option Addr} {cs : List Value} (h : RdsP w P A cs) (hs : w.heap.size ≤ W.heap.size) (hW : ∀ p : Addr, P p.block → p.block < w.heap.size → W.cell? p = w.cell? p) (hP : ∀ b, P b → b < w.heap.size → P' b) : RdsP W P' A cs := fun h0 => by
  obtain ⟨ad, e, hp, hl, hc⟩ := h h0
  exact ⟨ad, e, hP _ hp hl, by omega, fun j v hj => by rw [hW _ (by rw [Tr.add_block]; exact hp) (by rw [Tr.add_block]; exact hl)]; exact hc j v hj⟩
theorem RdsP.of_own {w : World} {P : Nat → Prop} {g : Nat} {cs : List Value} (h : OwnC w g cs) (hP : P g) : RdsP w P (some ⟨g, 0, none⟩) cs := fun _ => ⟨_, rfl, hP, h.1, fun j v hv => by rw [Tr.add_zero_head]; exact (h.2 j v hv).1⟩
theorem RdsP.of_owno {w : World} {P : Nat → Prop} {lo : Nat} {A : Option Addr} {cs : List Value} (h : OwnO w lo A cs) (hP : ∀ b, lo ≤ b → P b) : RdsP w P A cs := fun h0 => by
  obtain ⟨g, rfl, hg, ho⟩ := h h0
  exact RdsP.of_own ho (hP g hg) h0
/-- what agrees: a store into a block that isn't of the kind -/
theorem agree_grown {w w' : World} {P : Nat → Prop} {B : Nat} (hg : w.grownBy w' (some B)) (hB : ¬ P B) : w.heap.size ≤ w'.heap.size ∧ ∀ p : Addr, P p.block → p.block < w.heap.size → w'.cell? p = w.cell? p := by
  refine ⟨hg.size, fun p hp hl => ?_⟩
  have := hg.block p.block hl (fun e => by injection e with e; rw [e] at hp; exact hB hp)
  simp only [World.cell?, this]
theorem agree_q {w w' : World} {P : Nat → Prop} (q : Q w w') : w.heap.size ≤ w'.heap.size ∧ ∀ p : Addr, P p.block → p.block < w.heap.size → w'.cell? p = w.cell? p := ⟨q.size, fun _ _ hl => q.cell hl⟩
theorem RowI.p {w : World} {g e : Nat} {v : Value} {l : List Int} (h : RowI w g e v l) (he : e ≤ w.heap.size) {P : Nat → Prop} (hP : ∀ b, g < b → b < e → P b) : ∃ a c, l.length ≤ c ∧ v = .slice a l.length c ∧ IntsP w P a l := by
  obtain ⟨A, c, rfl, hc, k⟩ := h.form
  refine ⟨A, c, hc, rfl, fun h0 => ?_⟩
  obtain ⟨ad, e1, h1, h2, h3⟩ := k h0
  exact ⟨ad, e1, hP _ h1 h2, by omega, fun i x hx => h3 i _ (by simp [cellsI, hx])⟩
theorem Tab.p {w : World} {g e : Nat} {ks : List (List Int)} (h : Tab w g e ks) {P : Nat → Prop} (hP : ∀ b, g ≤ b → b < e → P b) : KeysP w P (some ⟨g, 0, none⟩) ks := fun _ => by
  obtain ⟨cs, _, a, b, c⟩ := h.own
  refine ⟨_, rfl, hP g (Nat.le_refl _) h.lt, Nat.lt_of_lt_of_le h.lt h.le, fun i k hi => ?_⟩
  obtain ⟨v, d, r⟩ := c i k hi
  obtain ⟨A, m, hm, rfl, hI⟩ := r.p h.le (P := P) (fun b h1 h2 => hP b (Nat.le_of_lt h1) h2)
  exact ⟨A, m, hm, by rw [Tr.add_zero_head]; exact (a.2 i _ d).1, hI⟩
/-- a table, and empty rows behind -/
theorem tab_more {w w' : World} {g e m : Nat} {ks : List (List Int)} {cs : List Value} {v' : Value} (h : Tab w g e ks) (hcl : cs.length = ks.length) (hr : ∀ (y : Nat) (l : List Int), ks[y]? = some l → ∃ v, cs[y]? = some v ∧ RowI w g e v l)
    (ho : w'.ownsRow g 24 1 v' (ks.length + m) (cs ++ List.replicate m (.slice none 0 0))) (gr : w.grownBy w' (some g)) (ha : v'.ownBlock = some g ∨ v'.ownBlock = some w.heap.size) (hm : 0 < m) {P : Nat → Prop} (hP : ∀ b, g ≤ b ∧ b < e ∨ b = w.heap.size → P b) :
    ∃ A c, v' = .slice A (ks.length + m) c ∧ ks.length + m ≤ c ∧ KeysP w' P A (ks ++ List.replicate m []) := by
  obtain ⟨G, c, rfl, _, hGl, hc⟩ := row_some ho (by omega)
  have hG : G = g ∨ G = w.heap.size := by simpa [Value.ownBlock] using ha
  have hge := h.lt
  have hes := h.le
  refine ⟨_, c, rfl, hc, fun _ => ⟨_, rfl, hP G (by omega), hGl, fun i k hi => ?_⟩⟩
  have hO := OwnC.of_row ho
  by_cases hil : i < ks.length
  · rw [List.getElem?_append_left hil] at hi
    obtain ⟨v, d, r⟩ := hr i k hi
    have r' : RowI w' g e v k := r.keep gr (.inl (Nat.le_refl _))
    obtain ⟨a, cc, hcc, rfl, hI⟩ := r'.p (Nat.le_trans hes gr.size) (P := P) (fun b h1 h2 => hP b (.inl ⟨Nat.le_of_lt h1, h2⟩))
    exact ⟨a, cc, hcc, by rw [Tr.add_zero_head]; exact (hO.2 i _ (by rw [List.getElem?_append_left (by omega)]; exact d)).1, hI⟩
  · rw [List.getElem?_append_right (by omega), List.getElem?_replicate] at hi
    have hi2 : i - ks.length < m := by
      by_cases hx : i - ks.length < m
      · exact hx
      · rw [if_neg hx] at hi; cases hi
    rw [if_pos hi2] at hi
    injection hi with hi
    subst hi
    refine ⟨none, 0, Nat.le_refl _, ?_, fun h => absurd h (by simp)⟩
    rw [Tr.add_zero_head]
    exact (hO.2 i _ (by rw [List.getElem?_append_right (by omega), hcl, List.getElem?_replicate, if_pos hi2]; rfl)).1
theorem OwnC.src {w : World} {g : Nat} {cs : List Value} (h : OwnC w g cs) : Src w (some ⟨g, 0, none⟩) cs := fun _ => ⟨_, rfl, fun j v hv => by rw [Tr.add_zero_head]; exact (h.2 j v hv).1⟩

/-- a graph that can be read, in blocks of a kind -/
structure GRP (w : World) (K : Nat → Prop) (R : List Int) (c : Cells) (P T : List (List Int)) (F A D E Pa Ta : Option Addr) (cr k1 k2 k3 kp kt : Nat) : Prop where
  r : RdsP w K F (cellsI R)
  v : RdsP w K A (cellsI c.V)
  n : RdsP w K D (cellsP c.N)
  m : RdsP w K E (cellsI c.M)
  p : KeysP w K Pa P
  t : KeysP w K Ta T
  lr : R.length ≤ cr
  lv : c.V.length ≤ k1
  ln : c.N.length ≤ k2
  lm : c.M.length ≤ k3
  lp : P.length ≤ kp
  lt : T.length ≤ kt
theorem GRP.to {w W : World} {K K' : Nat → Prop} {R : List Int} {c : Cells} {P T : List (List Int)} {F A D E Pa Ta : Option Addr} {cr k1 k2 k3 kp kt : Nat} (h : GRP w K R c P T F A D E Pa Ta cr k1 k2 k3 kp kt) (ha : w.heap.size ≤ W.heap.size ∧ ∀ p : Addr, K p.block → p.block < w.heap.size → W.cell? p = w.cell? p) (hK : ∀ b, K b → b < w.heap.size → K' b) : GRP W K' R c P T F A D E Pa Ta cr k1 k2 k3 kp kt :=
  ⟨h.r.toP ha.1 ha.2 hK, h.v.toP ha.1 ha.2 hK, h.n.toP ha.1 ha.2 hK, h.m.toP ha.1 ha.2 hK, h.p.toP ha.1 ha.2 hK, h.t.toP ha.1 ha.2 hK, h.lr, h.lv, h.ln, h.lm, h.lp, h.lt⟩
theorem GRP.rd {w : World} {K : Nat → Prop} {R : List Int} {c : Cells} {P T : List (List Int)} {F A D E Pa Ta : Option Addr} {cr k1 k2 k3 kp kt : Nat} (h : GRP w K R c P T F A D E Pa Ta cr k1 k2 k3 kp kt) : Rd w c A k1 D k2 E k3 := ⟨h.v.rds, h.n.rds, h.m.rds, h.lv, h.ln, h.lm⟩
theorem GRP.q {w W : World} {K : Nat → Prop} {R : List Int} {c : Cells} {P T : List (List Int)} {F A D E Pa Ta : Option Addr} {cr k1 k2 k3 kp kt : Nat} (h : GRP w K R c P T F A D E Pa Ta cr k1 k2 k3 kp kt) (q : Q w W) : GRP W K R c P T F A D E Pa Ta cr k1 k2 k3 kp kt := h.to (agree_q q) (fun _ h _ => h)
/-- its value -/
def gvP (R : List Int) (c : Cells) (P T : List (List Int)) (F A D E Pa Ta : Option Addr) (cr k1 k2 k3 kp kt : Nat) : Value := .agg #[.slice F R.length cr, .slice A c.V.length k1, .slice D c.N.length k2, .slice E c.M.length k3, .slice Pa P.length kp, .slice Ta T.length kt]
/-- a call's answer: a graph in memory of the call's own -/
def GAns (R : List Int) (c : Cells) (P T : List (List Int)) (w : World) (e : Ending) (w' : World) : Prop :=
  ∃ F A D E Pa Ta cr k1 k2 k3 kp kt, e = .returned (gvP R c P T F A D E Pa Ta cr k1 k2 k3 kp kt) ∧ GRP w' (fun b => w.heap.size ≤ b) R c P T F A D E Pa Ta cr k1 k2 k3 kp kt ∧ Q w w'
theorem gans {w w' : World} {R : List Int} {c : Cells} {P T : List (List Int)} {F A D E Pa Ta : Option Addr} {cr k1 k2 k3 kp kt : Nat} (h : GRP w' (fun b => w.heap.size ≤ b) R c P T F A D E Pa Ta cr k1 k2 k3 kp kt) (q : Q w w') : GAns R c P T w (.returned (gvP R c P T F A D E Pa Ta cr k1 k2 k3 kp kt)) w' := ⟨F, A, D, E, Pa, Ta, cr, k1, k2, k3, kp, kt, rfl, h, q⟩
theorem GOut.grp {w w' : World} {R : List Int} {c : Cells} {P T : List (List Int)} {g0 g1 g2 g3 gp ep gs es : Nat} (h : GOut w w' R c P T g0 g1 g2 g3 gp ep gs es) {K : Nat → Prop} (hK : ∀ b, g0 ≤ b → b < w'.heap.size → K b) : GRP w' K R c P T (some ⟨g0, 0, none⟩) (some ⟨g1, 0, none⟩) (some ⟨g2, 0, none⟩) (some ⟨g3, 0, none⟩) (some ⟨gp, 0, none⟩) (some ⟨gs, 0, none⟩) R.length c.V.length c.N.length c.M.length P.length T.length := by
  obtain ⟨r, v, n, m, p, t, o0, o1, o2, o3, o4, o5, q⟩ := h
  have := p.le
  have := t.le
  have := p.lt
  have := t.lt
  exact ⟨.of_own r (hK _ (by omega) r.1), .of_own v (hK _ (by omega) v.1), .of_own n (hK _ (by omega) n.1), .of_own m (hK _ (by omega) m.1), p.p (fun b h1 h2 => hK b (by omega) (by omega)), t.p (fun b h1 h2 => hK b (by omega) (by omega)), Nat.le_refl _, Nat.le_refl _, Nat.le_refl _, Nat.le_refl _, Nat.le_refl _, Nat.le_refl _⟩
end Go.Proofs.Ytakfhlakdlmhjaa.Ig

namespace Go.Proofs.Ytakfhlakdlmhjaa.Kit

section
variable {P : Program} {ops : Array Oper} {Q : Exit → Act → World → Prop} {S : World → Prop}
theorem take_w {i : Nat} {oi : Oper} {d : Option Tmp} {v : Value} {fuel : Nat} {listed : Array Bool} {a : Act} {w : World} (hi : ops[i]? = some oi)
    (hs : Region.noSelect ops = true) (hf : Region.free .any ops listed i = true) (hr : (Region.ready .any ops listed).contains i = true)
    (hQ : ∀ c a w, Q (.panic c) (a.put d v) w → Q (.panic c) a w) (hd : oi.dst = d) (hw : Region.wanted oi (yielded ops a.tmps) = true) (hy : ∀ w, S w → (execOp a.eval oi).run P w = .ok (.value v) w) (hS : S w)
    (h : wpAnyH P .any ops Q S fuel (listed.setIfInBounds i true) (a.put d v) w) : wpAnyH P .any ops Q S (fuel + 1) listed a w := by
  subst hd
  exact wpAnyH_take hi hs hf hr hQ (.inl ⟨hw, hy⟩) hS h
theorem take_u {i : Nat} {oi : Oper} {d : Option Tmp} {fuel : Nat} {listed : Array Bool} {a : Act} {w : World} (hi : ops[i]? = some oi)
    (hs : Region.noSelect ops = true) (hf : Region.free .any ops listed i = true) (hr : (Region.ready .any ops listed).contains i = true)
    (hQ : ∀ c a w, Q (.panic c) (a.put d undef) w → Q (.panic c) a w) (hd : oi.dst = d) (hw : Region.wanted oi (yielded ops a.tmps) = false) (hS : S w)
    (h : wpAnyH P .any ops Q S fuel (listed.setIfInBounds i true) (a.put d undef) w) : wpAnyH P .any ops Q S (fuel + 1) listed a w := by
  subst hd
  exact wpAnyH_take hi hs hf hr hQ (.inr ⟨hw, rfl⟩) hS h
theorem call_w {i : Nat} {o : Oper} {fuel : Nat} {listed : Array Bool} {a : Act} {w : World} (ho : ops[i]? = some o) (hr : Region.ready .any ops listed = [i])
    (hw : Region.wanted o (yielded ops a.tmps) = true)
    (h : ∀ K' : Act → World → Prop, Shut (∀ a w, S w → (S w → wpAnyH P .any ops Q S fuel (listed.setIfInBounds i true) a w) → K' a w) → Oper.wp P o a w K' Q) :
    wpAnyH P .any ops Q S (fuel + 1) listed a w :=
  wpAnyH_ready hr (by simp) (AllReadyH.cons ho (fun K' hK => by rw [if_pos hw]; exact h K' hK) AllReadyH.nil)
end
end Go.Proofs.Ytakfhlakdlmhjaa.Kit

namespace Go.Proofs.Ytakfhlakdlmhjaa.Kit

section
variable {P : Program} {md : Region.Mode} {ops : Array Oper} {Q : Exit → Act → World → Prop} {S : World → Prop} {z : Nat}
def wpAnyT (P : Program) (md : Region.Mode) (ops : Array Oper) (Q : Exit → Act → World → Prop) (S : World → Prop) (z : Nat) : Nat → Array Bool → Act → World → Prop
  | 0, listed, a, w => Region.ready md ops listed = [] ∧ Q .normal a w
  | fuel + 1, listed, a, w =>
    (Region.ready md ops listed = [] → Q .normal a w) ∧
    ∀ i ∈ Region.ready md ops listed, wpOp P ops Q i (fun a' w' => ((listed.setIfInBounds i true).getD z true = false → S w') ∧ wpAnyT P md ops Q S z fuel (listed.setIfInBounds i true) a' w') a w
theorem wpAny_of_till : ∀ (fuel : Nat) (listed : Array Bool) (a : Act) (w : World), wpAnyT P md ops Q S z fuel listed a w → wpAny P md ops Q fuel listed a w
  | 0, _, _, _, h => h
  | fuel + 1, _, _, _, h => ⟨h.1, fun i hi => wpOp_mono (fun a' w' h' => wpAny_of_till fuel _ a' w' h'.2) (h.2 i hi)⟩
theorem getD_set_ne9 {xs : Array Bool} {i k : Nat} (h : i ≠ k) : (xs.setIfInBounds i true).getD k true = xs.getD k true := by
  simp only [Array.getD_eq_getD_getElem?]
  rw [Array.getElem?_setIfInBounds_ne h]
theorem wpAnyT_first {i : Nat} {oi oz : Oper} {v : Value} (hi : ops[i]? = some oi) (hsel : ∀ (j : Nat) (o : Oper) cs b, ops[j]? = some o → o.op ≠ .select cs b)
    (hQ : ∀ c a w, Q (.panic c) (a.put oi.dst v) w → Q (.panic c) a w) (hoz : ops[z]? = some oz) (hzi : ∃ e ∈ oz.after, Region.binds md e = true ∧ e.on = i) (hne : z ≠ i) :
    ∀ (fuel : Nat) (listed : Array Bool) (a : Act) (w : World),
      (∀ j oj, ops[j]? = some oj → j ≠ i → listed.getD j true = false → (∀ e ∈ oj.after, Region.binds md e = true → e.on ≠ i) → oi.apart ops oj = true) →
      i ∈ Region.ready md ops listed → listed.getD z true = false → YieldsIf P ops S oi v a → S w →
      wpAnyT P md ops Q S z fuel (listed.setIfInBounds i true) (a.put oi.dst v) w → wpAnyT P md ops Q S z (fuel + 1) listed a w := by
  intro fuel
  induction fuel with
  | zero =>
    intro listed a w _ hr _ hy hS H
    refine ⟨fun h => (by rw [h] at hr; cases hr), fun j hj => ?_⟩
    by_cases hji : j = i
    · subst hji; exact hy.wpOp hi hS ⟨fun _ => hS, H⟩
    · have := ready_mono hj hji
      rw [H.1] at this
      cases this
  | succ fuel ih =>
    intro listed a w hfree hr hz hy hS H
    refine ⟨fun h => (by rw [h] at hr; cases hr), fun j hj => ?_⟩
    by_cases hji : j = i
    · subst hji; exact hy.wpOp hi hS ⟨fun _ => hS, H⟩
    · have h1 := H.2 j (ready_mono hj hji)
      obtain ⟨hjun, oj, hoj, hall⟩ := mem_ready.1 hj
      have hnot : ∀ e ∈ oj.after, Region.binds md e = true → e.on ≠ i := fun e he hb heq => by
        have h1 := hall e he hb
        have h0 := (mem_ready.1 hr).1
        rw [heq] at h1
        rcases Nat.lt_or_ge i listed.size with h' | h'
        · simp [h'] at h0 h1; rw [h0] at h1; cases h1
        · simp [Array.getElem?_eq_none h'] at h1
      have hjz : j ≠ z := fun e => by
        subst e
        rw [hoz] at hoj
        injection hoj with hoj
        subst hoj
        obtain ⟨e, he, hb, ho⟩ := hzi
        exact hnot e he hb ho
      have hz2 : (listed.setIfInBounds j true).getD z true = false := by rw [getD_set_ne9 hjz]; exact hz
      have hz3 : ((listed.setIfInBounds i true).setIfInBounds j true).getD z true = false := by rw [getD_set_ne9 hjz, getD_set_ne9 (fun e => hne e.symm)]; exact hz
      have h2 := wpOp_putIf hoj (hfree j oj hoj hji hjun hnot) (fun cs b => hsel i oi cs b hi) (fun cs b => hsel j oj cs b hoj) hQ hy h1
      have hfree' : ∀ k ok, ops[k]? = some ok → k ≠ i → (listed.setIfInBounds j true).getD k true = false →
          (∀ e ∈ ok.after, Region.binds md e = true → e.on ≠ i) → oi.apart ops ok = true := fun k ok hk hki hun hno => by
        refine hfree k ok hk hki ?_ hno
        by_cases hjk : j = k
        · subst hjk; exact hjun
        · rw [getD_set_ne9 hjk] at hun; exact hun
      refine wpOp_mono (fun a' w' h3 => ⟨fun _ => h3.2.1 hz3, ih (listed.setIfInBounds j true) a' w' hfree' (ready_mono hr (Ne.symm hji)) hz2 h3.1 (h3.2.1 hz3) ?_⟩) h2
      rw [Array.setIfInBounds_comm _ _ hji]
      exact h3.2.2
/-- an operation that yields its value in whatever world may be taken first at any time -/
theorem wpAnyT_firstY {i : Nat} {oi : Oper} {v : Value} (hi : ops[i]? = some oi) (hsel : ∀ (j : Nat) (o : Oper) cs b, ops[j]? = some o → o.op ≠ .select cs b)
    (hQ : ∀ c a w, Q (.panic c) (a.put oi.dst v) w → Q (.panic c) a w) (hne : z ≠ i) :
    ∀ (fuel : Nat) (listed : Array Bool) (a : Act) (w : World),
      (∀ j oj, ops[j]? = some oj → j ≠ i → listed.getD j true = false → (∀ e ∈ oj.after, Region.binds md e = true → e.on ≠ i) → oi.apart ops oj = true) →
      i ∈ Region.ready md ops listed → YieldsIf P ops (fun _ => True) oi v a → (listed.getD z true = false → S w) →
      wpAnyT P md ops Q S z fuel (listed.setIfInBounds i true) (a.put oi.dst v) w → wpAnyT P md ops Q S z (fuel + 1) listed a w := by
  intro fuel
  induction fuel with
  | zero =>
    intro listed a w _ hr hy hS H
    refine ⟨fun h => (by rw [h] at hr; cases hr), fun j hj => ?_⟩
    by_cases hji : j = i
    · subst hji; exact hy.wpOp hi trivial ⟨fun h => hS (by rw [getD_set_ne9 (fun e => hne e.symm)] at h; exact h), H⟩
    · have := ready_mono hj hji
      rw [H.1] at this
      cases this
  | succ fuel ih =>
    intro listed a w hfree hr hy hS H
    refine ⟨fun h => (by rw [h] at hr; cases hr), fun j hj => ?_⟩
    by_cases hji : j = i
    · subst hji; exact hy.wpOp hi trivial ⟨fun h => hS (by rw [getD_set_ne9 (fun e => hne e.symm)] at h; exact h), H⟩
    · have h1 := H.2 j (ready_mono hj hji)
      obtain ⟨hjun, oj, hoj, hall⟩ := mem_ready.1 hj
      have hnot : ∀ e ∈ oj.after, Region.binds md e = true → e.on ≠ i := fun e he hb heq => by
        have h1 := hall e he hb
        have h0 := (mem_ready.1 hr).1
        rw [heq] at h1
        rcases Nat.lt_or_ge i listed.size with h' | h'
        · simp [h'] at h0 h1; rw [h0] at h1; cases h1
        · simp [Array.getElem?_eq_none h'] at h1
      have h2 := wpOp_putIf hoj (hfree j oj hoj hji hjun hnot) (fun cs b => hsel i oi cs b hi) (fun cs b => hsel j oj cs b hoj) hQ hy h1
      have hfree' : ∀ k ok, ops[k]? = some ok → k ≠ i → (listed.setIfInBounds j true).getD k true = false →
          (∀ e ∈ ok.after, Region.binds md e = true → e.on ≠ i) → oi.apart ops ok = true := fun k ok hk hki hun hno => by
        refine hfree k ok hk hki ?_ hno
        by_cases hjk : j = k
        · subst hjk; exact hjun
        · rw [getD_set_ne9 hjk] at hun; exact hun
      refine wpOp_mono (fun a' w' h3 => ?_) h2
      have hS' : (listed.setIfInBounds j true).getD z true = false → S w' := fun h => h3.2.1 (by
        rw [Array.setIfInBounds_comm _ _ (Ne.symm hji), getD_set_ne9 (fun e => hne e.symm)]; exact h)
      refine ⟨hS', ih (listed.setIfInBounds j true) a' w' hfree' (ready_mono hr (Ne.symm hji)) h3.1 hS' ?_⟩
      rw [Array.setIfInBounds_comm _ _ hji]
      exact h3.2.2
/-- does z wait for i? -/
def waitsB (md : Region.Mode) (ops : Array Oper) (z i : Nat) : Bool := match ops[z]? with
  | some o => o.after.any fun e => Region.binds md e && (e.on == i)
  | none => false
theorem waits_spec {i : Nat} (h : waitsB md ops z i = true) : ∃ oz, ops[z]? = some oz ∧ ∃ e ∈ oz.after, Region.binds md e = true ∧ e.on = i := by
  unfold waitsB at h
  split at h
  · rename_i o ho
    rw [Array.any_eq_true] at h
    obtain ⟨k, hk, h⟩ := h
    rw [Bool.and_eq_true, beq_iff_eq] at h
    exact ⟨o, ho, _, Array.getElem_mem hk, h⟩
  · cases h
end
section
variable {P : Program} {ops : Array Oper} {Q : Exit → Act → World → Prop} {S : World → Prop} {z : Nat}
theorem take_t {i : Nat} {oi : Oper} {d : Option Tmp} {v : Value} {fuel : Nat} {listed : Array Bool} {a : Act} {w : World} (hi : ops[i]? = some oi)
    (hs : Region.noSelect ops = true) (hf : Region.free .any ops listed i = true) (hr : (Region.ready .any ops listed).contains i = true) (hz : (waitsB .any ops z i && !(z == i) && !listed.getD z true) = true)
    (hQ : ∀ c a w, Q (.panic c) (a.put d v) w → Q (.panic c) a w) (hd : oi.dst = d) (hw : Region.wanted oi (yielded ops a.tmps) = true) (hy : ∀ w, S w → (execOp a.eval oi).run P w = .ok (.value v) w) (hS : S w)
    (h : wpAnyT P .any ops Q S z fuel (listed.setIfInBounds i true) (a.put d v) w) : wpAnyT P .any ops Q S z (fuel + 1) listed a w := by
  subst hd
  rw [Bool.and_eq_true, Bool.and_eq_true] at hz
  obtain ⟨⟨h1, h2⟩, h3⟩ := hz
  obtain ⟨oz, hoz, hzi⟩ := waits_spec h1
  exact wpAnyT_first hi (Region.noSelect_spec hs) hQ hoz hzi (by simpa using h2) fuel listed a w (Region.free_spec hi hf) (by simpa using hr) (by simpa using h3) (.inl ⟨hw, hy⟩) hS h
theorem take_y {i : Nat} {oi : Oper} {d : Option Tmp} {v : Value} {fuel : Nat} {listed : Array Bool} {a : Act} {w : World} (hi : ops[i]? = some oi)
    (hs : Region.noSelect ops = true) (hf : Region.free .any ops listed i = true) (hr : (Region.ready .any ops listed).contains i = true) (hz : (z == i) = false)
    (hQ : ∀ c a w, Q (.panic c) (a.put d v) w → Q (.panic c) a w) (hd : oi.dst = d) (hw : Region.wanted oi (yielded ops a.tmps) = true) (hy : ∀ w, (execOp a.eval oi).run P w = .ok (.value v) w) (hS : S w)
    (h : wpAnyT P .any ops Q S z fuel (listed.setIfInBounds i true) (a.put d v) w) : wpAnyT P .any ops Q S z (fuel + 1) listed a w := by
  subst hd
  exact wpAnyT_firstY hi (Region.noSelect_spec hs) hQ (by simpa using hz) fuel listed a w (Region.free_spec hi hf) (by simpa using hr) (.inl ⟨hw, fun w _ => hy w⟩) (fun _ => hS) h
theorem call_t {i : Nat} {o : Oper} {fuel : Nat} {listed : Array Bool} {a : Act} {w : World} (ho : ops[i]? = some o) (hr : Region.ready .any ops listed = [i])
    (hw : Region.wanted o (yielded ops a.tmps) = true)
    (h : ∀ K' : Act → World → Prop, Shut (∀ a w, ((listed.setIfInBounds i true).getD z true = false → S w) → wpAnyT P .any ops Q S z fuel (listed.setIfInBounds i true) a w → K' a w) → Oper.wp P o a w K' Q) :
    wpAnyT P .any ops Q S z (fuel + 1) listed a w := by
  refine ⟨fun h0 => (by rw [hr] at h0; cases h0), fun j hj => ?_⟩
  rw [hr] at hj
  obtain rfl : j = i := by simpa using hj
  exact wpOp_step ho (fun K' hK => by rw [if_pos hw]; exact h K' fun a w h1 h2 => hK a w ⟨h1, h2⟩)
theorem done_t {listed : Array Bool} {a : Act} {w : World} (hr : Region.ready .any ops listed = []) (h : Q .normal a w) :
    ∀ fuel, wpAnyT P .any ops Q S z fuel listed a w
  | 0 => ⟨hr, h⟩
  | _ + 1 => ⟨fun _ => h, by rw [hr]; simp⟩
theorem begin_t {id : Nat} {a : Act} {w : World} (hm : P.follows .mixedOrders = true) (hS : S w.drew)
    (h : S w.drew → wpAnyT P .any ops Q S z ops.size (Array.replicate ops.size false) a w.drew) : (Code.region id ops true).wp P Q a w :=
  wp_region_any hm (wpAny_of_till _ _ _ _ (h hS))
end
end Go.Proofs.Ytakfhlakdlmhjaa.Kit
