/-
  What the proofs lean on, part 8 of 20.
-/
import Derived.Test.YtnifmfdlocgefaaGreatPb
import Derived.Test.YtnifmfdlocgefaaGreatPd
import Derived.Test.YtnifmfdlocgefaaGreatPe
import Derived.Test.YtnifmfdlocgefaaGreatPg
namespace Go.Proofs.YtnifmfdlocgefaaGreat.Ig
open Go.RowKit Kit Tr Uf
open Go.Proofs.YtnifmfdlocgefaaGreat.Hs (Keys Ints BoxT)
set_option maxRecDepth 100000 in
set_option maxHeartbeats 1000000 in
theorem addR_any (c : Cells) (A D E : Option Addr) (n1 k1 n2 k2 n3 k3 : Nat) (w : World) (h1 : n1 = c.V.length) (h2 : n2 = c.N.length) (h3 : n3 = c.M.length) (h : Rd w c A k1 D k2 E k3) (hf : Few c 1000000) :
    Calls Tryz.prog 186 #[.agg #[.slice A n1 k1, .slice D n2 k2, .slice E n3 k3]] w (OutPostR (growC c (c.V.length : Int)) w) := by
  subst h1 h2 h3
  obtain ⟨W0, hW0, q0, hz0, hB, hX⟩ := boxes w (Value.slice A c.V.length k1) (Value.slice D c.N.length k2) (Value.slice E c.M.length k3) 29
  have HB := Lib.hid hB
  have HX := Lib.hid hX
  have HR := Lib.hid (h.q q0)
  have HZ := Lib.hid hz0
  have HW := Lib.hid hW0
  clear h hB hX hz0 hW0
  go_enter Tryz.func186, Tryz.ntmps186
  go_upto_region 1 with fail
  rw [← HW.out]
  clear HW
  have C := Lib.hid (growR_any c (c.V.length : Int) A D E _ k1 _ k2 _ k3 W0 rfl rfl rfl HR.out hf)
  have c0 := HB.out.c0
  have c1 := HB.out.c1
  have c2 := HB.out.c2
  go_wp2_with (go_at_call 262; refine C.out.mono ?_; rintro e w1 ⟨g1, l1, g2, l2, g3, l3, rfl, hO⟩; have HO := Lib.hid hO; have bx := HX.out.q hO.o.q; have x0 := bx.c0; have x1 := bx.c1; have x2 := bx.c2; have u0 := bx.f0; have u1 := bx.f1; have u2 := bx.f2; clear hO)
  have bz := bx.all (.slice (some ⟨g1, 0, none⟩) (growC c (c.V.length : Int)).V.length l1) (.slice (some ⟨g2, 0, none⟩) (growC c (c.V.length : Int)).N.length l2) (.slice (some ⟨g3, 0, none⟩) (growC c (c.V.length : Int)).M.length l3)
  have y0 := bz.c0
  have y1 := bz.c1
  have y2 := bz.c2
  have hz := HZ.out
  have o1 := HO.out.o.o1
  have o2 := HO.out.o.o2
  have o3 := HO.out.o.o3
  have O4 := (HO.out.from q0).far (set3_grown w1 (w.heap.size + 1) (.slice (some ⟨g1, 0, none⟩) (growC c (c.V.length : Int)).V.length l1) (.slice (some ⟨g2, 0, none⟩) (growC c (c.V.length : Int)).N.length l2) (.slice (some ⟨g3, 0, none⟩) (growC c (c.V.length : Int)).M.length l3)) (by omega) (by omega) (by omega) (by omega)
  exact bodyPost_ret (v := .agg #[.slice (some ⟨g1, 0, none⟩) (growC c (c.V.length : Int)).V.length l1, .slice (some ⟨g2, 0, none⟩) (growC c (c.V.length : Int)).N.length l2, .slice (some ⟨g3, 0, none⟩) (growC c (c.V.length : Int)).M.length l3]) (by simp [results, Tryz.f186, go_sem, y0, y1, y2]) rfl ⟨_, l1, _, l2, _, l3, rfl, O4⟩

/-- cells with so many more, each a class -/
def moreC (c : Cells) : Nat → Cells
  | 0 => c
  | k + 1 => growC (moreC c k) ((c.V.length + k : Nat) : Int)
theorem moreC_len (c : Cells) (k : Nat) : (moreC c k).V.length = c.V.length + k ∧ (moreC c k).N.length = c.N.length + k ∧ (moreC c k).M = c.M := by
  induction k with
  | zero => exact ⟨rfl, rfl, rfl⟩
  | succ k ih =>
    obtain ⟨a, b, d⟩ := ih
    exact ⟨by simp [moreC, growC, a]; omega, by simp [moreC, growC, b]; omega, d⟩
theorem moreC_next (c : Cells) (k : Nat) : cellsI (moreC c (k + 1)).V = cellsI (moreC c k).V ++ [.int .i64 ((c.V.length + k : Nat) : Int)] ∧ cellsP (moreC c (k + 1)).N = cellsP (moreC c k).N ++ [.int .i64 (-1), .int .i64 0] :=
  ⟨by show cellsI (_ ++ _) = _; rw [cellsI_append]; rfl, by show cellsP (_ ++ _) = _; rw [cellsP_append]; rfl⟩

theorem row_some {w : World} {base size n : Nat} {e : TypeId} {v : Value} {xs : List Value} (h : w.ownsRow base e size v n xs) (h0 : 0 < n) : ∃ g c, v = .slice (some ⟨g, 0, none⟩) n c ∧ base ≤ g ∧ g < w.heap.size ∧ n ≤ c := by
  rcases h.2 with ⟨_, e⟩ | ⟨g, cap, cur, rfl, hb, hg, hc, _⟩
  · omega
  · exact ⟨g, cap, rfl, hb, (Array.getElem?_eq_some_iff.1 hg).1, hc⟩
/-- cells in the making, in a box; a note in the box behind -/
structure GrowS (w wr : World) (B : Nat) (L1 L2 L3 : List Value) (n1 n2 n3 g1 k1 g2 k2 g3 k3 : Nat) : Prop where
  box : Box3 wr B (.slice (some ⟨g1, 0, none⟩) n1 k1) (.slice (some ⟨g2, 0, none⟩) n2 k2) (.slice (some ⟨g3, 0, none⟩) n3 k3)
  note : OwnC wr (B + 1) [.int .i64 (-1), .int .i64 0]
  rv : wr.ownsRow (w.heap.size + 2) 3 1 (.slice (some ⟨g1, 0, none⟩) n1 k1) n1 L1
  rn : wr.ownsRow (w.heap.size + 2) 195 2 (.slice (some ⟨g2, 0, none⟩) n2 k2) n2 L2
  m : OwnC wr g3 L3
  d1 : g1 ≠ B ∧ g1 ≠ B + 1 ∧ g1 ≠ g2 ∧ g1 ≠ g3
  d2 : g2 ≠ B ∧ g2 ≠ B + 1 ∧ g2 ≠ g3
  d3 : g3 ≠ B ∧ g3 ≠ B + 1
  lo : w.heap.size + 2 ≤ B ∧ w.heap.size + 2 ≤ g3
  q : Q w wr
theorem GrowS.q' {w wr W : World} {B : Nat} {L1 L2 L3 : List Value} {n1 n2 n3 g1 k1 g2 k2 g3 k3 : Nat} (h : GrowS w wr B L1 L2 L3 n1 n2 n3 g1 k1 g2 k2 g3 k3) (q : Q wr W) : GrowS w W B L1 L2 L3 n1 n2 n3 g1 k1 g2 k2 g3 k3 :=
  ⟨h.box.q q, h.note.q q, row_kept h.rv q (Nat.le_refl _), row_kept h.rn q (Nat.le_refl _), h.m.q q, h.d1, h.d2, h.d3, h.lo, h.q.trans q⟩
/-- a number more, and its place in the box -/
theorem GrowS.putV {w wr W : World} {B : Nat} {L1 L2 L3 L : List Value} {n1 n2 n3 g1 k1 g2 k2 g3 k3 n g k : Nat} (h : GrowS w wr B L1 L2 L3 n1 n2 n3 g1 k1 g2 k2 g3 k3) (hg : wr.grownBy W (some g1)) (ho : W.ownsRow (w.heap.size + 2) 3 1 (.slice (some ⟨g, 0, none⟩) n k) n L) (he : g = g1 ∨ g = wr.heap.size) :
    GrowS w (W.setCell ⟨B, 0, none⟩ (.slice (some ⟨g, 0, none⟩) n k)) B L L2 L3 n n2 n3 g k g2 k2 g3 k3 := by
  obtain ⟨a, b, c, d⟩ := h.d1
  obtain ⟨a2, b2, c2⟩ := h.d2
  obtain ⟨a3, b3⟩ := h.d3
  have hBl := h.box.lt
  have hNl := h.note.1
  have hml := h.m.1
  have h2l := (h.rn.lt g2 rfl).2
  have hs := setCell_grown W B 0 (.slice (some ⟨g, 0, none⟩) n k)
  have lo1 := (h.rv.lt g1 rfl).1
  have lo2 := h.lo
  refine ⟨(h.box.grown hg a).set0 _, (h.note.grown hg (by intro e; injection e with e; exact b e)).grown hs (by intro e; injection e with e; omega), row_far ho hs (by omega), row_far (row_far h.rn hg c) hs (by omega), (h.m.grown hg (by intro e; injection e with e; exact d e)).grown hs (by intro e; injection e with e; omega), by omega, h.d2, h.d3, h.lo, ?_⟩
  exact grown_q hs (grown_q hg h.q (by omega)) (by omega)
theorem GrowS.putN {w wr W : World} {B : Nat} {L1 L2 L3 L : List Value} {n1 n2 n3 g1 k1 g2 k2 g3 k3 n g k : Nat} (h : GrowS w wr B L1 L2 L3 n1 n2 n3 g1 k1 g2 k2 g3 k3) (hg : wr.grownBy W (some g2)) (ho : W.ownsRow (w.heap.size + 2) 195 2 (.slice (some ⟨g, 0, none⟩) n k) n L) (he : g = g2 ∨ g = wr.heap.size) :
    GrowS w (W.setCell ⟨B, 1, none⟩ (.slice (some ⟨g, 0, none⟩) n k)) B L1 L L3 n1 n n3 g1 k1 g k g3 k3 := by
  obtain ⟨a, b, c, d⟩ := h.d1
  obtain ⟨a2, b2, c2⟩ := h.d2
  obtain ⟨a3, b3⟩ := h.d3
  have hBl := h.box.lt
  have hNl := h.note.1
  have hml := h.m.1
  have h1l := (h.rv.lt g1 rfl).2
  have hs := setCell_grown W B 1 (.slice (some ⟨g, 0, none⟩) n k)
  have lo1 := (h.rn.lt g2 rfl).1
  have lo2 := h.lo
  refine ⟨(h.box.grown hg a2).set1 _, (h.note.grown hg (by intro e; injection e with e; exact b2 e)).grown hs (by intro e; injection e with e; omega), row_far (row_far h.rv hg (by omega)) hs (by omega), row_far ho hs (by omega), (h.m.grown hg (by intro e; injection e with e; exact c2 e)).grown hs (by intro e; injection e with e; omega), by omega, by omega, h.d3, h.lo, ?_⟩
  exact grown_q hs (grown_q hg h.q (by omega)) (by omega)
def lenAt (w : World) (B : Nat) : Nat := match w.cell? ⟨B, 0, none⟩ with
  | some (.slice _ n _) => n
  | _ => 0
theorem lenAt_box {w : World} {B n k : Nat} {A : Option Addr} (h : w.cell? ⟨B, 0, none⟩ = some (.slice A n k)) : lenAt w B = n := by unfold lenAt; rw [h]

set_option maxRecDepth 100000 in
set_option maxHeartbeats 4000000 in
theorem grown12 (c : Cells) (n : Nat) (A D E : Option Addr) (n1 k1 n2 k2 n3 k3 : Nat) (w : World) (h1 : n1 = c.V.length) (h2 : n2 = c.N.length) (h3 : n3 = c.M.length) (h : Rd w c A k1 D k2 E k3) (hf : Few c 2000) (hn : c.V.length < n) (hn2 : n ≤ 4000) :
    Calls Tryz.prog 126 #[.agg #[.slice A n1 k1, .slice D n2 k2, .slice E n3 k3], .int .i64 (n : Int)] w (OPost (moreC c (n - c.V.length)) w) := by
  subst h1 h2 h3
  obtain ⟨W0, hW0, q0, hz0, hB, hX⟩ := boxes w (Value.slice A c.V.length k1) (Value.slice D c.N.length k2) (Value.slice E c.M.length k3) 29
  have HB := Lib.hid hB
  have HX := Lib.hid hX
  have HR := Lib.hid (h.q q0)
  have HZ := Lib.hid hz0
  have HW := Lib.hid hW0
  have Hf := Lib.hid hf
  obtain ⟨j0, hi, hy0, hy1, hy2⟩ := info_parts Tr.intInfo
  have Hi := Lib.hid hi
  have Hy0 := Lib.hid hy0
  have Hy1 := Lib.hid hy1
  have Hy2 := Lib.hid hy2
  clear hi hy0 hy1 hy2
  obtain ⟨j1, hi, hy0, hy1, hy2⟩ := info_parts Tr.noteInfo
  have Gi := Lib.hid hi
  have Gy0 := Lib.hid hy0
  have Gy1 := Lib.hid hy1
  have Gy2 := Lib.hid hy2
  clear hi hy0 hy1 hy2 h hB hX hz0 hW0
  go_enter Tryz.func126, Tryz.ntmps126
  go_upto_region 1 with fail
  rw [← HW.out]
  clear HW
  have C := Lib.hid (addR_any c A D E _ k1 _ k2 _ k3 W0 rfl rfl rfl HR.out ⟨by have := hf.1; omega, by have := hf.2.1; omega, by have := hf.2.2; omega⟩)
  have c0 := HB.out.c0
  have c1 := HB.out.c1
  have c2 := HB.out.c2
  clear hf
  go_upto_region 2 with (go_at_call 186; refine C.out.mono ?_; rintro e w1 ⟨g1, l1, g2, l2, g3, l3, rfl, hO⟩; have HO := Lib.hid hO; clear hO)
  clear c0 c1 c2
  have q2 := (Q.refl w1).alloc (Obj.cells #[.slice (some ⟨g1, 0, none⟩) (growC c (c.V.length : Int)).V.length l1, .slice (some ⟨g2, 0, none⟩) (growC c (c.V.length : Int)).N.length l2, .slice (some ⟨g3, 0, none⟩) (growC c (c.V.length : Int)).M.length l3] 29)
  have HO2 := Lib.hid (HO.out.more q2)
  have HB2 := Lib.hid (Box3.new w1 (.slice (some ⟨g1, 0, none⟩) (growC c (c.V.length : Int)).V.length l1) (.slice (some ⟨g2, 0, none⟩) (growC c (c.V.length : Int)).N.length l2) (.slice (some ⟨g3, 0, none⟩) (growC c (c.V.length : Int)).M.length l3) 29)
  have HXw := Lib.hid ((HX.out.q HO.out.o.q).q q2)
  have HQ0 := Lib.hid (q0.trans (HO.out.o.q.trans q2))
  have s1 := (HO.out.rv.lt g1 rfl)
  have s2 := (HO.out.rn.lt g2 rfl)
  have s3 := HO.out.o.m.1
  have s4 := HO.out.o.o3
  have z1 : (growC c (c.V.length : Int)).V.length = c.V.length + 1 := by simp [growC]
  have z2 : (growC c (c.V.length : Int)).N.length = c.N.length + 1 := by simp [growC]
  have z3 : (growC c (c.V.length : Int)).M.length = c.M.length := rfl
  rw [z1, z2, z3] at HB2 HXw HO2 HQ0
  have HZ2 : Hid ((w1.alloc (Obj.cells #[.slice (some ⟨g1, 0, none⟩) (c.V.length + 1) l1, .slice (some ⟨g2, 0, none⟩) (c.N.length + 1) l2, .slice (some ⟨g3, 0, none⟩) c.M.length l3] 29)).heap.size = w1.heap.size + 1) := by unfold Hid; simp
  rw [z1, z2, z3]
  generalize w1.alloc (Obj.cells #[.slice (some ⟨g1, 0, none⟩) (c.V.length + 1) l1, .slice (some ⟨g2, 0, none⟩) (c.N.length + 1) l2, .slice (some ⟨g3, 0, none⟩) c.M.length l3] 29) = W1 at *
  generalize w1.heap.size = B at *
  have b0 := HB2.out.c0
  have b1 := HB2.out.c1
  have b2 := HB2.out.c2
  have y0 : W1.cell? ⟨g2, c.N.length * 2, none⟩ = some (.int .i64 (-1)) := by
    have := (HO2.out.o.n.2 (c.N.length * 2) (.int .i64 (-1)) (by rw [show (growC c (c.V.length : Int)).N = c.N ++ [(-1, 0)] from rfl, cellsP_append, List.getElem?_append_right (by rw [cellsP_len]; exact Nat.le_refl _), cellsP_len]; simp [cellsP])).1
    exact this
  have y1 : W1.cell? ⟨g2, c.N.length * 2 + 1, none⟩ = some (.int .i64 0) := by
    have := (HO2.out.o.n.2 (c.N.length * 2 + 1) (.int .i64 0) (by rw [show (growC c (c.V.length : Int)).N = c.N ++ [(-1, 0)] from rfl, cellsP_append, List.getElem?_append_right (by rw [cellsP_len]; omega), cellsP_len]; simp [cellsP])).1
    exact this
  have Hn2 := Lib.hid hn2
  have HL3 : Hid (c.M.length ≤ l3) := HO.out.o.lm
  have Hn := Lib.hid hn
  have hN : c.N.length ≤ 2000 := Hf.out.2.1
  have hw9 : wrap64 (c.N.length : Int) = (c.N.length : Int) := by unfold wrap64; omega
  have qn := (Q.refl W1).alloc (Obj.cells #[.int .i64 (-1), .int .i64 0] 195)
  have HXn := Lib.hid (HXw.out.q qn)
  have HS0 : Hid (GrowS w (W1.alloc (Obj.cells #[.int .i64 (-1), .int .i64 0] 195)) B (cellsI (moreC c 1).V) (cellsP (moreC c 1).N) (cellsI c.M) (c.V.length + 1) (c.N.length + 1) c.M.length g1 l1 g2 l2 g3 l3) := by
    have hz := HZ.out
    have hz2 := HZ2.out
    have d12 := HO.out.o.d12
    have d13 := HO.out.o.d13
    have d23 := HO.out.o.d23
    have rv := HO2.out.rv
    have rn := HO2.out.rn
    rw [z1, hz] at rv
    rw [z2, hz] at rn
    have ho := OwnC.of_row (World.ownsRow_lit (e := 195) (size := 2) W1 #[.int .i64 (-1), .int .i64 0] 1 (Nat.le_refl _) (by unfold maxLen; omega) rfl)
    rw [hz2] at ho
    exact ⟨HB2.out.q qn, ho, row_kept rv qn (Nat.le_refl _), row_kept rn qn (Nat.le_refl _), HO2.out.o.m.q qn, by omega, by omega, by omega, by omega, HQ0.out.trans qn⟩
  clear q0 qn s1 s2 s3 s4 z1 z2 z3 b0 b2 hn2
  go_wp2_with fail
  generalize W1.alloc (Obj.cells #[.int .i64 (-1), .int .i64 0] 195) = W2 at *
  clear b1 y0 y1 hw9
  go_loopw [17] (fun _ wr => ∃ k h1 m1 h2 m2, 1 ≤ k ∧ c.V.length + k ≤ n ∧ Hid (GrowS w wr B (cellsI (moreC c k).V) (cellsP (moreC c k).N) (cellsI c.M) (c.V.length + k) (c.N.length + k) c.M.length h1 m1 h2 m2 g3 l3) ∧ Hid (Box3 wr (w.heap.size + 1) (Value.slice none 0 0) (Value.slice none 0 0) (Value.slice none 0 0))) (fun _ wr => n - lenAt wr B)
  case atStart => exact ⟨1, g1, l1, g2, l2, Nat.le_refl _, by have := Hn.out; omega, HS0, HXn⟩
  case round =>
    obtain ⟨k, h1, m1, h2, m2, hk1, hkn, HG, HX⟩ := hrel
    obtain ⟨N1, hN1⟩ : ∃ N1, N1 = c.V.length + k := ⟨_, rfl⟩
    obtain ⟨N2, hN2⟩ : ∃ N2, N2 = c.N.length + k := ⟨_, rfl⟩
    have hNb : N2 ≤ 8000 := by have := Hn2.out; omega
    have hNa : N1 ≤ 4000 := by have := Hn2.out; omega
    have HE : Hid (N1 = c.V.length + k ∧ N2 = c.N.length + k) := ⟨hN1, hN2⟩
    rw [← hN1, ← hN2] at HG
    have b0 := HG.out.box.c0
    have b1 := HG.out.box.c1
    have b2 := HG.out.box.c2
    have f0 := HG.out.box.f0
    have f1 := HG.out.box.f1
    have hkn' : N1 ≤ n := by omega
    have HM0 : Hid (lenAt wr B = N1) := lenAt_box b0
    clear hN hkn hN1 hN2
    by_cases hlt : N1 < n
    · have qa := (Q.refl wr).alloc (Obj.cells #[.int .i64 (N1 : Int)] 3)
      have HGa := Lib.hid (HG.out.q' qa)
      have Hs := Lib.hid (src_block (heap_alloc_new wr (Obj.cells #[.int .i64 (N1 : Int)] 3)))
      have HSz : Hid (w.heap.size + 2 ≤ (wr.alloc (Obj.cells #[.int .i64 (N1 : Int)] 3)).heap.size) := by unfold Hid; have := HG.out.lo.1; have := HG.out.box.lt; simp; omega
      have HXa := Lib.hid (HX.out.q qa)
      clear qa
      go_upto_region 4 with fail
      go_upto_region 5 with (at_builtin; refine wpList_append_src _ rfl (.tmp 23) (.tmp 27) _ rfl (w.heap.size + 2) 3 j0 _ 1 8 Tryz.underlying24 Hi.out Hy0.out Hy1.out Hy2.out rfl (by omega) (.slice (some ⟨h1, 0, none⟩) N1 m1) N1 _ rfl HGa.out.rv (some ⟨wr.heap.size, 0, none⟩) 1 1 [.int .i64 (N1 : Int)] rfl rfl Hs.out (by simp [Value.oneCell']) (by unfold maxLen; omega) (by omega) HSz.out ?_; intro v' w5 own5 gr5 hb5; obtain ⟨h5, m5, rfl, -, -, -⟩ := row_some own5 (by omega); have Own5 := Lib.hid own5; have Gr5 := Lib.hid gr5; have Hb5 := Lib.hid hb5; clear own5 gr5 hb5; have bx := HGa.out.box.grown Gr5.out HGa.out.d1.1; have x0 := bx.c0; have x1 := bx.c1; have xf := bx.f0)
      have HG6 := Lib.hid (HGa.out.putV Gr5.out Own5.out (by have := Hb5.out; simpa [Value.ownBlock] using this))
      have HX6 := Lib.hid ((HXa.out.grown Gr5.out (show h1 ≠ w.heap.size + 1 by have := (HGa.out.rv.lt h1 rfl).1; omega)).grown (setCell_grown w5 B 0 (.slice (some ⟨h5, 0, none⟩) (N1 + 1) m5)) (by have := HGa.out.lo.1; omega))
      clear bx x0 x1 xf b0 b1 b2 f0 f1 HG HGa HXa HX Hs HSz Own5 Gr5 Hb5
      generalize w5.setCell ⟨B, 0, none⟩ (.slice (some ⟨h5, 0, none⟩) (N1 + 1) m5) = W6 at *
      have b0 := HG6.out.box.c0
      have b1 := HG6.out.box.c1
      have b2 := HG6.out.box.c2
      have f1 := HG6.out.box.f1
      have n0 : W6.cell? ⟨W1.heap.size, 0, none⟩ = some (.int .i64 (-1)) := by rw [HZ2.out]; exact (HG6.out.note.2 0 _ rfl).1
      have n1 : W6.cell? ⟨W1.heap.size, 1, none⟩ = some (.int .i64 0) := by rw [HZ2.out]; exact (HG6.out.note.2 1 _ rfl).1
      have qa := (Q.refl W6).alloc (Obj.cells #[.int .i64 (-1), .int .i64 0] 195)
      have HGa := Lib.hid (HG6.out.q' qa)
      have Hs := Lib.hid (src_block (heap_alloc_new W6 (Obj.cells #[.int .i64 (-1), .int .i64 0] 195)))
      have HSz : Hid (w.heap.size + 2 ≤ (W6.alloc (Obj.cells #[.int .i64 (-1), .int .i64 0] 195)).heap.size) := by unfold Hid; have := HG6.out.lo.1; have := HG6.out.box.lt; simp; omega
      have HXa := Lib.hid (HX6.out.q qa)
      clear qa
      go_wp2_with (at_builtin; refine wpList_append_src _ rfl (.tmp 31) (.tmp 33) _ rfl (w.heap.size + 2) 195 j1 _ 2 16 Tryz.underlying27 Gi.out Gy0.out Gy1.out Gy2.out rfl (by omega) (.slice (some ⟨h2, 0, none⟩) N2 m2) N2 _ rfl HGa.out.rn (some ⟨W6.heap.size, 0, none⟩) 1 1 [.int .i64 (-1), .int .i64 0] rfl rfl Hs.out (by simp [Value.oneCell']) (by unfold maxLen; omega) (by omega) HSz.out ?_; intro v' w7 own7 gr7 hb7; obtain ⟨h7, m7, rfl, -, -, -⟩ := row_some own7 (by omega); have Own7 := Lib.hid own7; have Gr7 := Lib.hid gr7; have Hb7 := Lib.hid hb7; clear own7 gr7 hb7; have bx := HGa.out.box.grown Gr7.out HGa.out.d2.1; have x0 := bx.c0; have x1 := bx.c1; have xf := bx.f1)
      have HG8 := Lib.hid (HGa.out.putN Gr7.out Own7.out (by have := Hb7.out; simpa [Value.ownBlock] using this))
      have HX8 := Lib.hid ((HXa.out.grown Gr7.out (show h2 ≠ w.heap.size + 1 by have := (HGa.out.rn.lt h2 rfl).1; omega)).grown (setCell_grown w7 B 1 (.slice (some ⟨h7, 0, none⟩) (N2 + 1) m7)) (by have := HGa.out.lo.1; omega))
      have HM8 : Hid (lenAt (w7.setCell ⟨B, 1, none⟩ (.slice (some ⟨h7, 0, none⟩) (N2 + 1) m7)) B = N1 + 1) := lenAt_box HG8.out.box.c0
      have eL : cellsI (moreC c k).V ++ [.int .i64 (N1 : Int)] = cellsI (moreC c (k + 1)).V := by rw [HE.out.1]; exact (moreC_next c k).1.symm
      rw [eL, ← (moreC_next c k).2] at HG8
      have EL := Lib.hid eL
      clear eL
      go_roundw
      case rel => exact ⟨k + 1, h5, m5, h7, m7, by omega, by have := HE.out.1; omega, by rw [show c.V.length + (k + 1) = N1 + 1 by have := HE.out.1; omega, show c.N.length + (k + 1) = N2 + 1 by have := HE.out.2; omega]; exact HG8, HX8⟩
      case measure => rw [HM0.out, HM8.out]; omega
    · have e : N1 = n := by omega
      have HNe : Hid (n = c.V.length + k ∧ n - c.V.length = k) := by have := HE.out.1; unfold Hid; omega
      have x0 := HX.out.c0
      have x1 := HX.out.c1
      have x2 := HX.out.c2
      have xf0 := HX.out.f0
      have xf1 := HX.out.f1
      have xf2 := HX.out.f2
      have bz := HX.out.all (.slice (some ⟨h1, 0, none⟩) N1 m1) (.slice (some ⟨h2, 0, none⟩) N2 m2) (.slice (some ⟨g3, 0, none⟩) c.M.length l3)
      have y0 := bz.c0
      have y1 := bz.c1
      have y2 := bz.c2
      clear bz e
      go_wp2_with fail
      refine bodyPost_ret (v := .agg #[.slice (some ⟨h1, 0, none⟩) N1 m1, .slice (some ⟨h2, 0, none⟩) N2 m2, .slice (some ⟨g3, 0, none⟩) c.M.length l3]) (by simp [results, Tryz.f126, go_sem, y0, y1, y2]) rfl ⟨some ⟨h1, 0, none⟩, m1, some ⟨h2, 0, none⟩, m2, some ⟨g3, 0, none⟩, l3, ?_, ?_⟩
      · rw [HNe.out.2, (moreC_len c k).1, (moreC_len c k).2.1, (moreC_len c k).2.2, ← HE.out.1, ← HE.out.2]
      · rw [HNe.out.2]
        have hg := set3_grown wr (w.heap.size + 1) (.slice (some ⟨h1, 0, none⟩) N1 m1) (.slice (some ⟨h2, 0, none⟩) N2 m2) (.slice (some ⟨g3, 0, none⟩) c.M.length l3)
        have e1 := (HG.out.rv.lt h1 rfl).1
        have e2 := (HG.out.rn.lt h2 rfl).1
        have e3 := HG.out.lo.2
        obtain ⟨_, _, hc1, _, _, hn1⟩ := row_some HG.out.rv (by have := HE.out.1; omega)
        obtain ⟨_, _, hc2, _, _, hn2⟩ := row_some HG.out.rn (by have := HE.out.2; omega)
        injection hc1 with _ _ hc1
        injection hc2 with _ _ hc2
        exact ⟨fun _ => ⟨h1, rfl, by omega, OwnC.of_row (row_far HG.out.rv hg (by omega))⟩, fun _ => ⟨h2, rfl, by omega, OwnC.of_row (row_far HG.out.rn hg (by omega))⟩, by rw [(moreC_len c k).2.2]; exact fun _ => ⟨g3, rfl, by omega, HG.out.m.grown hg (by intro e; injection e with e; omega)⟩, by rw [(moreC_len c k).1, ← HE.out.1]; omega, by rw [(moreC_len c k).2.1, ← HE.out.2]; omega, by rw [(moreC_len c k).2.2]; exact HL3.out, grown_q hg HG.out.q (by omega)⟩
end Go.Proofs.YtnifmfdlocgefaaGreat.Ig

namespace Go.Proofs.YtnifmfdlocgefaaGreat.Hs
open Go.RowKit Kit

/-- a slice value that reads as these numbers, in a block of this kind -/
def IntsP (w : World) (P : Nat → Prop) (A : Option Addr) (xs : List Int) : Prop := 0 < xs.length → ∃ ad, A = some ad ∧ P ad.block ∧ ad.block < w.heap.size ∧ ∀ i x, xs[i]? = some x → w.cell? (ad.add i) = some (.int .i64 x)
def KeysP (w : World) (P : Nat → Prop) (A : Option Addr) (ks : List (List Int)) : Prop :=
  0 < ks.length → ∃ ad, A = some ad ∧ P ad.block ∧ ad.block < w.heap.size ∧ ∀ i k, ks[i]? = some k → ∃ a c, k.length ≤ c ∧ w.cell? (ad.add i) = some (.slice a k.length c) ∧ IntsP w P a k
section
variable {w w' : World} {P : Nat → Prop} {A : Option Addr}
theorem IntsP.ints {xs : List Int} (h : IntsP w P A xs) : Ints w w.heap.size A xs := fun h0 => by
  obtain ⟨ad, e, _, hl, hc⟩ := h h0
  exact ⟨ad, e, hl, hc⟩
theorem KeysP.keys {ks : List (List Int)} (h : KeysP w P A ks) : Keys w w.heap.size A ks := fun h0 => by
  obtain ⟨ad, e, _, hl, hc⟩ := h h0
  exact ⟨ad, e, hl, fun i k hk => by obtain ⟨a, c, h1, h2, h3⟩ := hc i k hk; exact ⟨a, c, h1, h2, h3.ints⟩⟩
theorem IntsP.q {xs : List Int} (h : IntsP w P A xs) (q : Q w w') : IntsP w' P A xs := fun h0 => by
  obtain ⟨ad, e, hp, hl, hc⟩ := h h0
  exact ⟨ad, e, hp, Nat.lt_of_lt_of_le hl q.size, fun i x hx => (q.cell (by rw [add_block]; exact hl)).trans (hc i x hx)⟩
theorem KeysP.q {ks : List (List Int)} (h : KeysP w P A ks) (q : Q w w') : KeysP w' P A ks := fun h0 => by
  obtain ⟨ad, e, hp, hl, hc⟩ := h h0
  exact ⟨ad, e, hp, Nat.lt_of_lt_of_le hl q.size, fun i k hk => by obtain ⟨a, c, h1, h2, h3⟩ := hc i k hk; exact ⟨a, c, h1, (q.cell (by rw [add_block]; exact hl)).trans h2, h3.q q⟩⟩
theorem Ints.p {lo : Nat} {xs : List Int} (h : Ints w lo A xs) (hlo : lo ≤ w.heap.size) (hP : ∀ b, b < lo → P b) : IntsP w P A xs := fun h0 => by
  obtain ⟨ad, e, hl, hc⟩ := h h0
  exact ⟨ad, e, hP _ hl, by omega, hc⟩
theorem Keys.p {lo : Nat} {ks : List (List Int)} (h : Keys w lo A ks) (hlo : lo ≤ w.heap.size) (hP : ∀ b, b < lo → P b) : KeysP w P A ks := fun h0 => by
  obtain ⟨ad, e, hl, hc⟩ := h h0
  exact ⟨ad, e, hP _ hl, by omega, fun i k hk => by obtain ⟨a, c, h1, h2, h3⟩ := hc i k hk; exact ⟨a, c, h1, h2, h3.p hlo hP⟩⟩
/-- another world, the same in blocks of this kind -/
theorem IntsP.to {W : World} {xs : List Int} (h : IntsP w P A xs) (hs : w.heap.size ≤ W.heap.size) (hW : ∀ p : Addr, P p.block → p.block < w.heap.size → W.cell? p = w.cell? p) : Ints W W.heap.size A xs := fun h0 => by
  obtain ⟨ad, e, hp, hl, hc⟩ := h h0
  exact ⟨ad, e, by omega, fun i x hx => by rw [hW _ (by rw [add_block]; exact hp) (by rw [add_block]; exact hl)]; exact hc i x hx⟩
theorem KeysP.to {W : World} {ks : List (List Int)} (h : KeysP w P A ks) (hs : w.heap.size ≤ W.heap.size) (hW : ∀ p : Addr, P p.block → p.block < w.heap.size → W.cell? p = w.cell? p) : Keys W W.heap.size A ks := fun h0 => by
  obtain ⟨ad, e, hp, hl, hc⟩ := h h0
  refine ⟨ad, e, by omega, fun i k hk => ?_⟩
  obtain ⟨a, c, h1, h2, h3⟩ := hc i k hk
  exact ⟨a, c, h1, by rw [hW _ (by rw [add_block]; exact hp) (by rw [add_block]; exact hl)]; exact h2, h3.to hs hW⟩
theorem IntsP.toP {W : World} {P' : Nat → Prop} {xs : List Int} (h : IntsP w P A xs) (hs : w.heap.size ≤ W.heap.size) (hW : ∀ p : Addr, P p.block → p.block < w.heap.size → W.cell? p = w.cell? p) (hP : ∀ b, P b → b < w.heap.size → P' b) : IntsP W P' A xs := fun h0 => by
  obtain ⟨ad, e, hp, hl, hc⟩ := h h0
  exact ⟨ad, e, hP _ hp hl, by omega, fun i x hx => by rw [hW _ (by rw [add_block]; exact hp) (by rw [add_block]; exact hl)]; exact hc i x hx⟩
theorem KeysP.toP {W : World} {P' : Nat → Prop} {ks : List (List Int)} (h : KeysP w P A ks) (hs : w.heap.size ≤ W.heap.size) (hW : ∀ p : Addr, P p.block → p.block < w.heap.size → W.cell? p = w.cell? p) (hP : ∀ b, P b → b < w.heap.size → P' b) : KeysP W P' A ks := fun h0 => by
  obtain ⟨ad, e, hp, hl, hc⟩ := h h0
  refine ⟨ad, e, hP _ hp hl, by omega, fun i k hk => ?_⟩
  obtain ⟨a, c, h1, h2, h3⟩ := hc i k hk
  exact ⟨a, c, h1, by rw [hW _ (by rw [add_block]; exact hp) (by rw [add_block]; exact hl)]; exact h2, h3.toP hs hW hP⟩
theorem KeysP.vals {ks : List (List Int)} (h : KeysP w P A ks) :
    ∃ vs : List Value, vs.length = ks.length ∧ SrcB w w.heap.size A vs ∧ ∀ (i : Nat) (k : List Int), ks[i]? = some k → ∃ a c, k.length ≤ c ∧ vs[i]? = some (Value.slice a k.length c) ∧ IntsP w P a k := by
  obtain ⟨vs, hl, hs, hv⟩ := h.keys.vals
  refine ⟨vs, hl, hs, fun i k hk => ?_⟩
  have hil := (List.getElem?_eq_some_iff.1 hk).1
  obtain ⟨ad, e, _, _, hc⟩ := h (by omega)
  obtain ⟨a', c', hle', e', hI⟩ := hc i k hk
  obtain ⟨ad2, e2, _, hc2⟩ := hs (by omega)
  rw [e] at e2
  injection e2 with e2
  subst e2
  obtain ⟨a, c, _, ev, _⟩ := hv i k hk
  have h2 := hc2 i _ ev
  rw [e'] at h2
  injection h2 with h2
  exact ⟨a', c', hle', by rw [h2]; exact ev, hI⟩
end
end Go.Proofs.YtnifmfdlocgefaaGreat.Hs

namespace Go.Proofs.YtnifmfdlocgefaaGreat.Ig
open Go.RowKit Kit Tr Uf
open Go.Proofs.YtnifmfdlocgefaaGreat.Hs (Keys Ints BoxT KeysP IntsP)
/-- a slice value that reads these cells, in a block of this kind -/
def RdsP (w : World) (P : Nat → Prop) (A : Option Addr) (cs : List Value) : Prop := 0 < cs.length → ∃ ad, A = some ad ∧ P ad.block ∧ ad.block < w.heap.size ∧ ∀ j v, cs[j]? = some v → w.cell? (ad.add j) = some v
theorem RdsP.rds {w : World} {P : Nat → Prop} {A : Option Addr} {cs : List Value} (h : RdsP w P A cs) : Tr.Rds w w.heap.size A cs := fun h0 => by
  obtain ⟨ad, e, _, hl, hc⟩ := h h0
  exact ⟨ad, e, hl, hc⟩
theorem RdsP.toP {w W : World} {P P' : Nat → Prop} {A : Option Addr} {cs : List Value} (h : RdsP w P A cs) (hs : w.heap.size ≤ W.heap.size) (hW : ∀ p : Addr, P p.block → p.block < w.heap.size → W.cell? p = w.cell? p) (hP : ∀ b, P b → b < w.heap.size → P' b) : RdsP W P' A cs := fun h0 => by
  obtain ⟨ad, e, hp, hl, hc⟩ := h h0
  exact ⟨ad, e, hP _ hp hl, by omega, fun j v hj => by rw [hW _ (by rw [Tr.add_block]; exact hp) (by rw [Tr.add_block]; exact hl)]; exact hc j v hj⟩
theorem RdsP.of_own {w : World} {P : Nat → Prop} {g : Nat} {cs : List Value} (h : OwnC w g cs) (hP : P g) : RdsP w P (some ⟨g, 0, none⟩) cs := fun _ => ⟨_, rfl, hP, h.1, fun j v hv => by rw [Tr.add_zero_head]; exact (h.2 j v hv).1⟩
theorem RdsP.of_owno {w : World} {P : Nat → Prop} {lo : Nat} {A : Option Addr} {cs : List Value} (h : OwnO w lo A cs) (hP : ∀ b, lo ≤ b → P b) : RdsP w P A cs := fun h0 => by
  obtain ⟨g, rfl, hg, ho⟩ := h h0
  exact RdsP.of_own ho (hP g hg) h0
/-- what agrees: a store into a block that isn't of the kind -/
theorem agree_grown {w w' : World} {P : Nat → Prop} {B : Nat} (hg : w.grownBy w' (some B)) (hB : ¬ P B) : w.heap.size ≤ w'.heap.size ∧ ∀ p : Addr, P p.block → p.block < w.heap.size → w'.cell? p = w.cell? p := by
  refine ⟨hg.size, fun p hp hl => ?_⟩
  have := hg.block p.block hl (fun e => by injection e with e; rw [e] at hp; exact hB hp)
  simp only [World.cell?, this]
theorem agree_q {w w' : World} {P : Nat → Prop} (q : Q w w') : w.heap.size ≤ w'.heap.size ∧ ∀ p : Addr, P p.block → p.block < w.heap.size → w'.cell? p = w.cell? p := ⟨q.size, fun _ _ hl => q.cell hl⟩
theorem RowI.p {w : World} {g e : Nat} {v : Value} {l : List Int} (h : RowI w g e v l) (he : e ≤ w.heap.size) {P : Nat → Prop} (hP : ∀ b, g < b → b < e → P b) : ∃ a c, l.length ≤ c ∧ v = .slice a l.length c ∧ IntsP w P a l := by
  obtain ⟨A, c, rfl, hc, k⟩ := h.form
  refine ⟨A, c, hc, rfl, fun h0 => ?_⟩
  obtain ⟨ad, e1, h1, h2, h3⟩ := k h0
  exact ⟨ad, e1, hP _ h1 h2, by omega, fun i x hx => h3 i _ (by simp [cellsI, hx])⟩
theorem Tab.p {w : World} {g e : Nat} {ks : List (List Int)} (h : Tab w g e ks) {P : Nat → Prop} (hP : ∀ b, g ≤ b → b < e → P b) : KeysP w P (some ⟨g, 0, none⟩) ks := fun _ => by
  obtain ⟨cs, _, a, b, c⟩ := h.own
  refine ⟨_, rfl, hP g (Nat.le_refl _) h.lt, Nat.lt_of_lt_of_le h.lt h.le, fun i k hi => ?_⟩
  obtain ⟨v, d, r⟩ := c i k hi
  obtain ⟨A, m, hm, rfl, hI⟩ := r.p h.le (P := P) (fun b h1 h2 => hP b (Nat.le_of_lt h1) h2)
  exact ⟨A, m, hm, by rw [Tr.add_zero_head]; exact (a.2 i _ d).1, hI⟩
/-- a table, and empty rows behind -/
theorem tab_more {w w' : World} {g e m : Nat} {ks : List (List Int)} {cs : List Value} {v' : Value} (h : Tab w g e ks) (hcl : cs.length = ks.length) (hr : ∀ (y : Nat) (l : List Int), ks[y]? = some l → ∃ v, cs[y]? = some v ∧ RowI w g e v l)
    (ho : w'.ownsRow g 24 1 v' (ks.length + m) (cs ++ List.replicate m (.slice none 0 0))) (gr : w.grownBy w' (some g)) (ha : v'.ownBlock = some g ∨ v'.ownBlock = some w.heap.size) (hm : 0 < m) {P : Nat → Prop} (hP : ∀ b, g ≤ b ∧ b < e ∨ b = w.heap.size → P b) :
    ∃ A c, v' = .slice A (ks.length + m) c ∧ ks.length + m ≤ c ∧ KeysP w' P A (ks ++ List.replicate m []) := by
  obtain ⟨G, c, rfl, _, hGl, hc⟩ := row_some ho (by omega)
  have hG : G = g ∨ G = w.heap.size := by simpa [Value.ownBlock] using ha
  have hge := h.lt
  have hes := h.le
  refine ⟨_, c, rfl, hc, fun _ => ⟨_, rfl, hP G (by omega), hGl, fun i k hi => ?_⟩⟩
  have hO := OwnC.of_row ho
  by_cases hil : i < ks.length
  · rw [List.getElem?_append_left hil] at hi
    obtain ⟨v, d, r⟩ := hr i k hi
    have r' : RowI w' g e v k := r.keep gr (.inl (Nat.le_refl _))
    obtain ⟨a, cc, hcc, rfl, hI⟩ := r'.p (Nat.le_trans hes gr.size) (P := P) (fun b h1 h2 => hP b (.inl ⟨Nat.le_of_lt h1, h2⟩))
    exact ⟨a, cc, hcc, by rw [Tr.add_zero_head]; exact (hO.2 i _ (by rw [List.getElem?_append_left (by omega)]; exact d)).1, hI⟩
  · rw [List.getElem?_append_right (by omega), List.getElem?_replicate] at hi
    have hi2 : i - ks.length < m := by
      by_cases hx : i - ks.length < m
      · exact hx
      · rw [if_neg hx] at hi; cases hi
    rw [if_pos hi2] at hi
    injection hi with hi
    subst hi
    refine ⟨none, 0, Nat.le_refl _, ?_, fun h => absurd h (by simp)⟩
    rw [Tr.add_zero_head]
    exact (hO.2 i _ (by rw [List.getElem?_append_right (by omega), hcl, List.getElem?_replicate, if_pos hi2]; rfl)).1
theorem OwnC.src {w : World} {g : Nat} {cs : List Value} (h : OwnC w g cs) : Src w (some ⟨g, 0, none⟩) cs := fun _ => ⟨_, rfl, fun j v hv => by rw [Tr.add_zero_head]; exact (h.2 j v hv).1⟩

/-- a graph that can be read, in blocks of a kind -/
structure GRP (w : World) (K : Nat → Prop) (R : List Int) (c : Cells) (P T : List (List Int)) (F A D E Pa Ta : Option Addr) (cr k1 k2 k3 kp kt : Nat) : Prop where
  r : RdsP w K F (cellsI R)
  v : RdsP w K A (cellsI c.V)
  n : RdsP w K D (cellsP c.N)
  m : RdsP w K E (cellsI c.M)
  p : KeysP w K Pa P
  t : KeysP w K Ta T
  lr : R.length ≤ cr
  lv : c.V.length ≤ k1
  ln : c.N.length ≤ k2
  lm : c.M.length ≤ k3
  lp : P.length ≤ kp
  lt : T.length ≤ kt
theorem GRP.to {w W : World} {K K' : Nat → Prop} {R : List Int} {c : Cells} {P T : List (List Int)} {F A D E Pa Ta : Option Addr} {cr k1 k2 k3 kp kt : Nat} (h : GRP w K R c P T F A D E Pa Ta cr k1 k2 k3 kp kt) (ha : w.heap.size ≤ W.heap.size ∧ ∀ p : Addr, K p.block → p.block < w.heap.size → W.cell? p = w.cell? p) (hK : ∀ b, K b → b < w.heap.size → K' b) : GRP W K' R c P T F A D E Pa Ta cr k1 k2 k3 kp kt :=
  ⟨h.r.toP ha.1 ha.2 hK, h.v.toP ha.1 ha.2 hK, h.n.toP ha.1 ha.2 hK, h.m.toP ha.1 ha.2 hK, h.p.toP ha.1 ha.2 hK, h.t.toP ha.1 ha.2 hK, h.lr, h.lv, h.ln, h.lm, h.lp, h.lt⟩
theorem GRP.rd {w : World} {K : Nat → Prop} {R : List Int} {c : Cells} {P T : List (List Int)} {F A D E Pa Ta : Option Addr} {cr k1 k2 k3 kp kt : Nat} (h : GRP w K R c P T F A D E Pa Ta cr k1 k2 k3 kp kt) : Rd w c A k1 D k2 E k3 := ⟨h.v.rds, h.n.rds, h.m.rds, h.lv, h.ln, h.lm⟩
theorem GRP.q {w W : World} {K : Nat → Prop} {R : List Int} {c : Cells} {P T : List (List Int)} {F A D E Pa Ta : Option Addr} {cr k1 k2 k3 kp kt : Nat} (h : GRP w K R c P T F A D E Pa Ta cr k1 k2 k3 kp kt) (q : Q w W) : GRP W K R c P T F A D E Pa Ta cr k1 k2 k3 kp kt := h.to (agree_q q) (fun _ h _ => h)
/-- its value -/
def gvP (R : List Int) (c : Cells) (P T : List (List Int)) (F A D E Pa Ta : Option Addr) (cr k1 k2 k3 kp kt : Nat) : Value := .agg #[.slice F R.length cr, .slice A c.V.length k1, .slice D c.N.length k2, .slice E c.M.length k3, .slice Pa P.length kp, .slice Ta T.length kt]
/-- a call's answer: a graph in memory of the call's own -/
def GAns (R : List Int) (c : Cells) (P T : List (List Int)) (w : World) (e : Ending) (w' : World) : Prop :=
  ∃ F A D E Pa Ta cr k1 k2 k3 kp kt, e = .returned (gvP R c P T F A D E Pa Ta cr k1 k2 k3 kp kt) ∧ GRP w' (fun b => w.heap.size ≤ b) R c P T F A D E Pa Ta cr k1 k2 k3 kp kt ∧ Q w w'
theorem gans {w w' : World} {R : List Int} {c : Cells} {P T : List (List Int)} {F A D E Pa Ta : Option Addr} {cr k1 k2 k3 kp kt : Nat} (h : GRP w' (fun b => w.heap.size ≤ b) R c P T F A D E Pa Ta cr k1 k2 k3 kp kt) (q : Q w w') : GAns R c P T w (.returned (gvP R c P T F A D E Pa Ta cr k1 k2 k3 kp kt)) w' := ⟨F, A, D, E, Pa, Ta, cr, k1, k2, k3, kp, kt, rfl, h, q⟩
theorem GOut.grp {w w' : World} {R : List Int} {c : Cells} {P T : List (List Int)} {g0 g1 g2 g3 gp ep gs es : Nat} (h : GOut w w' R c P T g0 g1 g2 g3 gp ep gs es) {K : Nat → Prop} (hK : ∀ b, g0 ≤ b → b < w'.heap.size → K b) : GRP w' K R c P T (some ⟨g0, 0, none⟩) (some ⟨g1, 0, none⟩) (some ⟨g2, 0, none⟩) (some ⟨g3, 0, none⟩) (some ⟨gp, 0, none⟩) (some ⟨gs, 0, none⟩) R.length c.V.length c.N.length c.M.length P.length T.length := by
  obtain ⟨r, v, n, m, p, t, o0, o1, o2, o3, o4, o5, q⟩ := h
  have := p.le
  have := t.le
  have := p.lt
  have := t.lt
  exact ⟨.of_own r (hK _ (by omega) r.1), .of_own v (hK _ (by omega) v.1), .of_own n (hK _ (by omega) n.1), .of_own m (hK _ (by omega) m.1), p.p (fun b h1 h2 => hK b (by omega) (by omega)), t.p (fun b h1 h2 => hK b (by omega) (by omega)), Nat.le_refl _, Nat.le_refl _, Nat.le_refl _, Nat.le_refl _, Nat.le_refl _, Nat.le_refl _⟩
end Go.Proofs.YtnifmfdlocgefaaGreat.Ig

namespace Go.Proofs.YtnifmfdlocgefaaGreat.Ig
open Go.RowKit Kit Tr Uf
open Go.Proofs.YtnifmfdlocgefaaGreat.Hs (Keys Ints)
theorem rds_ints12 {w : World} {B : Nat} {A : Option Addr} {xs : List Int} (h : Tr.Rds w B A (Tr.cellsI xs)) : Ints w B A xs := fun h0 => by
  obtain ⟨ad, e, hb, hc⟩ := h (by rw [Tr.cellsI_len]; exact h0)
  refine ⟨ad, e, hb, fun i x hx => ?_⟩
  obtain ⟨hi, rfl⟩ := List.getElem?_eq_some_iff.1 hx
  exact hc i _ (Tr.cellsI_at hi)

set_option maxRecDepth 100000 in
set_option maxHeartbeats 4000000 in
theorem refSame12_any (R : List Int) (c : Cells) (P T : List (List Int)) (F A D E Pa Ta F' A' D' E' Pa' Ta' : Option Addr) (nr cr n1 k1 n2 k2 n3 k3 np kp nt kt nr' cr' n1' k1' n2' k2' n3' k3' np' kp' nt' kt' : Nat) (w : World)
    (hr : nr = R.length) (h1 : n1 = c.V.length) (h2 : n2 = c.N.length) (h3 : n3 = c.M.length) (hp : np = P.length) (ht : nt = T.length)
    (hr' : nr' = R.length) (h1' : n1' = c.V.length) (h2' : n2' = c.N.length) (h3' : n3' = c.M.length) (hp' : np' = P.length) (ht' : nt' = T.length)
    (hR : Tr.Rds w w.heap.size F (cellsI R)) (h : Rd w c A k1 D k2 E k3) (hP : Keys w w.heap.size Pa P) (hT : Keys w w.heap.size Ta T)
    (hR' : Tr.Rds w w.heap.size F' (cellsI R)) (h' : Rd w c A' k1' D' k2' E' k3') (hP' : Keys w w.heap.size Pa' P) (hT' : Keys w w.heap.size Ta' T)
    (lR : R.length ≤ maxLen) (hf : Few c 1000000) (lP : P.length ≤ maxLen) (lT : T.length ≤ maxLen) (sP : ∀ k ∈ P, k.length ≤ maxLen) (sT : ∀ k ∈ T, k.length ≤ maxLen) :
    Calls Tryz.prog 24 #[.agg #[.slice F nr cr, .slice A n1 k1, .slice D n2 k2, .slice E n3 k3, .slice Pa np kp, .slice Ta nt kt], .agg #[.slice F' nr' cr', .slice A' n1' k1', .slice D' n2' k2', .slice E' n3' k3', .slice Pa' np' kp', .slice Ta' nt' kt']] w fun e w' => e = .returned (.bool true) ∧ Q w w' := by
  subst hr h1 h2 h3 hp ht hr' h1' h2' h3' hp' ht'
  have HQ0 := Lib.hid (((Q.refl w).alloc (Obj.cells #[.slice F R.length cr, .slice A c.V.length k1, .slice D c.N.length k2, .slice E c.M.length k3, .slice Pa P.length kp, .slice Ta T.length kt] 31)).alloc (Obj.cells #[.slice F' R.length cr', .slice A' c.V.length k1', .slice D' c.N.length k2', .slice E' c.M.length k3', .slice Pa' P.length kp', .slice Ta' T.length kt'] 31))
  have HB := Lib.hid ((Box6.new w (.slice F R.length cr) (.slice A c.V.length k1) (.slice D c.N.length k2) (.slice E c.M.length k3) (.slice Pa P.length kp) (.slice Ta T.length kt) 31).q ((Q.refl _).alloc (Obj.cells #[.slice F' R.length cr', .slice A' c.V.length k1', .slice D' c.N.length k2', .slice E' c.M.length k3', .slice Pa' P.length kp', .slice Ta' T.length kt'] 31)))
  have X := Box6.new (w.alloc (Obj.cells #[.slice F R.length cr, .slice A c.V.length k1, .slice D c.N.length k2, .slice E c.M.length k3, .slice Pa P.length kp, .slice Ta T.length kt] 31)) (.slice F' R.length cr') (.slice A' c.V.length k1') (.slice D' c.N.length k2') (.slice E' c.M.length k3') (.slice Pa' P.length kp') (.slice Ta' T.length kt') 31
  rw [World.size_alloc] at X
  have HB' := Lib.hid X
  clear X
  have C1 : Hid (∀ U, Q w U → Calls Tryz.prog 75 #[.agg #[.slice A c.V.length k1, .slice D c.N.length k2, .slice E c.M.length k3], .agg #[.slice A' c.V.length k1', .slice D' c.N.length k2', .slice E' c.M.length k3']] U fun e w' => e = .returned (.bool true) ∧ Q U w') := fun U p => Tr.same_any c A D E A' D' E' _ k1 _ k2 _ k3 _ k1' _ k2' _ k3' U rfl rfl rfl rfl rfl rfl (h.q p) (h'.q p) hf
  have C2 : Hid (∀ U, Q w U → Calls Tryz.prog 19 #[.slice F R.length cr, .slice F' R.length cr'] U fun e w' => e = .returned (.bool true) ∧ Q U w') := fun U p => by
    refine (Hs.refInts_any F F' _ cr _ cr' R R U rfl rfl (rds_ints12 (hR.q p)) (rds_ints12 (hR'.q p)) lR).mono ?_
    rintro e w' ⟨rfl, d, rfl⟩
    exact ⟨by rw [(Hs.eqL_iff R R).2 rfl], (Q.refl _).drewN d⟩
  have C3 : Hid (∀ U, Q w U → Calls Tryz.prog 44 #[.slice Pa P.length kp, .slice Pa' P.length kp'] U fun e w' => e = .returned (.bool true) ∧ Q U w') := fun U p => by
    refine (Hs.refRows_any Pa Pa' _ kp _ kp' P P U rfl rfl ((hP.q (Nat.le_refl _) p).more p.size) ((hP'.q (Nat.le_refl _) p).more p.size) lP sP).mono ?_
    rintro e w' ⟨rfl, d, rfl⟩
    exact ⟨by rw [(Hs.rowsB_iff P P).2 rfl], (Q.refl _).drewN d⟩
  have C4 : Hid (∀ U, Q w U → Calls Tryz.prog 44 #[.slice Ta T.length kt, .slice Ta' T.length kt'] U fun e w' => e = .returned (.bool true) ∧ Q U w') := fun U p => by
    refine (Hs.refRows_any Ta Ta' _ kt _ kt' T T U rfl rfl ((hT.q (Nat.le_refl _) p).more p.size) ((hT'.q (Nat.le_refl _) p).more p.size) lT sT).mono ?_
    rintro e w' ⟨rfl, d, rfl⟩
    exact ⟨by rw [(Hs.rowsB_iff T T).2 rfl], (Q.refl _).drewN d⟩
  clear hR h hP hT hR' h' hP' hT' lR hf lP lT sP sT
  go_enter Tryz.func24, Tryz.ntmps24
  go_upto_region 1 with fail
  generalize (w.alloc (Obj.cells #[.slice F R.length cr, .slice A c.V.length k1, .slice D c.N.length k2, .slice E c.M.length k3, .slice Pa P.length kp, .slice Ta T.length kt] 31)).alloc (Obj.cells #[.slice F' R.length cr', .slice A' c.V.length k1', .slice D' c.N.length k2', .slice E' c.M.length k3', .slice Pa' P.length kp', .slice Ta' T.length kt'] 31) = W0 at *
  have ALL : Hid (∀ U, Q W0 U → (U.cell? ⟨w.heap.size, 0, none⟩ = some (.slice F R.length cr) ∧ U.cell? ⟨w.heap.size, 1, none⟩ = some (.slice A c.V.length k1) ∧ U.cell? ⟨w.heap.size, 2, none⟩ = some (.slice D c.N.length k2) ∧ U.cell? ⟨w.heap.size, 3, none⟩ = some (.slice E c.M.length k3) ∧ U.cell? ⟨w.heap.size, 4, none⟩ = some (.slice Pa P.length kp) ∧ U.cell? ⟨w.heap.size, 5, none⟩ = some (.slice Ta T.length kt)) ∧ (U.cell? ⟨w.heap.size + 1, 0, none⟩ = some (.slice F' R.length cr') ∧ U.cell? ⟨w.heap.size + 1, 1, none⟩ = some (.slice A' c.V.length k1') ∧ U.cell? ⟨w.heap.size + 1, 2, none⟩ = some (.slice D' c.N.length k2') ∧ U.cell? ⟨w.heap.size + 1, 3, none⟩ = some (.slice E' c.M.length k3') ∧ U.cell? ⟨w.heap.size + 1, 4, none⟩ = some (.slice Pa' P.length kp') ∧ U.cell? ⟨w.heap.size + 1, 5, none⟩ = some (.slice Ta' T.length kt'))) := fun U q => by
    have a := HB.out.q q
    have b := HB'.out.q q
    exact ⟨⟨a.c0, a.c1, a.c2, a.c3, a.c4, a.c5⟩, ⟨b.c0, b.c1, b.c2, b.c3, b.c4, b.c5⟩⟩
  obtain ⟨⟨s0, s1, s2, s3, s4, s5⟩, ⟨t0, t1, t2, t3, t4, t5⟩⟩ := ALL.out W0 (Q.refl _)
  have HQ1 : Hid (Q W0 W0) := Lib.hid (Q.refl _)
  go_wp2_with (first
    | (go_at_call 75; (with_reducible refine (C1.out W0 HQ0.out).mono ?_); rintro e w2 ⟨rfl, q1⟩; have HQ2 := Lib.hid (HQ1.out.trans q1); clear s0 s1 s2 s3 s4 s5 t0 t1 t2 t3 t4 t5 q1; obtain ⟨⟨s0, s1, s2, s3, s4, s5⟩, ⟨t0, t1, t2, t3, t4, t5⟩⟩ := ALL.out w2 HQ2.out)
    | (go_at_call 19; (with_reducible refine (C2.out w2 (HQ0.out.trans HQ2.out)).mono ?_); rintro e w3 ⟨rfl, q2⟩; have HQ3 := Lib.hid (HQ2.out.trans q2); clear s0 s1 s2 s3 s4 s5 t0 t1 t2 t3 t4 t5 q2; obtain ⟨⟨s0, s1, s2, s3, s4, s5⟩, ⟨t0, t1, t2, t3, t4, t5⟩⟩ := ALL.out w3 HQ3.out)
    | (go_at_call 44; (with_reducible refine (C3.out w3 (HQ0.out.trans HQ3.out)).mono ?_); rintro e w4 ⟨rfl, q3⟩; have HQ4 := Lib.hid (HQ3.out.trans q3); clear s0 s1 s2 s3 s4 s5 t0 t1 t2 t3 t4 t5 q3; obtain ⟨⟨s0, s1, s2, s3, s4, s5⟩, ⟨t0, t1, t2, t3, t4, t5⟩⟩ := ALL.out w4 HQ4.out)
    | (go_at_call 44; (with_reducible refine (C4.out w4 (HQ0.out.trans HQ4.out)).mono ?_); rintro e w5 ⟨rfl, q4⟩; have HQ5 := Lib.hid (HQ4.out.trans q4); clear s0 s1 s2 s3 s4 s5 t0 t1 t2 t3 t4 t5 q4)
    | fail)
  go_ret
  exact ⟨rfl, HQ0.out.trans HQ5.out⟩
end Go.Proofs.YtnifmfdlocgefaaGreat.Ig

namespace Go.Proofs.YtnifmfdlocgefaaGreat.Ig
open Go.RowKit Kit Tr Uf
open Go.Proofs.YtnifmfdlocgefaaGreat.Hs (Keys Ints)
end Go.Proofs.YtnifmfdlocgefaaGreat.Ig

namespace Go.Proofs.YtnifmfdlocgefaaGreat.Kit
section
variable {P : Program} {ops : Array Oper} {Q : Exit → Act → World → Prop} {S : World → Prop} {z : Nat}
theorem both_t {i j : Nat} {oi oj : Oper} {fuel : Nat} {listed : Array Bool} {a : Act} {w : World} (hi : ops[i]? = some oi) (hj : ops[j]? = some oj) (hr : Region.ready .any ops listed = [i, j])
    (hwi : Region.wanted oi (yielded ops a.tmps) = true) (hwj : Region.wanted oj (yielded ops a.tmps) = true)
    (h1 : ∀ K' : Act → World → Prop, Shut (∀ a w, ((listed.setIfInBounds i true).getD z true = false → S w) → wpAnyT P .any ops Q S z fuel (listed.setIfInBounds i true) a w → K' a w) → Oper.wp P oi a w K' Q)
    (h2 : ∀ K' : Act → World → Prop, Shut (∀ a w, ((listed.setIfInBounds j true).getD z true = false → S w) → wpAnyT P .any ops Q S z fuel (listed.setIfInBounds j true) a w → K' a w) → Oper.wp P oj a w K' Q) :
    wpAnyT P .any ops Q S z (fuel + 1) listed a w := by
  refine ⟨fun h0 => (by rw [hr] at h0; cases h0), fun k hk => ?_⟩
  rw [hr] at hk
  have hk' : k = i ∨ k = j := by simpa using hk
  rcases hk' with rfl | rfl
  · exact wpOp_step hi (fun K' hK => by rw [if_pos hwi]; exact h1 K' fun a w h1 h2 => hK a w ⟨h1, h2⟩)
  · exact wpOp_step hj (fun K' hK => by rw [if_pos hwj]; exact h2 K' fun a w h1 h2 => hK a w ⟨h1, h2⟩)
end
end Go.Proofs.YtnifmfdlocgefaaGreat.Kit

namespace Go.Proofs.YtnifmfdlocgefaaGreat.Ig
open Go.RowKit Kit Tr Uf

/-- cells that can be read, in blocks of a kind -/
structure CR (w : World) (K : Nat → Prop) (c : Cells) (A : Option Addr) (k1 : Nat) (D : Option Addr) (k2 : Nat) (E : Option Addr) (k3 : Nat) : Prop where
  v : RdsP w K A (cellsI c.V)
  n : RdsP w K D (cellsP c.N)
  m : RdsP w K E (cellsI c.M)
  lv : c.V.length ≤ k1
  ln : c.N.length ≤ k2
  lm : c.M.length ≤ k3
theorem CR.rd {w : World} {K : Nat → Prop} {c : Cells} {A D E : Option Addr} {k1 k2 k3 : Nat} (h : CR w K c A k1 D k2 E k3) : Rd w c A k1 D k2 E k3 := ⟨h.v.rds, h.n.rds, h.m.rds, h.lv, h.ln, h.lm⟩
theorem CR.to {w W : World} {K K' : Nat → Prop} {c : Cells} {A D E : Option Addr} {k1 k2 k3 : Nat} (h : CR w K c A k1 D k2 E k3) (ha : w.heap.size ≤ W.heap.size ∧ ∀ p : Addr, K p.block → p.block < w.heap.size → W.cell? p = w.cell? p) (hK : ∀ b, K b → b < w.heap.size → K' b) : CR W K' c A k1 D k2 E k3 :=
  ⟨h.v.toP ha.1 ha.2 hK, h.n.toP ha.1 ha.2 hK, h.m.toP ha.1 ha.2 hK, h.lv, h.ln, h.lm⟩
theorem CR.q {w W : World} {K : Nat → Prop} {c : Cells} {A D E : Option Addr} {k1 k2 k3 : Nat} (h : CR w K c A k1 D k2 E k3) (q : Q w W) : CR W K c A k1 D k2 E k3 := h.to (agree_q q) (fun _ h _ => h)
/-- cells that can be read, and no error: in the call's own memory, or where they were -/
def SetPost (K : Nat → Prop) (c : Cells) (w : World) (e : Ending) (w' : World) : Prop :=
  ∃ A k1 D k2 E k3, e = .returned (.tuple #[.agg #[.slice A c.V.length k1, .slice D c.N.length k2, .slice E c.M.length k3], .int .i64 0]) ∧ CR w' (fun b => K b ∨ w.heap.size ≤ b) c A k1 D k2 E k3 ∧ Q w w'
theorem far_block {W W' : World} {g : Nat} {o : Obj} {row : Option Nat} (hg : W.grownBy W' row) (h : W.heap[g]? = some o) (hne : some g ≠ row) : W'.heap[g]? = some o :=
  (hg.block g (Array.getElem?_eq_some_iff.1 h).1 hne).trans h
theorem own_read3 {w : World} {base : Nat} {v : Value} {n : Nat} {cs : List Value} (h : w.ownsRow base 195 2 v n cs) : ∃ A c n', n' = n ∧ v = .slice A n' c ∧ n' ≤ c := by
  obtain ⟨hl, ⟨rfl, h0⟩ | ⟨g, cap, cur, rfl, hg, hh, hc, _⟩⟩ := h
  · exact ⟨none, 0, 0, h0.symm, rfl, Nat.le_refl _⟩
  · exact ⟨_, cap, n, rfl, rfl, hc⟩
theorem fin_set {K : Nat → Prop} {c : Cells} {i : Nat} {x : Int} {E : Option Addr} {k3 g cap n5 c5 B m0 : Nat} {A5 : Option Addr} {cs : List Value} {w w5 : World} (y1 y2 y3 : Value) (hi : i < c.V.length) (hg : OwnC w5 g (cellsI (c.V.set i x))) (hcap : c.V.length ≤ cap) (own : w5.ownsRow m0 195 2 (.slice A5 n5 c5) n5 cs) (hn5 : n5 = c.N.length + 1) (hc5 : n5 ≤ c5) (hcs : cs = cellsP (c.N ++ [((i : Int), c.V[i])])) (hm : B < m0) (hgB : g ≠ B) (hgw : w.heap.size ≤ g) (hE : RdsP w K E (cellsI c.M)) (hk3 : c.M.length ≤ k3) (hQ : Q w w5) (hB : w.heap.size ≤ B) :
    CR (((w5.setCell ⟨B, 0, none⟩ y1).setCell ⟨B, 1, none⟩ y2).setCell ⟨B, 2, none⟩ y3) (fun b => K b ∨ w.heap.size ≤ b) (setC c i x) (some ⟨g, 0, none⟩) cap A5 c5 E k3 ∧ Q w (((w5.setCell ⟨B, 0, none⟩ y1).setCell ⟨B, 1, none⟩ y2).setCell ⟨B, 2, none⟩ y3) := by
  have gr := set3_grown w5 B y1 y2 y3
  have q := grown_q gr hQ hB
  have hown := own.kept gr (.inr (fun e => by have := (own.lt _ e).1; omega))
  obtain ⟨A6, c6, e6, _, ho⟩ := own_o hown
  injection e6 with e1 e2 e3
  subst e1 e3
  refine ⟨⟨RdsP.of_own (hg.grown gr (fun e => by injection e with e; omega)) (.inr hgw), ?_, hE.toP (agree_q (P := K) q).1 (agree_q q).2 (fun b hb _ => .inl hb), by simpa [setC] using hcap, by simp [setC]; omega, hk3⟩, q⟩
  have hr : RdsP _ (fun b => K b ∨ w.heap.size ≤ b) A5 cs := RdsP.of_owno ho (fun b hb => .inr (by omega))
  rw [hcs] at hr
  simpa [setC, List.getD_eq_getElem?_getD, hi] using hr

set_option maxRecDepth 100000 in
set_option maxHeartbeats 4000000 in
theorem refSet4_any (K : Nat → Prop) (c : Cells) (i : Nat) (x : Int) (A D E : Option Addr) (k1 k2 k3 : Nat) (w : World) (hi : i < c.V.length) (hc : CR w K c A k1 D k2 E k3) (hf : Few c 1000000) :
    Calls Tryz.prog 194 #[.agg #[.slice A c.V.length k1, .slice D c.N.length k2, .slice E c.M.length k3], .int .i64 (i : Int), .int .i64 x] w (SetPost K (setC c i x) w) := by
  have h := hc.rd
  obtain ⟨W0, hW0, q0, hz0, hB, hX⟩ := boxes w (Value.slice A c.V.length k1) (Value.slice D c.N.length k2) (Value.slice E c.M.length k3) 29
  have HB := Lib.hid hB
  have HX := Lib.hid hX
  have HR := Lib.hid (h.q q0)
  have HZ := Lib.hid hz0
  have HW := Lib.hid hW0
  have HFw := Lib.hid hf
  have HQ0 := Lib.hid q0
  have Hil := Lib.hid hi
  have HE := Lib.hid hc.m
  have Hk3 := Lib.hid h.lm
  clear hc
  have j0 : decide ((i : Int) < 0) = false := decide_eq_false (by omega)
  have j1 : decide ((c.V.length : Int) ≤ (i : Int)) = false := decide_eq_false (by omega)
  have j2 : decide (c.V.length ≤ i) = false := decide_eq_false (by omega)
  obtain ⟨i0, hi0, hz0', hz1, hz2⟩ := info_parts intInfo
  have Hi := Lib.hid hi0
  have Hz0 := Lib.hid hz0'
  have Hz1 := Lib.hid hz1
  have Hz2 := Lib.hid hz2
  obtain ⟨i0', hi0', hz0'', hz1', hz2'⟩ := info_parts noteInfo
  have Hi' := Lib.hid hi0'
  have Hz0' := Lib.hid hz0''
  have Hz1' := Lib.hid hz1'
  have Hz2' := Lib.hid hz2'
  have Hsrc : Hid (Src (W0.alloc (Obj.cells #[] 3)) A (cellsI c.V)) := Lib.hid ((h.q q0).q ((Q.refl W0).alloc (Obj.cells #[] 3))).v.src
  have Ho := Lib.hid (own_empty (base := W0.heap.size) (e := 3) (size := 1) (Nat.le_refl _) (heap_alloc_new W0 (Obj.cells #[] 3)))
  have HV1 : Hid (c.V.length + 0 ≤ maxLen ∧ c.V.length * 8 ≤ 140737488355328) := by have := hf.1; unfold Hid maxLen; omega
  clear hW0 hz0 hB hX h hf hi0 hz0' hz1 hz2 hi0' hz0'' hz1' hz2' q0
  go_enter Tryz.func194, Tryz.ntmps194
  go_upto_region 1 with fail
  rw [← HW.out]
  clear HW
  have c0 := HB.out.c0
  go_upto_region 3 with fail
  replace c0 := (HB.out.q ((Q.refl W0).alloc (Obj.cells #[] 3))).c0
  go_upto_region 4 with (at_builtin; refine wpList_append_src _ rfl (.tmp 20) (.tmp 22) _ rfl W0.heap.size 3 i0 _ 1 8 Tryz.underlying24 Hi.out Hz0.out Hz1.out Hz2.out rfl (by omega) (.slice (some ⟨W0.heap.size, 0, none⟩) 0 0) 0 [] rfl Ho.out A c.V.length k1 (cellsI c.V) rfl (by rw [cellsI_len]; omega) Hsrc.out (cellsI_one _) (by have := HV1.out.1; omega) (by have := HV1.out.2; omega) (by simp) ?_; intro v2 w2 own2 gr2 _; have HO := Lib.hid own2; have HG := Lib.hid gr2; clear own2 gr2)
  have b2 : Q W0 w2 := ((Q.refl W0).alloc (Obj.cells #[] 3)).grown HG.out (by simp) (by simp [Value.ownBlock])
  have own3 := HO.out
  rw [Nat.zero_add, List.nil_append] at own3
  obtain ⟨g, cap, hv3, hgb⟩ := own3.form (by omega)
  have hcap : c.V.length ≤ cap := by
    rw [hv3] at own3
    rcases own3.2 with ⟨e0, _⟩ | ⟨G, cp, cur, e1, _, _, hc, _⟩
    · cases e0
    · injection e1 with _ _ e3
      omega
  rw [hv3] at own3
  subst hv3
  have hO := Tr.OwnC.of_row own3
  obtain ⟨cg, fg⟩ := hO.2 i _ (cellsI_at Hil.out)
  have hgl := (own3.lt g rfl)
  have q3 : Q W0 (w2.setCell ⟨g, i, none⟩ (.int .i64 x)) := b2.setCell (p := ⟨g, i, none⟩) hgl.1 _
  have HG3 := Lib.hid (hO.set (s := i) (by rw [cellsI_len]; exact Hil.out) (.int .i64 x))
  have Hcap := Lib.hid hcap
  have HgB : Hid ((g ≠ w.heap.size + 1 ∧ w.heap.size ≤ g) ∧ w.heap.size + 1 < w2.heap.size) := by have h1 := HZ.out; have h2 := hgl.1; have h3 := hgl.2; unfold Hid; omega
  have j3 : (i : Int) < (c.V.length : Int) := by have := Hil.out; omega
  have j4 : (0 : Int) ≤ (i : Int) := Int.natCast_nonneg _
  have j5 : (i : Int) < ((0 + c.V.length : Nat) : Int) := by have := Hil.out; omega
  clear HO hgb hcap hO own3 hgl b2 c0 Hsrc Ho HG
  go_upto_region 5 with fail
  clear cg fg
  have HQ3 := Lib.hid (HQ0.out.trans q3)
  have HB3 := Lib.hid (HB.out.q q3)
  have HX3 := Lib.hid (HX.out.q q3)
  have HR3 := Lib.hid (HR.out.q q3)
  rw [← cellsI_set] at HG3
  have hsz3 : (w2.setCell ⟨g, i, none⟩ (.int .i64 x)).heap.size = w2.heap.size := by simp [World.setCell]
  rw [← hsz3] at HgB
  clear hsz3
  clear q3 HQ0 HB HX HR
  generalize w2.setCell ⟨g, i, none⟩ (.int .i64 x) = w3 at *
  obtain ⟨ad, hA, hab, cx⟩ := HR3.out.v.int_at Hil.out
  have hab2 : (ad.add i).block < w3.heap.size := by rw [Tr.add_block]; exact hab
  subst hA
  have ALL : Hid (∀ U, Q w3 U → U.cell? ⟨w.heap.size, 0, none⟩ = some (.slice (some ad) c.V.length k1) ∧ U.cell? ⟨w.heap.size, 1, none⟩ = some (.slice D c.N.length k2) ∧ U.cell? (ad.add i) = some (.int .i64 c.V[i])) := fun U q => ⟨(HB3.out.q q).c0, (HB3.out.q q).c1, (q.cell hab2).trans cx⟩
  obtain ⟨s0, s1, s2⟩ := ALL.out w3 (Q.refl _)
  clear cx hab hab2
  refine begin_t (S := fun w' => w'.cell? ⟨w.heap.size, 0, none⟩ = some (.slice (some ad) c.V.length k1) ∧ w'.cell? ⟨w.heap.size, 1, none⟩ = some (.slice D c.N.length k2) ∧ w'.cell? (ad.add i) = some (.int .i64 c.V[i])) (z := 13) (by kernel_rfl) ?_ (fun hHeld => ?_)
  · exact ALL.out _ (Q.refl w3).drew
  refine take_t (i := 1) (d := some 29) (v := ?_) rfl (by kernel_rfl) (by kernel_rfl) (by kernel_rfl) (by kernel_rfl) (fun _ _ _ h => h) rfl (by rfl) ?_ (by assumption) ?_
  rotate_left
  · (intro w hSw; (try dsimp only at hSw); go_simp; (try with_reducible rfl))
  try simp only [Act.put, List.setIfInBounds_toArray, List.set_cons_zero, List.set_cons_succ]
  refine take_t (i := 2) (d := some 30) (v := ?_) rfl (by kernel_rfl) (by kernel_rfl) (by kernel_rfl) (by kernel_rfl) (fun _ _ _ h => h) rfl (by rfl) ?_ (by assumption) ?_
  rotate_left
  · (intro w hSw; (try dsimp only at hSw); go_simp; (try with_reducible rfl))
  try simp only [Act.put, List.setIfInBounds_toArray, List.set_cons_zero, List.set_cons_succ]
  refine take_y (i := 4) (d := some 32) (v := ?_) rfl (by kernel_rfl) (by kernel_rfl) (by kernel_rfl) (by kernel_rfl) (fun _ _ _ h => h) rfl (by rfl) ?_ (by assumption) ?_
  rotate_left
  · (intro w; go_simp; (try with_reducible rfl))
  try simp only [Act.put, List.setIfInBounds_toArray, List.set_cons_zero, List.set_cons_succ]
  refine take_t (i := 5) (d := some 33) (v := ?_) rfl (by kernel_rfl) (by kernel_rfl) (by kernel_rfl) (by kernel_rfl) (fun _ _ _ h => h) rfl (by rfl) ?_ (by assumption) ?_
  rotate_left
  · (intro w hSw; (try dsimp only at hSw); go_simp; (try with_reducible rfl))
  try simp only [Act.put, List.setIfInBounds_toArray, List.set_cons_zero, List.set_cons_succ]
  refine take_t (i := 6) (d := some 34) (v := ?_) rfl (by kernel_rfl) (by kernel_rfl) (by kernel_rfl) (by kernel_rfl) (fun _ _ _ h => h) rfl (by rfl) ?_ (by assumption) ?_
  rotate_left
  · (intro w hSw; (try dsimp only at hSw); go_simp; (try with_reducible rfl))
  try simp only [Act.put, List.setIfInBounds_toArray, List.set_cons_zero, List.set_cons_succ]
  refine take_y (i := 7) (d := some 35) (v := ?_) rfl (by kernel_rfl) (by kernel_rfl) (by kernel_rfl) (by kernel_rfl) (fun _ _ _ h => h) rfl (by rfl) ?_ (by assumption) ?_
  rotate_left
  · (intro w; go_simp; (try with_reducible rfl))
  try simp only [Act.put, List.setIfInBounds_toArray, List.set_cons_zero, List.set_cons_succ]
  refine take_y (i := 8) (d := some 36) (v := ?_) rfl (by kernel_rfl) (by kernel_rfl) (by kernel_rfl) (by kernel_rfl) (fun _ _ _ h => h) rfl (by rfl) ?_ (by assumption) ?_
  rotate_left
  · (intro w; go_simp; (try with_reducible rfl))
  try simp only [Act.put, List.setIfInBounds_toArray, List.set_cons_zero, List.set_cons_succ]
  refine take_t (i := 9) (d := some 37) (v := ?_) rfl (by kernel_rfl) (by kernel_rfl) (by kernel_rfl) (by kernel_rfl) (fun _ _ _ h => h) rfl (by rfl) ?_ (by assumption) ?_
  rotate_left
  · (intro w hSw; (try dsimp only at hSw); go_simp; (try with_reducible rfl))
  try simp only [Act.put, List.setIfInBounds_toArray, List.set_cons_zero, List.set_cons_succ]
  refine take_y (i := 10) (d := some 38) (v := ?_) rfl (by kernel_rfl) (by kernel_rfl) (by kernel_rfl) (by kernel_rfl) (fun _ _ _ h => h) rfl (by rfl) ?_ (by assumption) ?_
  rotate_left
  · (intro w; go_simp; (try with_reducible rfl))
  try simp only [Act.put, List.setIfInBounds_toArray, List.set_cons_zero, List.set_cons_succ]
  refine both_t (i := 0) (j := 11) rfl rfl (by kernel_rfl) (by rfl) (by rfl) (fun K hK => ?_) (fun K hK => ?_)
  · go_simp
    have hHeld : ((fun w' => w'.cell? ⟨w.heap.size, 0, none⟩ = some (.slice (some ad) c.V.length k1) ∧ w'.cell? ⟨w.heap.size, 1, none⟩ = some (.slice D c.N.length k2) ∧ w'.cell? (ad.add i) = some (.int .i64 c.V[i])) : World → Prop) _ := ALL.out _ ((Q.refl w3).drew.alloc (Obj.cells #[] 195))
    refine hK.out _ _ (fun _ => hHeld) ?_
    clear hK K
    try simp only [Act.put, List.setIfInBounds_toArray, List.set_cons_zero, List.set_cons_succ]
    refine both_t (i := 3) (j := 11) rfl rfl (by kernel_rfl) (by rfl) (by rfl) (fun K hK => ?_) (fun K hK => ?_)
    · refine wp_append_src _ (.tmp 28) (.tmp 30) _ rfl w3.heap.size 195 i0' _ 2 16 Tryz.underlying27 Hi'.out Hz0'.out Hz1'.out Hz2'.out rfl (by omega) (.slice (some ⟨w3.heap.size, 0, none⟩) 0 0) 0 [] rfl (own_empty (Nat.le_refl _) (heap_alloc_new w3.drew (Obj.cells #[] 195))) D c.N.length k2 (cellsP c.N) rfl (cellsP_len _) (HR3.out.q ((Q.refl w3).drew.alloc (Obj.cells #[] 195))).n.src (cellsP_one _) (by have := HFw.out.2.1; unfold maxLen; omega) (by have := HFw.out.2.1; omega) (by simp <;> omega) ?_
      intro v4 w4 own4 gr4 at4
      have HQ4 : Hid (Q w3 w4) := Lib.hid (((Q.refl w3).drew.alloc (Obj.cells #[] 195)).grown gr4 (by simp <;> omega) (by simp [Value.ownBlock] <;> omega))
      have Own4 := Lib.hid own4
      clear own4 gr4 at4
      have hHeld : ((fun w' => w'.cell? ⟨w.heap.size, 0, none⟩ = some (.slice (some ad) c.V.length k1) ∧ w'.cell? ⟨w.heap.size, 1, none⟩ = some (.slice D c.N.length k2) ∧ w'.cell? (ad.add i) = some (.int .i64 c.V[i])) : World → Prop) _ := ALL.out _ HQ4.out
      refine hK.out _ _ (fun _ => hHeld) ?_
      clear hK K
      try simp only [Act.put, List.setIfInBounds_toArray]
      refine call_t (i := 11) rfl (by kernel_rfl) (by rfl) (fun K hK => ?_)
      go_simp
      have hHeld : ((fun w' => w'.cell? ⟨w.heap.size, 0, none⟩ = some (.slice (some ad) c.V.length k1) ∧ w'.cell? ⟨w.heap.size, 1, none⟩ = some (.slice D c.N.length k2) ∧ w'.cell? (ad.add i) = some (.int .i64 c.V[i])) : World → Prop) _ := ALL.out _ (HQ4.out.alloc (Obj.cells #[.int .i64 (i : Int), .int .i64 c.V[i]] 195))
      refine hK.out _ _ (fun _ => hHeld) ?_
      clear hK K
      try simp only [Act.put, List.setIfInBounds_toArray]
      refine call_t (i := 12) rfl (by kernel_rfl) (by rfl) (fun K hK => ?_)
      have own4' := Own4.out.alloc (Obj.cells #[.int .i64 (i : Int), .int .i64 c.V[i]] 195)
      have HQ4 := Lib.hid (HQ4.out.alloc (Obj.cells #[.int .i64 (i : Int), .int .i64 c.V[i]] 195))
      refine wp_append_src _ (.tmp 31) (.tmp 39) _ rfl w3.heap.size 195 i0' _ 2 16 Tryz.underlying27 Hi'.out Hz0'.out Hz1'.out Hz2'.out rfl (by omega) v4 (0 + c.N.length) ([] ++ cellsP c.N) rfl own4' (some ⟨w4.heap.size, 0, none⟩) 1 1 [.int .i64 (i : Int), .int .i64 c.V[i]] rfl rfl (src_block (cs := #[.int .i64 (i : Int), .int .i64 c.V[i]]) (heap_alloc_new w4 (Obj.cells #[.int .i64 (i : Int), .int .i64 c.V[i]] 195))) (by simp [Value.oneCell']) (by have := HFw.out.2.1; unfold maxLen; omega) (by have := HFw.out.2.1; omega) (HQ4.out.size) ?_
      intro v5 w5 own5 gr5 at5
      have HQ5 : Hid (Q w3 w5) := Lib.hid (HQ4.out.grown gr5 HQ4.out.size (fun b hb => (own4'.lt b hb).1))
      have Own5 := Lib.hid own5
      clear own5 gr5 at5
      have hHeld : ((fun w' => w'.cell? ⟨w.heap.size, 0, none⟩ = some (.slice (some ad) c.V.length k1) ∧ w'.cell? ⟨w.heap.size, 1, none⟩ = some (.slice D c.N.length k2) ∧ w'.cell? (ad.add i) = some (.int .i64 c.V[i])) : World → Prop) _ := ALL.out _ HQ5.out
      refine hK.out _ _ (fun _ => hHeld) ?_
      clear hK K
      try simp only [Act.put, List.setIfInBounds_toArray]
      refine call_t (i := 13) rfl (by kernel_rfl) (by rfl) (fun K hK => ?_)
      go_simp
      refine hK.out _ _ (fun hz => by cases hz) ?_
      clear hK K
      try simp only [Act.put]
      refine done_t (by kernel_rfl) ?_ _
      obtain ⟨A5, c5, n5, hn5, rfl, hc5⟩ := own_read3 Own5.out
      have Hn5 := Lib.hid hn5
      have Hc5 := Lib.hid hc5
      have hb := HB3.out.q HQ5.out
      have b2 := hb.c2
      have hx := HX3.out.q HQ5.out
      have HX5 := Lib.hid hx
      have x0 := hx.c0
      have x1 := hx.c1
      have x2 := hx.c2
      have u0 := hx.f0
      have u1 := hx.f1
      have u2 := hx.f2
      clear s0 s1 s2 hb hx hn5 hc5
      go_wp2_with fail
      have hO5 := Own5.out
      rw [← Hn5.out] at hO5
      have hz := HX5.out.all (.slice (some ⟨g, 0, none⟩) c.V.length cap) (.slice A5 n5 c5) (.slice E c.M.length k3)
      have y0 := hz.c0
      have y1 := hz.c1
      have y2 := hz.c2
      obtain ⟨hRd, hQd⟩ := fin_set (x := x) (.slice (some ⟨g, 0, none⟩) c.V.length cap) (.slice A5 n5 c5) (.slice E c.M.length k3) Hil.out (HG3.out.q HQ5.out) Hcap.out hO5 (by rw [Hn5.out]; omega) Hc5.out (by rw [cellsP_append]; rfl) HgB.out.2 HgB.out.1.1 HgB.out.1.2 HE.out Hk3.out (HQ3.out.trans HQ5.out) (Nat.le_succ _)
      refine bodyPost_ret (v := .tuple #[.agg #[.slice (some ⟨g, 0, none⟩) c.V.length cap, .slice A5 n5 c5, .slice E c.M.length k3], .int .i64 0]) (by simp [results, Tryz.f194, go_sem, y0, y1, y2]) rfl ⟨_, cap, _, c5, _, k3, ?_, hRd, hQd⟩
      rw [show (setC c i x).V.length = c.V.length by simp [setC], show (setC c i x).N.length = n5 by rw [Hn5.out]; simp [setC]]
      rfl
    · go_simp
      have hHeld : ((fun w' => w'.cell? ⟨w.heap.size, 0, none⟩ = some (.slice (some ad) c.V.length k1) ∧ w'.cell? ⟨w.heap.size, 1, none⟩ = some (.slice D c.N.length k2) ∧ w'.cell? (ad.add i) = some (.int .i64 c.V[i])) : World → Prop) _ := ALL.out _ (((Q.refl w3).drew.alloc (Obj.cells #[] 195)).alloc (Obj.cells #[.int .i64 (i : Int), .int .i64 c.V[i]] 195))
      refine hK.out _ _ (fun _ => hHeld) ?_
      clear hK K
      try simp only [Act.put, List.setIfInBounds_toArray, List.set_cons_zero, List.set_cons_succ]
      refine call_t (i := 3) rfl (by kernel_rfl) (by rfl) (fun K hK => ?_)
      refine wp_append_src _ (.tmp 28) (.tmp 30) _ rfl w3.heap.size 195 i0' _ 2 16 Tryz.underlying27 Hi'.out Hz0'.out Hz1'.out Hz2'.out rfl (by omega) (.slice (some ⟨w3.heap.size, 0, none⟩) 0 0) 0 [] rfl (own_empty (Nat.le_refl _) (heap_two_old w3.drew (Obj.cells #[] 195) (Obj.cells #[.int .i64 (i : Int), .int .i64 c.V[i]] 195))) D c.N.length k2 (cellsP c.N) rfl (cellsP_len _) (HR3.out.q (((Q.refl w3).drew.alloc (Obj.cells #[] 195)).alloc (Obj.cells #[.int .i64 (i : Int), .int .i64 c.V[i]] 195))).n.src (cellsP_one _) (by have := HFw.out.2.1; unfold maxLen; omega) (by have := HFw.out.2.1; omega) (by simp <;> omega) ?_
      intro v4 w4 own4 gr4 at4
      have HQ4 : Hid (Q w3 w4) := Lib.hid ((((Q.refl w3).drew.alloc (Obj.cells #[] 195)).alloc (Obj.cells #[.int .i64 (i : Int), .int .i64 c.V[i]] 195)).grown gr4 (by simp <;> omega) (by simp [Value.ownBlock] <;> omega))
      have hb4 := far_block gr4 (heap_two_new w3.drew (Obj.cells #[] 195) (Obj.cells #[.int .i64 (i : Int), .int .i64 c.V[i]] 195)) (by simp [Value.ownBlock])
      have own4' := own4
      clear own4 gr4 at4
      have hHeld : ((fun w' => w'.cell? ⟨w.heap.size, 0, none⟩ = some (.slice (some ad) c.V.length k1) ∧ w'.cell? ⟨w.heap.size, 1, none⟩ = some (.slice D c.N.length k2) ∧ w'.cell? (ad.add i) = some (.int .i64 c.V[i])) : World → Prop) _ := ALL.out _ HQ4.out
      refine hK.out _ _ (fun _ => hHeld) ?_
      clear hK K
      try simp only [Act.put, List.setIfInBounds_toArray]
      refine call_t (i := 12) rfl (by kernel_rfl) (by rfl) (fun K hK => ?_)
      refine wp_append_src _ (.tmp 31) (.tmp 39) _ rfl w3.heap.size 195 i0' _ 2 16 Tryz.underlying27 Hi'.out Hz0'.out Hz1'.out Hz2'.out rfl (by omega) v4 (0 + c.N.length) ([] ++ cellsP c.N) rfl own4' (some ⟨w3.heap.size + 1, 0, none⟩) 1 1 [.int .i64 (i : Int), .int .i64 c.V[i]] rfl rfl (src_block (cs := #[.int .i64 (i : Int), .int .i64 c.V[i]]) hb4) (by simp [Value.oneCell']) (by have := HFw.out.2.1; unfold maxLen; omega) (by have := HFw.out.2.1; omega) (HQ4.out.size) ?_
      intro v5 w5 own5 gr5 at5
      have HQ5 : Hid (Q w3 w5) := Lib.hid (HQ4.out.grown gr5 HQ4.out.size (fun b hb => (own4'.lt b hb).1))
      have Own5 := Lib.hid own5
      clear own5 gr5 at5
      have hHeld : ((fun w' => w'.cell? ⟨w.heap.size, 0, none⟩ = some (.slice (some ad) c.V.length k1) ∧ w'.cell? ⟨w.heap.size, 1, none⟩ = some (.slice D c.N.length k2) ∧ w'.cell? (ad.add i) = some (.int .i64 c.V[i])) : World → Prop) _ := ALL.out _ HQ5.out
      refine hK.out _ _ (fun _ => hHeld) ?_
      clear hK K
      try simp only [Act.put]
      refine call_t (i := 13) rfl (by kernel_rfl) (by rfl) (fun K hK => ?_)
      go_simp
      refine hK.out _ _ (fun hz => by cases hz) ?_
      clear hK K
      try simp only [Act.put]
      refine done_t (by kernel_rfl) ?_ _
      obtain ⟨A5, c5, n5, hn5, rfl, hc5⟩ := own_read3 Own5.out
      have Hn5 := Lib.hid hn5
      have Hc5 := Lib.hid hc5
      have hb := HB3.out.q HQ5.out
      have b2 := hb.c2
      have hx := HX3.out.q HQ5.out
      have HX5 := Lib.hid hx
      have x0 := hx.c0
      have x1 := hx.c1
      have x2 := hx.c2
      have u0 := hx.f0
      have u1 := hx.f1
      have u2 := hx.f2
      clear s0 s1 s2 hb hx hn5 hc5
      go_wp2_with fail
      have hO5 := Own5.out
      rw [← Hn5.out] at hO5
      have hz := HX5.out.all (.slice (some ⟨g, 0, none⟩) c.V.length cap) (.slice A5 n5 c5) (.slice E c.M.length k3)
      have y0 := hz.c0
      have y1 := hz.c1
      have y2 := hz.c2
      obtain ⟨hRd, hQd⟩ := fin_set (x := x) (.slice (some ⟨g, 0, none⟩) c.V.length cap) (.slice A5 n5 c5) (.slice E c.M.length k3) Hil.out (HG3.out.q HQ5.out) Hcap.out hO5 (by rw [Hn5.out]; omega) Hc5.out (by rw [cellsP_append]; rfl) HgB.out.2 HgB.out.1.1 HgB.out.1.2 HE.out Hk3.out (HQ3.out.trans HQ5.out) (Nat.le_succ _)
      refine bodyPost_ret (v := .tuple #[.agg #[.slice (some ⟨g, 0, none⟩) c.V.length cap, .slice A5 n5 c5, .slice E c.M.length k3], .int .i64 0]) (by simp [results, Tryz.f194, go_sem, y0, y1, y2]) rfl ⟨_, cap, _, c5, _, k3, ?_, hRd, hQd⟩
      rw [show (setC c i x).V.length = c.V.length by simp [setC], show (setC c i x).N.length = n5 by rw [Hn5.out]; simp [setC]]
      rfl
  · go_simp
    have hHeld : ((fun w' => w'.cell? ⟨w.heap.size, 0, none⟩ = some (.slice (some ad) c.V.length k1) ∧ w'.cell? ⟨w.heap.size, 1, none⟩ = some (.slice D c.N.length k2) ∧ w'.cell? (ad.add i) = some (.int .i64 c.V[i])) : World → Prop) _ := ALL.out _ ((Q.refl w3).drew.alloc (Obj.cells #[.int .i64 (i : Int), .int .i64 c.V[i]] 195))
    refine hK.out _ _ (fun _ => hHeld) ?_
    clear hK K
    try simp only [Act.put, List.setIfInBounds_toArray, List.set_cons_zero, List.set_cons_succ]
    refine call_t (i := 0) rfl (by kernel_rfl) (by rfl) (fun K hK => ?_)
    go_simp
    have hHeld : ((fun w' => w'.cell? ⟨w.heap.size, 0, none⟩ = some (.slice (some ad) c.V.length k1) ∧ w'.cell? ⟨w.heap.size, 1, none⟩ = some (.slice D c.N.length k2) ∧ w'.cell? (ad.add i) = some (.int .i64 c.V[i])) : World → Prop) _ := ALL.out _ (((Q.refl w3).drew.alloc (Obj.cells #[.int .i64 (i : Int), .int .i64 c.V[i]] 195)).alloc (Obj.cells #[] 195))
    refine hK.out _ _ (fun _ => hHeld) ?_
    clear hK K
    try simp only [Act.put, List.setIfInBounds_toArray, List.set_cons_zero, List.set_cons_succ]
    refine call_t (i := 3) rfl (by kernel_rfl) (by rfl) (fun K hK => ?_)
    refine wp_append_src _ (.tmp 28) (.tmp 30) _ rfl w3.heap.size 195 i0' _ 2 16 Tryz.underlying27 Hi'.out Hz0'.out Hz1'.out Hz2'.out rfl (by omega) (.slice (some ⟨w3.heap.size + 1, 0, none⟩) 0 0) 0 [] rfl (own_empty (Nat.le_succ _) (heap_two_new w3.drew (Obj.cells #[.int .i64 (i : Int), .int .i64 c.V[i]] 195) (Obj.cells #[] 195))) D c.N.length k2 (cellsP c.N) rfl (cellsP_len _) (HR3.out.q (((Q.refl w3).drew.alloc (Obj.cells #[.int .i64 (i : Int), .int .i64 c.V[i]] 195)).alloc (Obj.cells #[] 195))).n.src (cellsP_one _) (by have := HFw.out.2.1; unfold maxLen; omega) (by have := HFw.out.2.1; omega) (by simp <;> omega) ?_
    intro v4 w4 own4 gr4 at4
    have HQ4 : Hid (Q w3 w4) := Lib.hid ((((Q.refl w3).drew.alloc (Obj.cells #[.int .i64 (i : Int), .int .i64 c.V[i]] 195)).alloc (Obj.cells #[] 195)).grown gr4 (by simp <;> omega) (by simp [Value.ownBlock] <;> omega))
    have hb4 := far_block gr4 (heap_two_old w3.drew (Obj.cells #[.int .i64 (i : Int), .int .i64 c.V[i]] 195) (Obj.cells #[] 195)) (by simp [Value.ownBlock])
    have own4' := own4
    clear own4 gr4 at4
    have hHeld : ((fun w' => w'.cell? ⟨w.heap.size, 0, none⟩ = some (.slice (some ad) c.V.length k1) ∧ w'.cell? ⟨w.heap.size, 1, none⟩ = some (.slice D c.N.length k2) ∧ w'.cell? (ad.add i) = some (.int .i64 c.V[i])) : World → Prop) _ := ALL.out _ HQ4.out
    refine hK.out _ _ (fun _ => hHeld) ?_
    clear hK K
    try simp only [Act.put, List.setIfInBounds_toArray]
    refine call_t (i := 12) rfl (by kernel_rfl) (by rfl) (fun K hK => ?_)
    refine wp_append_src _ (.tmp 31) (.tmp 39) _ rfl w3.heap.size 195 i0' _ 2 16 Tryz.underlying27 Hi'.out Hz0'.out Hz1'.out Hz2'.out rfl (by omega) v4 (0 + c.N.length) ([] ++ cellsP c.N) rfl own4' (some ⟨w3.heap.size, 0, none⟩) 1 1 [.int .i64 (i : Int), .int .i64 c.V[i]] rfl rfl (src_block (cs := #[.int .i64 (i : Int), .int .i64 c.V[i]]) hb4) (by simp [Value.oneCell']) (by have := HFw.out.2.1; unfold maxLen; omega) (by have := HFw.out.2.1; omega) (HQ4.out.size) ?_
    intro v5 w5 own5 gr5 at5
    have HQ5 : Hid (Q w3 w5) := Lib.hid (HQ4.out.grown gr5 HQ4.out.size (fun b hb => (own4'.lt b hb).1))
    have Own5 := Lib.hid own5
    clear own5 gr5 at5
    have hHeld : ((fun w' => w'.cell? ⟨w.heap.size, 0, none⟩ = some (.slice (some ad) c.V.length k1) ∧ w'.cell? ⟨w.heap.size, 1, none⟩ = some (.slice D c.N.length k2) ∧ w'.cell? (ad.add i) = some (.int .i64 c.V[i])) : World → Prop) _ := ALL.out _ HQ5.out
    refine hK.out _ _ (fun _ => hHeld) ?_
    clear hK K
    try simp only [Act.put]
    refine call_t (i := 13) rfl (by kernel_rfl) (by rfl) (fun K hK => ?_)
    go_simp
    refine hK.out _ _ (fun hz => by cases hz) ?_
    clear hK K
    try simp only [Act.put]
    refine done_t (by kernel_rfl) ?_ _
    obtain ⟨A5, c5, n5, hn5, rfl, hc5⟩ := own_read3 Own5.out
    have Hn5 := Lib.hid hn5
    have Hc5 := Lib.hid hc5
    have hb := HB3.out.q HQ5.out
    have b2 := hb.c2
    have hx := HX3.out.q HQ5.out
    have HX5 := Lib.hid hx
    have x0 := hx.c0
    have x1 := hx.c1
    have x2 := hx.c2
    have u0 := hx.f0
    have u1 := hx.f1
    have u2 := hx.f2
    clear s0 s1 s2 hb hx hn5 hc5
    go_wp2_with fail
    have hO5 := Own5.out
    rw [← Hn5.out] at hO5
    have hz := HX5.out.all (.slice (some ⟨g, 0, none⟩) c.V.length cap) (.slice A5 n5 c5) (.slice E c.M.length k3)
    have y0 := hz.c0
    have y1 := hz.c1
    have y2 := hz.c2
    obtain ⟨hRd, hQd⟩ := fin_set (x := x) (.slice (some ⟨g, 0, none⟩) c.V.length cap) (.slice A5 n5 c5) (.slice E c.M.length k3) Hil.out (HG3.out.q HQ5.out) Hcap.out hO5 (by rw [Hn5.out]; omega) Hc5.out (by rw [cellsP_append]; rfl) HgB.out.2 HgB.out.1.1 HgB.out.1.2 HE.out Hk3.out (HQ3.out.trans HQ5.out) (Nat.le_succ _)
    refine bodyPost_ret (v := .tuple #[.agg #[.slice (some ⟨g, 0, none⟩) c.V.length cap, .slice A5 n5 c5, .slice E c.M.length k3], .int .i64 0]) (by simp [results, Tryz.f194, go_sem, y0, y1, y2]) rfl ⟨_, cap, _, c5, _, k3, ?_, hRd, hQd⟩
    rw [show (setC c i x).V.length = c.V.length by simp [setC], show (setC c i x).N.length = n5 by rw [Hn5.out]; simp [setC]]
    rfl
end Go.Proofs.YtnifmfdlocgefaaGreat.Ig
