/-
  Contracts of Mark.
-/
import Derived.Test.YtodmompfnlcjpaaTrailB
namespace Go.Proofs.Ytodmompfnlcjpaa.Tr
open Go.RowKit Kit

def OutPost (c : Cells) (w : World) (e : Ending) (w' : World) : Prop :=
  ∃ g1 k1 g2 k2 g3 k3, e = .returned (.agg #[.slice (some ⟨g1, 0, none⟩) c.V.length k1, .slice (some ⟨g2, 0, none⟩) c.N.length k2, .slice (some ⟨g3, 0, none⟩) c.M.length k3]) ∧ Out w w' c g1 k1 g2 k2 g3 k3
def OutPostE (c : Cells) (er : Int) (w : World) (e : Ending) (w' : World) : Prop :=
  ∃ g1 k1 g2 k2 g3 k3, e = .returned (.tuple #[.agg #[.slice (some ⟨g1, 0, none⟩) c.V.length k1, .slice (some ⟨g2, 0, none⟩) c.N.length k2, .slice (some ⟨g3, 0, none⟩) c.M.length k3], .int .i64 er]) ∧ Out w w' c g1 k1 g2 k2 g3 k3

/-- the boxes at a call's start: what came in, and the result's cells -/
theorem boxes (w : World) (a b c : Value) (t : TypeId) : ∃ W0, W0 = (w.alloc (Obj.cells #[a, b, c] t)).alloc (Obj.cells #[Value.slice none 0 0, Value.slice none 0 0, Value.slice none 0 0] t) ∧ Q w W0 ∧ W0.heap.size = w.heap.size + 2 ∧
    Box3 W0 w.heap.size a b c ∧ Box3 W0 (w.heap.size + 1) (Value.slice none 0 0) (Value.slice none 0 0) (Value.slice none 0 0) := by
  refine ⟨_, rfl, ((Q.refl w).alloc _).alloc _, by simp, (Box3.new w a b c t).q ((Q.refl _).alloc _), ?_⟩
  have X := Box3.new (w.alloc (Obj.cells #[a, b, c] t)) (Value.slice none 0 0) (Value.slice none 0 0) (Value.slice none 0 0) t
  rwa [World.size_alloc] at X

def markC (c : Cells) : Cells := ⟨c.V, c.N, c.M ++ [(c.N.length : Int)]⟩
theorem src1 (w : World) (v : Value) (t : TypeId) : ∀ j u, [v][j]? = some u → (w.alloc (.cells #[v] t)).cell? ((⟨w.heap.size, 0, none⟩ : Addr).add j) = some u := by
  intro j u hu
  rw [add_zero_head, cell_of_row _ _ _ _ _ _ (heap_alloc_new w _)]
  simpa using hu

set_option maxRecDepth 100000 in
set_option maxHeartbeats 2000000 in
theorem mark_any (c : Cells) (A D E : Option Addr) (n1 k1 n2 k2 n3 k3 : Nat) (w : World) (h1 : n1 = c.V.length) (h2 : n2 = c.N.length) (h3 : n3 = c.M.length) (h : Rd w c A k1 D k2 E k3) (hf : Few c 1000000) :
    Calls Try.prog 19 #[.agg #[.slice A n1 k1, .slice D n2 k2, .slice E n3 k3]] w (OutPost (markC c) w) := by
  subst h1 h2 h3
  obtain ⟨i0, hi, hz0, hz1, hz2⟩ := info_parts intInfo
  have Hi := Lib.hid hi
  have Hz1 := Lib.hid hz1
  clear hi hz0 hz1 hz2
  obtain ⟨W0, hW0, q0, hz0, hB, hX⟩ := boxes w (Value.slice A c.V.length k1) (Value.slice D c.N.length k2) (Value.slice E c.M.length k3) 25
  have HB := Lib.hid hB
  have HX := Lib.hid hX
  have HR := Lib.hid (h.q q0)
  have HZ := Lib.hid hz0
  have HW := Lib.hid hW0
  have Hf := Lib.hid hf
  clear h hB hX hz0 hW0 hf
  go_enter Try.func19, Try.ntmps19
  go_upto_region 1 with fail
  rw [← HW.out]
  have c0 := HB.out.c0
  have c1 := HB.out.c1
  have c2 := HB.out.c2
  clear HW
  go_wp2_with fail
  refine (copyOf_any c _ _ _ _ _ _ _ _ _ _ rfl rfl rfl HR.out Hf.out).mono ?_
  rintro e w1 ⟨g1, g2, g3, rfl, hC⟩
  have HC := Lib.hid hC
  have HB1 := Lib.hid (HB.out.q hC.q)
  have hz0 : w.heap.size + 2 ≤ W0.heap.size := Nat.le_of_eq HZ.out.symm
  have hz1 := hC.q.size
  have hw1 : w.heap.size < w1.heap.size := by omega
  have hlo := hC.lo
  have h12 := hC.d12
  have h23 := hC.d23
  have hg3 := (hC.m.lt g3 rfl).2
  clear hC c0 c1 c2
  have c1 := HB1.out.c1
  have q2 : Q w1 ((w1.alloc (Obj.cells #[.slice (some ⟨g1, 0, none⟩) c.V.length (c.V.length + 1), .slice (some ⟨g2, 0, none⟩) c.N.length (c.N.length + 1), .slice (some ⟨g3, 0, none⟩) c.M.length (c.M.length + 1)] 25)).alloc (Obj.cells #[.int .i64 (c.N.length : Int)] 3)) := ((Q.refl w1).alloc _).alloc _
  have HT := Lib.hid ((Box3.new w1 (.slice (some ⟨g1, 0, none⟩) c.V.length (c.V.length + 1)) (.slice (some ⟨g2, 0, none⟩) c.N.length (c.N.length + 1)) (.slice (some ⟨g3, 0, none⟩) c.M.length (c.M.length + 1)) 25).q ((Q.refl _).alloc (Obj.cells #[.int .i64 (c.N.length : Int)] 3)))
  have hs := src1 (w1.alloc (Obj.cells #[.slice (some ⟨g1, 0, none⟩) c.V.length (c.V.length + 1), .slice (some ⟨g2, 0, none⟩) c.N.length (c.N.length + 1), .slice (some ⟨g3, 0, none⟩) c.M.length (c.M.length + 1)] 25)) (.int .i64 (c.N.length : Int)) 3
  rw [World.size_alloc] at hs
  have Hs := Lib.hid hs
  have HX2 := Lib.hid ((HX.out.q HC.out.q).q q2)
  have HO := Lib.hid (row_kept HC.out.m q2 (Nat.le_refl _))
  clear hs
  go_wp2_with (at_builtin; refine wpList_append_fits _ rfl (.tmp 7) (.tmp 11) _ rfl W0.heap.size 3 i0 1 Try.underlying22 Hi.out Hz1.out g3 c.M.length (c.M.length + 1) (cellsI c.M) rfl HO.out ⟨w1.heap.size + 1, 0, none⟩ 1 1 [.int .i64 (c.N.length : Int)] rfl rfl Hs.out (by simp [Value.oneCell']) (by omega) ?_; intro w2 own2 hgr; have hT2 := HT.out.grown hgr (by omega); have y0 := hT2.c0; have y1 := hT2.c1; have y2 := hT2.c2; have z2 := hT2.f2; have hX2 := (HX2.out.grown hgr (by omega)).far (g := w1.heap.size) (i := 2) (by omega) (.slice (some ⟨g3, 0, none⟩) (c.M.length + 1) (c.M.length + 1)); have x0 := hX2.c0; have x1 := hX2.c1; have x2 := hX2.c2; have u0 := hX2.f0; have u1 := hX2.f1; have u2 := hX2.f2)
  have bz := hX2.all (.slice (some ⟨g1, 0, none⟩) c.V.length (c.V.length + 1)) (.slice (some ⟨g2, 0, none⟩) c.N.length (c.N.length + 1)) (.slice (some ⟨g3, 0, none⟩) (c.M.length + 1) (c.M.length + 1))
  have v0 := bz.c0
  have v1 := bz.c1
  have v2 := bz.c2
  have hg1 := (HC.out.v.lt g1 rfl).2
  have O2 : Out w w2 (markC c) g1 (c.V.length + 1) g2 (c.N.length + 1) g3 (c.M.length + 1) :=
    ⟨((OwnC.of_row HC.out.v).q q2).grown hgr (by intro e; injection e with e; omega), ((OwnC.of_row HC.out.n).q q2).grown hgr (by intro e; injection e with e; omega), by have := OwnC.of_row own2; rwa [show cellsI c.M ++ [Value.int .i64 (c.N.length : Int)] = cellsI (markC c).M by simp [markC, cellsI]] at this,
      Nat.le_succ _, Nat.le_succ _, by simp [markC], by omega, by omega, by omega, by omega, by omega, by omega, grown_q hgr ((q0.trans HC.out.q).trans q2) (by omega)⟩
  refine bodyPost_ret (v := .agg #[.slice (some ⟨g1, 0, none⟩) c.V.length (c.V.length + 1), .slice (some ⟨g2, 0, none⟩) c.N.length (c.N.length + 1), .slice (some ⟨g3, 0, none⟩) (c.M.length + 1) (c.M.length + 1)]) (by simp [results, Try.f19, go_sem, v0, v1, v2]) rfl ⟨g1, c.V.length + 1, g2, c.N.length + 1, g3, c.M.length + 1, by simp [markC], ?_⟩
  exact (O2.far (setCell_grown w2 w1.heap.size 2 _) (by omega) (by omega) (by omega) (by omega)).far (set3_grown _ (w.heap.size + 1) _ _ _) (by omega) (by omega) (by omega) (by omega)
end Go.Proofs.Ytodmompfnlcjpaa.Tr
