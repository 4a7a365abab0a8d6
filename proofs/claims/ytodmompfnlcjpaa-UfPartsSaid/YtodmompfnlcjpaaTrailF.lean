/-
  Contract of Back.
-/
import Derived.Test.YtodmompfnlcjpaaTrailE
import Derived.Test.YtodmompfnlcjpaaTrailK
import Derived.Deep.RegionHeld3
namespace Go.Proofs.Ytodmompfnlcjpaa.Tr
open Go.RowKit Kit

def cutP (A : Option Addr) (c m : Nat) : Option Addr := if c = m then A else A.map (·.add (m * 2))
theorem slice_fromP (A : Option Addr) (n c m : Nat) (h : m ≤ n) (u : World) : (Instr.slice 23 (.slice A n c) (some (.int .i64 (m : Int))) none none).run Try.prog u = .ok (.slice (cutP A c m) (n - m) (c - m)) u := by
  obtain ⟨i0, hi, hz0, hz1, hz2⟩ := info_parts noteInfo
  simp [Instr.slice, run_underlying Try.underlying23, Instr.sliceBounds, Instr.sliceBound, asIntOf, sizeOf, typeInfo, hi, hz1, h, cutP]
theorem Rds.cut {w : World} {B : Nat} {A : Option Addr} {ns : List Note} (h : Rds w B A (cellsP ns)) (c m : Nat) (hc : ns.length ≤ c) : Rds w B (cutP A c m) (cellsP (ns.drop m)) := fun h0 => by
  rw [cellsP_len, List.length_drop] at h0
  obtain ⟨ad, rfl, hb, hcc⟩ := h (by rw [cellsP_len]; omega)
  refine ⟨ad.add (m * 2), ?_, by rw [add_block]; exact hb, fun i x hx => ?_⟩
  · unfold cutP; rw [if_neg (by omega)]; rfl
  · rw [← cellsP_drop, List.getElem?_drop] at hx
    rw [Addr.add_add]
    exact hcc _ x hx

/-- behind Keep, in its box -/
theorem st_keep {w W0 w1 : World} {c : Cells} {g1 k1 g2 k2 g3 k3 : Nat} {a b d : Value} (q0 : Q w W0) (hz : W0.heap.size = w.heap.size + 2) (hB : Box3 W0 w.heap.size a b d) (hX : Box3 W0 (w.heap.size + 1) (.slice none 0 0) (.slice none 0 0) (.slice none 0 0)) (hC : Out W0 w1 c g1 k1 g2 k2 g3 k3) (x y z : Value) (t : TypeId) :
    St w (w1.alloc (.cells #[x, y, z] t)) w1.heap.size a b d x y z ∧ Out w (w1.alloc (.cells #[x, y, z] t)) c g1 k1 g2 k2 g3 k3 ∧ (g1 < w1.heap.size ∧ g2 < w1.heap.size ∧ g3 < w1.heap.size) ∧ (w.heap.size + 1 < g1 ∧ w.heap.size + 1 < g2 ∧ w.heap.size + 1 < g3) := by
  have q1 := hC.q.trans ((Q.refl w1).alloc (.cells #[x, y, z] t))
  have hs := hC.q.size
  have := hC.o1
  have := hC.o2
  have := hC.o3
  refine ⟨⟨hB.q q1, hX.q q1, Box3.new w1 x y z t, by omega, q0.trans q1⟩, (hC.from q0).more ((Q.refl w1).alloc _), ⟨hC.v.1, hC.n.1, hC.m.1⟩, by omega, by omega, by omega⟩

def backC (c : Cells) (m : Nat) (V' : List Int) : Cells := ⟨V', c.N.take m, c.M.take (c.M.length - 1)⟩

set_option maxRecDepth 100000 in
set_option maxHeartbeats 2000000 in
theorem back_none (c : Cells) (A D E : Option Addr) (n1 k1 n2 k2 n3 k3 : Nat) (w : World) (h1 : n1 = c.V.length) (h2 : n2 = c.N.length) (h3 : n3 = c.M.length) (h : Rd w c A k1 D k2 E k3) (hf : Few c 1000000) (hM : c.M.length = 0) :
    Calls Try.prog 20 #[.agg #[.slice A n1 k1, .slice D n2 k2, .slice E n3 k3]] w (OutPostE c 10 w) := by
  subst h1 h2 h3
  obtain ⟨W0, hW0, q0, hz0, hB, hX⟩ := boxes w (Value.slice A c.V.length k1) (Value.slice D c.N.length k2) (Value.slice E c.M.length k3) 25
  have HB := Lib.hid hB
  have HX := Lib.hid hX
  have HR := Lib.hid (h.q q0)
  have HZ := Lib.hid hz0
  have HW := Lib.hid hW0
  have Hf := Lib.hid hf
  have HM := Lib.hid hM
  clear h hB hX hz0 hW0 hf hM
  go_enter Try.func20, Try.ntmps20
  go_upto_region 1 with fail
  rw [← HW.out]
  have c0 := HB.out.c0
  have c1 := HB.out.c1
  have c2 := HB.out.c2
  clear HW
  go_upto_region 2 with (go_at_call 38; refine (keep_none c _ _ _ _ _ _ _ _ _ _ rfl rfl rfl HR.out Hf.out HM.out).mono ?_; rintro e w1 ⟨g1, k1', g2, k2', g3, k3', rfl, hC⟩; have HC := Lib.hid hC; clear hC)
  clear c0 c1 c2
  obtain ⟨hS, hO, _, hl1, hl2, hl3⟩ := st_keep q0 HZ.out HB.out HX.out HC.out (.slice (some ⟨g1, 0, none⟩) c.V.length k1') (.slice (some ⟨g2, 0, none⟩) c.N.length k2') (.slice (some ⟨g3, 0, none⟩) c.M.length k3') 25
  generalize w1.alloc (.cells #[.slice (some ⟨g1, 0, none⟩) c.V.length k1', .slice (some ⟨g2, 0, none⟩) c.N.length k2', .slice (some ⟨g3, 0, none⟩) c.M.length k3'] 25) = W1 at *
  generalize w1.heap.size = B at *
  have HO := Lib.hid hO
  have t0 := hS.tb.c0
  have t1 := hS.tb.c1
  have t2 := hS.tb.c2
  have r0 := hS.rb.c0
  have r1 := hS.rb.c1
  have r2 := hS.rb.c2
  have f0 := hS.rb.f0
  have f1 := hS.rb.f1
  have f2 := hS.rb.f2
  have bz := hS.rb.all (.slice (some ⟨g1, 0, none⟩) c.V.length k1') (.slice (some ⟨g2, 0, none⟩) c.N.length k2') (.slice (some ⟨g3, 0, none⟩) c.M.length k3')
  have v0 := bz.c0
  have v1 := bz.c1
  have v2 := bz.c2
  clear hO hS bz
  go_wp2_with fail
  refine bodyPost_ret (v := .tuple #[.agg #[.slice (some ⟨g1, 0, none⟩) c.V.length k1', .slice (some ⟨g2, 0, none⟩) c.N.length k2', .slice (some ⟨g3, 0, none⟩) c.M.length k3'], .int .i64 10]) (by simp [results, Try.f20, go_sem, v0, v1, v2]) rfl ⟨g1, k1', g2, k2', g3, k3', rfl, ?_⟩
  exact out_end HO.out hl1 hl2 hl3 _ _ _

end Go.Proofs.Ytodmompfnlcjpaa.Tr
