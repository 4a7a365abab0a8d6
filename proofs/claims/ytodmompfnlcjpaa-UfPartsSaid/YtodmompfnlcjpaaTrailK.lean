/-
  Contract of Keep.
-/
import Derived.Test.YtodmompfnlcjpaaTrailD
namespace Go.Proofs.Ytodmompfnlcjpaa.Tr
open Go.RowKit Kit

def keepC (c : Cells) : Cells := ⟨c.V, c.N, c.M.take (c.M.length - 1)⟩

set_option maxRecDepth 100000 in
set_option maxHeartbeats 2000000 in
theorem keep_none (c : Cells) (A D E : Option Addr) (n1 k1 n2 k2 n3 k3 : Nat) (w : World) (h1 : n1 = c.V.length) (h2 : n2 = c.N.length) (h3 : n3 = c.M.length) (h : Rd w c A k1 D k2 E k3) (hf : Few c 1000000) (hM : c.M.length = 0) :
    Calls Try.prog 38 #[.agg #[.slice A n1 k1, .slice D n2 k2, .slice E n3 k3]] w (OutPostE c 10 w) := by
  subst h1 h2 h3
  obtain ⟨W0, hW0, q0, hz0, hB, hX⟩ := boxes w (Value.slice A c.V.length k1) (Value.slice D c.N.length k2) (Value.slice E c.M.length k3) 25
  have HB := Lib.hid hB
  have HX := Lib.hid hX
  have HR := Lib.hid (h.q q0)
  have HZ := Lib.hid hz0
  have HW := Lib.hid hW0
  have Hf := Lib.hid hf
  obtain ⟨fv, fn, fm⟩ := hf
  have hd : decide (((c.M.length : Int) - 1) < 0) = true := decide_eq_true (by omega)
  clear hM
  clear h hB hX hz0 hW0
  go_enter Try.func38, Try.ntmps38
  go_upto_region 1 with fail
  rw [← HW.out]
  have c0 := HB.out.c0
  have c1 := HB.out.c1
  have c2 := HB.out.c2
  clear HW
  go_upto_region 2 with (go_at_call 37; refine (copyOf_any c _ _ _ _ _ _ _ _ _ _ rfl rfl rfl HR.out Hf.out).mono ?_; rintro e w1 ⟨g1, g2, g3, rfl, hC⟩; have HC := Lib.hid hC; clear hC)
  clear c0 c1 c2
  obtain ⟨hS, hO⟩ := st_start q0 HZ.out HB.out HX.out HC.out (.slice (some ⟨g1, 0, none⟩) c.V.length (c.V.length + 1)) (.slice (some ⟨g2, 0, none⟩) c.N.length (c.N.length + 1)) (.slice (some ⟨g3, 0, none⟩) c.M.length (c.M.length + 1)) 25
  have HRr := Lib.hid (((HR.out.q HC.out.q).q ((Q.refl w1).alloc (.cells #[(.slice (some ⟨g1, 0, none⟩) c.V.length (c.V.length + 1)), (.slice (some ⟨g2, 0, none⟩) c.N.length (c.N.length + 1)), (.slice (some ⟨g3, 0, none⟩) c.M.length (c.M.length + 1))] 25))))
  generalize w1.alloc (.cells #[(.slice (some ⟨g1, 0, none⟩) c.V.length (c.V.length + 1)), (.slice (some ⟨g2, 0, none⟩) c.N.length (c.N.length + 1)), (.slice (some ⟨g3, 0, none⟩) c.M.length (c.M.length + 1))] 25) = W1 at *
  generalize w1.heap.size = B at *
  have HO := Lib.hid hO
  have HS := Lib.hid hS
  have i0 := hS.ib.c0
  have i1 := hS.ib.c1
  have i2 := hS.ib.c2
  clear hO hS
  have t0 := HS.out.tb.c0
  have tf0 := HS.out.tb.f0
  have t1 := HS.out.tb.c1
  have tf1 := HS.out.tb.f1
  have t2 := HS.out.tb.c2
  have tf2 := HS.out.tb.f2
  have r0 := HS.out.rb.c0
  have r1 := HS.out.rb.c1
  have r2 := HS.out.rb.c2
  have f0 := HS.out.rb.f0
  have f1 := HS.out.rb.f1
  have f2 := HS.out.rb.f2
  have bz := HS.out.rb.all (.slice (some ⟨g1, 0, none⟩) c.V.length (c.V.length + 1)) (.slice (some ⟨g2, 0, none⟩) c.N.length (c.N.length + 1)) (.slice (some ⟨g3, 0, none⟩) c.M.length (c.M.length + 1))
  have v0 := bz.c0
  have v1 := bz.c1
  have v2 := bz.c2
  clear bz
  go_wp2_with fail
  have l1 := HO.out.lo
  have l2 := HO.out.d12
  have l3 := HO.out.d23
  refine bodyPost_ret (v := .tuple #[.agg #[.slice (some ⟨g1, 0, none⟩) c.V.length (c.V.length + 1), .slice (some ⟨g2, 0, none⟩) c.N.length (c.N.length + 1), .slice (some ⟨g3, 0, none⟩) c.M.length (c.M.length + 1)], .int .i64 10]) (by simp [results, Try.f38, go_sem, v0, v1, v2]) rfl ⟨g1, c.V.length + 1, g2, c.N.length + 1, g3, c.M.length + 1, rfl, ?_⟩
  exact out_end (HO.out.out HS.out.q) (by omega) (by omega) (by omega) _ _ _

set_option maxRecDepth 100000 in
set_option maxHeartbeats 2000000 in
theorem keep_some (c : Cells) (A D E : Option Addr) (n1 k1 n2 k2 n3 k3 : Nat) (w : World) (h1 : n1 = c.V.length) (h2 : n2 = c.N.length) (h3 : n3 = c.M.length) (h : Rd w c A k1 D k2 E k3) (hf : Few c 1000000) (hM : 0 < c.M.length) :
    Calls Try.prog 38 #[.agg #[.slice A n1 k1, .slice D n2 k2, .slice E n3 k3]] w (OutPostE (keepC c) 0 w) := by
  subst h1 h2 h3
  obtain ⟨W0, hW0, q0, hz0, hB, hX⟩ := boxes w (Value.slice A c.V.length k1) (Value.slice D c.N.length k2) (Value.slice E c.M.length k3) 25
  have HB := Lib.hid hB
  have HX := Lib.hid hX
  have HR := Lib.hid (h.q q0)
  have HZ := Lib.hid hz0
  have HW := Lib.hid hW0
  have Hf := Lib.hid hf
  obtain ⟨fv, fn, fm⟩ := hf
  have hd : decide (((c.M.length : Int) - 1) < 0) = false := decide_eq_false (by omega)
  have hsl := fun (g : Nat) (u : World) => slice_to (some ⟨g, 0, none⟩) c.M.length (c.M.length + 1) (c.M.length - 1) ((c.M.length : Int) - 1) (by omega) (by omega) u
  clear h hB hX hz0 hW0
  go_enter Try.func38, Try.ntmps38
  go_upto_region 1 with fail
  rw [← HW.out]
  have c0 := HB.out.c0
  have c1 := HB.out.c1
  have c2 := HB.out.c2
  clear HW
  go_upto_region 2 with (go_at_call 37; refine (copyOf_any c _ _ _ _ _ _ _ _ _ _ rfl rfl rfl HR.out Hf.out).mono ?_; rintro e w1 ⟨g1, g2, g3, rfl, hC⟩; have HC := Lib.hid hC; clear hC)
  clear c0 c1 c2
  obtain ⟨hS, hO⟩ := st_start q0 HZ.out HB.out HX.out HC.out (.slice (some ⟨g1, 0, none⟩) c.V.length (c.V.length + 1)) (.slice (some ⟨g2, 0, none⟩) c.N.length (c.N.length + 1)) (.slice (some ⟨g3, 0, none⟩) c.M.length (c.M.length + 1)) 25
  have HRr := Lib.hid (((HR.out.q HC.out.q).q ((Q.refl w1).alloc (.cells #[(.slice (some ⟨g1, 0, none⟩) c.V.length (c.V.length + 1)), (.slice (some ⟨g2, 0, none⟩) c.N.length (c.N.length + 1)), (.slice (some ⟨g3, 0, none⟩) c.M.length (c.M.length + 1))] 25))))
  generalize w1.alloc (.cells #[(.slice (some ⟨g1, 0, none⟩) c.V.length (c.V.length + 1)), (.slice (some ⟨g2, 0, none⟩) c.N.length (c.N.length + 1)), (.slice (some ⟨g3, 0, none⟩) c.M.length (c.M.length + 1))] 25) = W1 at *
  generalize w1.heap.size = B at *
  have HO := Lib.hid hO
  have HS := Lib.hid hS
  have i0 := hS.ib.c0
  have i1 := hS.ib.c1
  have i2 := hS.ib.c2
  clear hO hS
  have t0 := HS.out.tb.c0
  have tf0 := HS.out.tb.f0
  have t1 := HS.out.tb.c1
  have tf1 := HS.out.tb.f1
  have t2 := HS.out.tb.c2
  have tf2 := HS.out.tb.f2
  have HS2 := Lib.hid (HS.out.set2 (.slice (some ⟨g3, 0, none⟩) (c.M.length - 1) (c.M.length + 1)))
  have y0 := HS2.out.tb.c0
  have y1 := HS2.out.tb.c1
  have y2 := HS2.out.tb.c2
  have r0 := HS2.out.rb.c0
  have r1 := HS2.out.rb.c1
  have r2 := HS2.out.rb.c2
  have f0 := HS2.out.rb.f0
  have f1 := HS2.out.rb.f1
  have f2 := HS2.out.rb.f2
  have bz := HS2.out.rb.all (.slice (some ⟨g1, 0, none⟩) c.V.length (c.V.length + 1)) (.slice (some ⟨g2, 0, none⟩) c.N.length (c.N.length + 1)) (.slice (some ⟨g3, 0, none⟩) (c.M.length - 1) (c.M.length + 1))
  have v0 := bz.c0
  have v1 := bz.c1
  have v2 := bz.c2
  clear bz
  go_wp2_with fail
  have l1 := HO.out.lo
  have l2 := HO.out.d12
  have l3 := HO.out.d23
  have HBl := HS.out.hB
  have l4 := HO.out.d3B
  have hl : (c.M.take (c.M.length - 1)).length = c.M.length - 1 := by rw [List.length_take]; omega
  have O2 : Out w (W1.setCell ⟨B, 2, none⟩ (.slice (some ⟨g3, 0, none⟩) (c.M.length - 1) (c.M.length + 1))) (keepC c) g1 (c.V.length + 1) g2 (c.N.length + 1) g3 (c.M.length + 1) := by
    have h := (HO.out.out HS.out.q).far (setCell_grown W1 B 2 (.slice (some ⟨g3, 0, none⟩) (c.M.length - 1) (c.M.length + 1))) (by omega) (by omega) (by omega) (by omega)
    exact ⟨h.v, h.n, by have := h.m.take (c.M.length - 1); rwa [show (cellsI c.M).take (c.M.length - 1) = cellsI (keepC c).M by simp [keepC, cellsI, List.map_take]] at this, h.lv, h.ln, by show (c.M.take _).length ≤ _; omega, h.o1, h.o2, h.o3, h.d12, h.d13, h.d23, h.q⟩
  refine bodyPost_ret (v := .tuple #[.agg #[.slice (some ⟨g1, 0, none⟩) c.V.length (c.V.length + 1), .slice (some ⟨g2, 0, none⟩) c.N.length (c.N.length + 1), .slice (some ⟨g3, 0, none⟩) (c.M.length - 1) (c.M.length + 1)], .int .i64 0]) (by simp [results, Try.f38, go_sem, v0, v1, v2]) rfl ⟨g1, c.V.length + 1, g2, c.N.length + 1, g3, c.M.length + 1, by simp only [keepC, hl], ?_⟩
  exact out_end O2 (by omega) (by omega) (by omega) _ _ _
end Go.Proofs.Ytodmompfnlcjpaa.Tr
