/-
  Contract of Grow.
-/
import Derived.Test.YtodmompfnlcjpaaTrailD
namespace Go.Proofs.Ytodmompfnlcjpaa.Tr
open Go.RowKit Kit

def growC (c : Cells) (x : Int) : Cells := ⟨c.V ++ [x], c.N ++ [(-1, 0)], c.M⟩

set_option maxRecDepth 100000 in
set_option maxHeartbeats 2000000 in
theorem grow_any (c : Cells) (x : Int) (A D E : Option Addr) (n1 k1 n2 k2 n3 k3 : Nat) (w : World) (h1 : n1 = c.V.length) (h2 : n2 = c.N.length) (h3 : n3 = c.M.length) (h : Rd w c A k1 D k2 E k3) (hf : Few c 1000000) :
    Calls Try.prog 36 #[.agg #[.slice A n1 k1, .slice D n2 k2, .slice E n3 k3], .int .i64 x] w (OutPost (growC c x) w) := by
  subst h1 h2 h3
  obtain ⟨W0, hW0, q0, hz0, hB, hX⟩ := boxes w (Value.slice A c.V.length k1) (Value.slice D c.N.length k2) (Value.slice E c.M.length k3) 25
  have HB := Lib.hid hB
  have HX := Lib.hid hX
  have HR := Lib.hid (h.q q0)
  have HZ := Lib.hid hz0
  have HW := Lib.hid hW0
  have Hf := Lib.hid hf
  obtain ⟨fv, fn, fm⟩ := hf
  obtain ⟨j0, hi, hz0', hz1, hz2⟩ := info_parts intInfo
  have Hi := Lib.hid hi
  have Hz1 := Lib.hid hz1
  clear hi hz0' hz1 hz2
  obtain ⟨j1, hi, hz0', hz1, hz2⟩ := info_parts noteInfo
  have Hi2 := Lib.hid hi
  have Hz2 := Lib.hid hz1
  clear hi hz0' hz1 hz2
  clear h hB hX hz0 hW0
  go_enter Try.func36, Try.ntmps36
  go_upto_region 1 with fail
  rw [← HW.out]
  have c0 := HB.out.c0
  have c1 := HB.out.c1
  have c2 := HB.out.c2
  clear HW
  go_upto_region 2 with (go_at_call 37; refine (copyOf_any c _ _ _ _ _ _ _ _ _ _ rfl rfl rfl HR.out Hf.out).mono ?_; rintro e w1 ⟨g1, g2, g3, rfl, hC⟩; have HC := Lib.hid hC; clear hC)
  clear c0 c1 c2
  obtain ⟨hS, hO⟩ := st_start q0 HZ.out HB.out HX.out HC.out (.slice (some ⟨g1, 0, none⟩) c.V.length (c.V.length + 1)) (.slice (some ⟨g2, 0, none⟩) c.N.length (c.N.length + 1)) (.slice (some ⟨g3, 0, none⟩) c.M.length (c.M.length + 1)) 25
  have HRr := Lib.hid (((HR.out.q HC.out.q).q ((Q.refl w1).alloc (.cells #[(.slice (some ⟨g1, 0, none⟩) c.V.length (c.V.length + 1)), (.slice (some ⟨g2, 0, none⟩) c.N.length (c.N.length + 1)), (.slice (some ⟨g3, 0, none⟩) c.M.length (c.M.length + 1))] 25))))
  generalize w1.alloc (.cells #[(.slice (some ⟨g1, 0, none⟩) c.V.length (c.V.length + 1)), (.slice (some ⟨g2, 0, none⟩) c.N.length (c.N.length + 1)), (.slice (some ⟨g3, 0, none⟩) c.M.length (c.M.length + 1))] 25) = W1 at *
  generalize w1.heap.size = B at *
  have HO := Lib.hid hO
  have HS := Lib.hid hS
  have i0 := hS.ib.c0
  have i1 := hS.ib.c1
  have i2 := hS.ib.c2
  clear hO hS
  have t0 := HS.out.tb.c0
  have tf0 := HS.out.tb.f0
  have t1 := HS.out.tb.c1
  have tf1 := HS.out.tb.f1
  have t2 := HS.out.tb.c2
  have tf2 := HS.out.tb.f2
  have qa := (Q.refl W1).alloc (.cells #[.int .i64 x] 3)
  have HSa := Lib.hid (HS.out.more qa)
  have HOa := Lib.hid (HO.out.more qa)
  have Hs := Lib.hid (src1 W1 (.int .i64 x) 3)
  clear qa
  have l1 := HO.out.lo
  have l2 := HO.out.d12
  have l3 := HO.out.d23
  have l4 := HO.out.d3B
  go_upto_region 3 with (at_builtin; refine wpList_append_fits _ rfl (.tmp 9) (.tmp 11) _ rfl (w.heap.size + 2) 3 j0 1 Try.underlying22 Hi.out Hz1.out g1 c.V.length (c.V.length + 1) (cellsI c.V) rfl HOa.out.v ⟨W1.heap.size, 0, none⟩ 1 1 [.int .i64 x] rfl rfl Hs.out (by simp [Value.oneCell']) (by omega) ?_; intro w2 own2 hgr; have hS2 := HSa.out.grown hgr l1 (by omega); have HG2 := Lib.hid hgr; have Own2 := Lib.hid own2; have HS2 := Lib.hid hS2; have y0 := hS2.tb.c0; have y1 := hS2.tb.c1; have y2 := hS2.tb.c2; have yf := hS2.tb.f0; clear hS2 own2 hgr)
  clear y0 y1 y2 yf t0 t1 t2 tf0 tf1 tf2
  have HS3 := Lib.hid (HS2.out.set0 (.slice (some ⟨g1, 0, none⟩) (c.V.length + 1) (c.V.length + 1)))
  have HN3 := Lib.hid (row_far (row_far HOa.out.n HG2.out (by omega)) (setCell_grown w2 B 0 (.slice (some ⟨g1, 0, none⟩) (c.V.length + 1) (c.V.length + 1))) (by omega))
  have HM3 := Lib.hid (row_far (row_far HOa.out.m HG2.out (by omega)) (setCell_grown w2 B 0 (.slice (some ⟨g1, 0, none⟩) (c.V.length + 1) (c.V.length + 1))) (by omega))
  have HV3 := Lib.hid (row_far Own2.out (setCell_grown w2 B 0 (.slice (some ⟨g1, 0, none⟩) (c.V.length + 1) (c.V.length + 1))) (by omega))
  clear HS2 Own2 HG2 HSa HOa
  generalize w2.setCell ⟨B, 0, none⟩ (.slice (some ⟨g1, 0, none⟩) (c.V.length + 1) (c.V.length + 1)) = W3 at *
  have t0 := HS3.out.tb.c0
  have tf0 := HS3.out.tb.f0
  have t1 := HS3.out.tb.c1
  have tf1 := HS3.out.tb.f1
  have t2 := HS3.out.tb.c2
  have tf2 := HS3.out.tb.f2
  have qa := (Q.refl W3).alloc (.cells #[.int .i64 (-1), .int .i64 0] 64)
  have HSb := Lib.hid (HS3.out.more qa)
  have HNb := Lib.hid (row_kept HN3.out qa (Nat.le_refl _))
  have HMb := Lib.hid (row_kept HM3.out qa (Nat.le_refl _))
  have HVb := Lib.hid (row_kept HV3.out qa (Nat.le_refl _))
  have Hs2 := Lib.hid (src2 W3 (.int .i64 (-1)) (.int .i64 0) 64)
  clear qa
  go_upto_region 4 with (at_builtin; refine wpList_append_fits _ rfl (.tmp 15) (.tmp 17) _ rfl (w.heap.size + 2) 64 j1 2 Try.underlying23 Hi2.out Hz2.out g2 c.N.length (c.N.length + 1) (cellsP c.N) rfl HNb.out ⟨W3.heap.size, 0, none⟩ 1 1 [.int .i64 (-1), .int .i64 0] rfl rfl Hs2.out (by simp [Value.oneCell']) (by omega) ?_; intro w4 own4 hgr; have hS4 := HSb.out.grown hgr (by omega) (by omega); have HG4 := Lib.hid hgr; have Own4 := Lib.hid own4; have HS4 := Lib.hid hS4; have y0 := hS4.tb.c0; have y1 := hS4.tb.c1; have y2 := hS4.tb.c2; have yf := hS4.tb.f1; clear hS4 own4 hgr)
  clear y0 y1 y2 yf t0 t1 t2 tf0 tf1 tf2
  have HS5 := Lib.hid (HS4.out.set1 (.slice (some ⟨g2, 0, none⟩) (c.N.length + 1) (c.N.length + 1)))
  have HV5 := Lib.hid (row_far (row_far HVb.out HG4.out (by omega)) (setCell_grown w4 B 1 (.slice (some ⟨g2, 0, none⟩) (c.N.length + 1) (c.N.length + 1))) (by omega))
  have HM5 := Lib.hid (row_far (row_far HMb.out HG4.out (by omega)) (setCell_grown w4 B 1 (.slice (some ⟨g2, 0, none⟩) (c.N.length + 1) (c.N.length + 1))) (by omega))
  have HN5 := Lib.hid (row_far Own4.out (setCell_grown w4 B 1 (.slice (some ⟨g2, 0, none⟩) (c.N.length + 1) (c.N.length + 1))) (by omega))
  clear HS4 Own4 HG4 HSb HNb HMb HVb
  generalize w4.setCell ⟨B, 1, none⟩ (.slice (some ⟨g2, 0, none⟩) (c.N.length + 1) (c.N.length + 1)) = W5 at *
  have t0 := HS5.out.tb.c0
  have tf0 := HS5.out.tb.f0
  have t1 := HS5.out.tb.c1
  have tf1 := HS5.out.tb.f1
  have t2 := HS5.out.tb.c2
  have tf2 := HS5.out.tb.f2
  have r0 := HS5.out.rb.c0
  have r1 := HS5.out.rb.c1
  have r2 := HS5.out.rb.c2
  have f0 := HS5.out.rb.f0
  have f1 := HS5.out.rb.f1
  have f2 := HS5.out.rb.f2
  have bz := HS5.out.rb.all (.slice (some ⟨g1, 0, none⟩) (c.V.length + 1) (c.V.length + 1)) (.slice (some ⟨g2, 0, none⟩) (c.N.length + 1) (c.N.length + 1)) (.slice (some ⟨g3, 0, none⟩) c.M.length (c.M.length + 1))
  have v0 := bz.c0
  have v1 := bz.c1
  have v2 := bz.c2
  clear bz
  go_wp2_with fail
  have O5 : Out w W5 (growC c x) g1 (c.V.length + 1) g2 (c.N.length + 1) g3 (c.M.length + 1) :=
    ⟨by have := OwnC.of_row HV5.out; rwa [← show cellsI (growC c x).V = cellsI c.V ++ [Value.int .i64 x] by simp [growC, cellsI]] at this,
      by have := OwnC.of_row HN5.out; rwa [← show cellsP (growC c x).N = cellsP c.N ++ [Value.int .i64 (-1), Value.int .i64 0] by show cellsP (c.N ++ [(-1, 0)]) = _; rw [cellsP_append]; rfl] at this, OwnC.of_row HM5.out, by simp [growC], by simp [growC], Nat.le_succ _, by omega, by omega, by omega, by omega, by omega, by omega, HS5.out.q⟩
  refine bodyPost_ret (v := .agg #[.slice (some ⟨g1, 0, none⟩) (c.V.length + 1) (c.V.length + 1), .slice (some ⟨g2, 0, none⟩) (c.N.length + 1) (c.N.length + 1), .slice (some ⟨g3, 0, none⟩) c.M.length (c.M.length + 1)]) (by simp [results, Try.f36, go_sem, v0, v1, v2]) rfl ⟨g1, c.V.length + 1, g2, c.N.length + 1, g3, c.M.length + 1, by simp [growC], ?_⟩
  exact out_end O5 (by omega) (by omega) (by omega) _ _ _
end Go.Proofs.Ytodmompfnlcjpaa.Tr
