/-
  Contract of Set.
-/
import Derived.Test.YtodmompfnlcjpaaTrailD
namespace Go.Proofs.Ytodmompfnlcjpaa.Tr
open Go.RowKit Kit

def setC (c : Cells) (at_ : Nat) (x : Int) : Cells := ⟨c.V.set at_ x, c.N ++ [((at_ : Int), c.V.getD at_ 0)], c.M⟩

set_option maxRecDepth 100000 in
set_option maxHeartbeats 2000000 in
theorem set_none (c : Cells) (a x : Int) (A D E : Option Addr) (n1 k1 n2 k2 n3 k3 : Nat) (w : World) (h1 : n1 = c.V.length) (h2 : n2 = c.N.length) (h3 : n3 = c.M.length) (h : Rd w c A k1 D k2 E k3) (hf : Few c 1000000) (ha : ¬ (0 ≤ a ∧ a < c.V.length)) :
    Calls Try.prog 29 #[.agg #[.slice A n1 k1, .slice D n2 k2, .slice E n3 k3], .int .i64 a, .int .i64 x] w (OutPostE c 1 w) := by
  subst h1 h2 h3
  obtain ⟨W0, hW0, q0, hz0, hB, hX⟩ := boxes w (Value.slice A c.V.length k1) (Value.slice D c.N.length k2) (Value.slice E c.M.length k3) 25
  have HB := Lib.hid hB
  have HX := Lib.hid hX
  have HR := Lib.hid (h.q q0)
  have HZ := Lib.hid hz0
  have HW := Lib.hid hW0
  have Hf := Lib.hid hf
  obtain ⟨fv, fn, fm⟩ := hf
  have hd : Hid ((decide (0 ≤ a) && decide (a < (c.V.length : Int))) = false) := by
    unfold Hid
    by_cases e : 0 ≤ a
    · rw [decide_eq_false (fun h => ha ⟨e, h⟩), Bool.and_false]
    · rw [decide_eq_false e]; rfl
  clear ha
  clear h hB hX hz0 hW0
  go_enter Try.func29, Try.ntmps29
  go_upto_region 1 with fail
  rw [← HW.out]
  have c0 := HB.out.c0
  have c1 := HB.out.c1
  have c2 := HB.out.c2
  clear HW
  go_upto_region 2 with (go_at_call 37; refine (copyOf_any c _ _ _ _ _ _ _ _ _ _ rfl rfl rfl HR.out Hf.out).mono ?_; rintro e w1 ⟨g1, g2, g3, rfl, hC⟩; have HC := Lib.hid hC; clear hC)
  clear c0 c1 c2
  obtain ⟨hS, hO⟩ := st_start q0 HZ.out HB.out HX.out HC.out (.slice (some ⟨g1, 0, none⟩) c.V.length (c.V.length + 1)) (.slice (some ⟨g2, 0, none⟩) c.N.length (c.N.length + 1)) (.slice (some ⟨g3, 0, none⟩) c.M.length (c.M.length + 1)) 25
  have HRr := Lib.hid (((HR.out.q HC.out.q).q ((Q.refl w1).alloc (.cells #[(.slice (some ⟨g1, 0, none⟩) c.V.length (c.V.length + 1)), (.slice (some ⟨g2, 0, none⟩) c.N.length (c.N.length + 1)), (.slice (some ⟨g3, 0, none⟩) c.M.length (c.M.length + 1))] 25))))
  generalize w1.alloc (.cells #[(.slice (some ⟨g1, 0, none⟩) c.V.length (c.V.length + 1)), (.slice (some ⟨g2, 0, none⟩) c.N.length (c.N.length + 1)), (.slice (some ⟨g3, 0, none⟩) c.M.length (c.M.length + 1))] 25) = W1 at *
  generalize w1.heap.size = B at *
  have HO := Lib.hid hO
  have HS := Lib.hid hS
  have i0 := hS.ib.c0
  have i1 := hS.ib.c1
  have i2 := hS.ib.c2
  clear hO hS
  have t0 := HS.out.tb.c0
  have tf0 := HS.out.tb.f0
  have t1 := HS.out.tb.c1
  have tf1 := HS.out.tb.f1
  have t2 := HS.out.tb.c2
  have tf2 := HS.out.tb.f2
  have r0 := HS.out.rb.c0
  have r1 := HS.out.rb.c1
  have r2 := HS.out.rb.c2
  have f0 := HS.out.rb.f0
  have f1 := HS.out.rb.f1
  have f2 := HS.out.rb.f2
  have bz := HS.out.rb.all (.slice (some ⟨g1, 0, none⟩) c.V.length (c.V.length + 1)) (.slice (some ⟨g2, 0, none⟩) c.N.length (c.N.length + 1)) (.slice (some ⟨g3, 0, none⟩) c.M.length (c.M.length + 1))
  have v0 := bz.c0
  have v1 := bz.c1
  have v2 := bz.c2
  clear bz
  go_wp2_with (refine (place_any _ _ _).mono ?_; rintro e w2 ⟨rfl, rfl⟩; rw [hd.out])
  have l1 := HO.out.lo
  have l2 := HO.out.d12
  have l3 := HO.out.d23
  refine bodyPost_ret (v := .tuple #[.agg #[.slice (some ⟨g1, 0, none⟩) c.V.length (c.V.length + 1), .slice (some ⟨g2, 0, none⟩) c.N.length (c.N.length + 1), .slice (some ⟨g3, 0, none⟩) c.M.length (c.M.length + 1)], .int .i64 1]) (by simp [results, Try.f29, go_sem, v0, v1, v2]) rfl ⟨g1, c.V.length + 1, g2, c.N.length + 1, g3, c.M.length + 1, rfl, ?_⟩
  exact out_end (HO.out.out HS.out.q) (by omega) (by omega) (by omega) _ _ _

set_option maxRecDepth 100000 in
set_option maxHeartbeats 2000000 in
theorem set_some (c : Cells) (a : Nat) (x : Int) (A D E : Option Addr) (n1 k1 n2 k2 n3 k3 : Nat) (w : World) (h1 : n1 = c.V.length) (h2 : n2 = c.N.length) (h3 : n3 = c.M.length) (h : Rd w c A k1 D k2 E k3) (hf : Few c 1000000) (ha : a < c.V.length) :
    Calls Try.prog 29 #[.agg #[.slice A n1 k1, .slice D n2 k2, .slice E n3 k3], .int .i64 (a : Int), .int .i64 x] w (OutPostE (setC c a x) 0 w) := by
  subst h1 h2 h3
  obtain ⟨W0, hW0, q0, hz0, hB, hX⟩ := boxes w (Value.slice A c.V.length k1) (Value.slice D c.N.length k2) (Value.slice E c.M.length k3) 25
  have HB := Lib.hid hB
  have HX := Lib.hid hX
  have HR := Lib.hid (h.q q0)
  have HZ := Lib.hid hz0
  have HW := Lib.hid hW0
  have Hf := Lib.hid hf
  obtain ⟨fv, fn, fm⟩ := hf
  obtain ⟨j0, hi, hz0', hz1, hz2⟩ := info_parts intInfo
  have Hi := Lib.hid hi
  have Hz1 := Lib.hid hz1
  clear hi hz0' hz1 hz2
  obtain ⟨j1, hi, hz0', hz1, hz2⟩ := info_parts noteInfo
  have Hi2 := Lib.hid hi
  have Hz2 := Lib.hid hz1
  clear hi hz0' hz1 hz2
  have hd : Hid ((decide (0 ≤ (a : Int)) && decide ((a : Int) < (c.V.length : Int))) = true) := by
    unfold Hid
    rw [decide_eq_true (show (0 : Int) ≤ (a : Int) by omega), decide_eq_true (show (a : Int) < (c.V.length : Int) by omega)]; rfl
  have Hga : Hid (c.V.getD a 0 = c.V[a]) := by unfold Hid; simp [ha]
  obtain ⟨ad, rfl, _, _⟩ := h.v.int_at ha
  clear h hB hX hz0 hW0
  go_enter Try.func29, Try.ntmps29
  go_upto_region 1 with fail
  rw [← HW.out]
  have c0 := HB.out.c0
  have c1 := HB.out.c1
  have c2 := HB.out.c2
  clear HW
  go_upto_region 2 with (go_at_call 37; refine (copyOf_any c _ _ _ _ _ _ _ _ _ _ rfl rfl rfl HR.out Hf.out).mono ?_; rintro e w1 ⟨g1, g2, g3, rfl, hC⟩; have HC := Lib.hid hC; clear hC)
  clear c0 c1 c2
  obtain ⟨hS, hO⟩ := st_start q0 HZ.out HB.out HX.out HC.out (.slice (some ⟨g1, 0, none⟩) c.V.length (c.V.length + 1)) (.slice (some ⟨g2, 0, none⟩) c.N.length (c.N.length + 1)) (.slice (some ⟨g3, 0, none⟩) c.M.length (c.M.length + 1)) 25
  have HRr := Lib.hid (((HR.out.q HC.out.q).q ((Q.refl w1).alloc (.cells #[(.slice (some ⟨g1, 0, none⟩) c.V.length (c.V.length + 1)), (.slice (some ⟨g2, 0, none⟩) c.N.length (c.N.length + 1)), (.slice (some ⟨g3, 0, none⟩) c.M.length (c.M.length + 1))] 25))))
  generalize w1.alloc (.cells #[(.slice (some ⟨g1, 0, none⟩) c.V.length (c.V.length + 1)), (.slice (some ⟨g2, 0, none⟩) c.N.length (c.N.length + 1)), (.slice (some ⟨g3, 0, none⟩) c.M.length (c.M.length + 1))] 25) = W1 at *
  generalize w1.heap.size = B at *
  have HO := Lib.hid hO
  have HS := Lib.hid hS
  have i0 := hS.ib.c0
  have i1 := hS.ib.c1
  have i2 := hS.ib.c2
  clear hO hS
  have t0 := HS.out.tb.c0
  have tf0 := HS.out.tb.f0
  have t1 := HS.out.tb.c1
  have tf1 := HS.out.tb.f1
  have t2 := HS.out.tb.c2
  have tf2 := HS.out.tb.f2
  have l1 := HO.out.lo
  have l2 := HO.out.d12
  have l3 := HO.out.d23
  have l4 := HO.out.d3B
  have ca := HRr.out.v.int_some ha
  go_wp2_with (refine (place_any _ _ _).mono ?_; rintro e w2 ⟨rfl, rfl⟩; rw [hd.out])
  have qa := (Q.refl W1).alloc (.cells #[.int .i64 (a : Int), .int .i64 c.V[a]] 64)
  have HSa := Lib.hid (HS.out.more qa)
  have HOa := Lib.hid (HO.out.more qa)
  have Hs := Lib.hid (src2 W1 (.int .i64 (a : Int)) (.int .i64 c.V[a]) 64)
  clear qa
  have hBW := HS.out.tb.lt
  have hwW := HS.out.ib.lt
  go_region_law (refine step_append_fits rfl (.tmp 19) (.tmp 27) _ rfl (w.heap.size + 2) 64 j1 2 Try.underlying23 Hi2.out Hz2.out g2 c.N.length (c.N.length + 1) (cellsP c.N) rfl HOa.out.n ⟨W1.heap.size, 0, none⟩ 1 1 [.int .i64 (a : Int), .int .i64 c.V[a]] rfl rfl Hs.out (by simp [Value.oneCell']) (by omega) ?_; intro w2 own2 hgr0; have hgr : World.grownBy (W1.alloc (.cells #[.int .i64 (a : Int), .int .i64 c.V[a]] 64)) w2 (some g2) := ⟨hgr0.os, hgr0.tape, hgr0.output, hgr0.size, hgr0.block⟩; clear hgr0; have hS2 := HSa.out.grown hgr (by omega) (by omega); have HG2 := Lib.hid hgr; have Own2 := Lib.hid own2; have HS2 := Lib.hid hS2; have y0 := hS2.tb.c0; have y1 := hS2.tb.c1; have y2 := hS2.tb.c2; have yf := hS2.tb.f1; clear hS2 own2 hgr)
  all_goals
    clear y0 y1 y2 yf t0 t1 t2 tf0 tf1 tf2
    have HS3 := Lib.hid (HS2.out.set1 (.slice (some ⟨g2, 0, none⟩) (c.N.length + 1) (c.N.length + 1)))
    have HV3 := Lib.hid (row_far (row_far HOa.out.v HG2.out (by omega)) (setCell_grown w2 B 1 (.slice (some ⟨g2, 0, none⟩) (c.N.length + 1) (c.N.length + 1))) (by omega))
    have HM3 := Lib.hid (row_far (row_far HOa.out.m HG2.out (by omega)) (setCell_grown w2 B 1 (.slice (some ⟨g2, 0, none⟩) (c.N.length + 1) (c.N.length + 1))) (by omega))
    have HN3 := Lib.hid (row_far Own2.out (setCell_grown w2 B 1 (.slice (some ⟨g2, 0, none⟩) (c.N.length + 1) (c.N.length + 1))) (by omega))
    clear HS2 HG2 Own2
    generalize w2.setCell ⟨B, 1, none⟩ (.slice (some ⟨g2, 0, none⟩) (c.N.length + 1) (c.N.length + 1)) = W3 at *
    have HC3 := (OwnC.of_row HV3.out)
    have oc := (HC3.2 a _ (cellsI_at ha)).1
    have of := (HC3.2 a _ (cellsI_at ha)).2
    have HO4 : Hid (OwnC (W3.setCell ⟨g1, a, none⟩ (.int .i64 x)) g1 (cellsI (c.V.set a x))) := by have := HC3.set (s := a) (by rw [cellsI_len]; exact ha) (.int .i64 x); rw [← cellsI_set] at this; exact this
    clear HC3
    have HS4 := Lib.hid (HS3.out.grown (setCell_grown W3 g1 a (.int .i64 x)) (by omega) (by omega))
    have HN4 := Lib.hid ((OwnC.of_row HN3.out).far (b := g1) (i := a) (by omega) (.int .i64 x))
    have HM4 := Lib.hid ((OwnC.of_row HM3.out).far (b := g1) (i := a) (by omega) (.int .i64 x))
    have t0 := HS3.out.tb.c0
    have tf0 := HS3.out.tb.f0
    have t1 := HS3.out.tb.c1
    have tf1 := HS3.out.tb.f1
    have t2 := HS3.out.tb.c2
    have tf2 := HS3.out.tb.f2
    have y0 := HS4.out.tb.c0
    have yg0 := HS4.out.tb.f0
    have y1 := HS4.out.tb.c1
    have yg1 := HS4.out.tb.f1
    have y2 := HS4.out.tb.c2
    have yg2 := HS4.out.tb.f2
    have r0 := HS4.out.rb.c0
    have r1 := HS4.out.rb.c1
    have r2 := HS4.out.rb.c2
    have f0 := HS4.out.rb.f0
    have f1 := HS4.out.rb.f1
    have f2 := HS4.out.rb.f2
    have bz := HS4.out.rb.all (.slice (some ⟨g1, 0, none⟩) c.V.length (c.V.length + 1)) (.slice (some ⟨g2, 0, none⟩) (c.N.length + 1) (c.N.length + 1)) (.slice (some ⟨g3, 0, none⟩) c.M.length (c.M.length + 1))
    have v0 := bz.c0
    have v1 := bz.c1
    have v2 := bz.c2
    clear bz
    go_wp2_with fail
    have O4 : Out w (W3.setCell ⟨g1, a, none⟩ (.int .i64 x)) (setC c a x) g1 (c.V.length + 1) g2 (c.N.length + 1) g3 (c.M.length + 1) :=
      ⟨HO4.out, by have := HN4.out; rwa [← show cellsP (setC c a x).N = cellsP c.N ++ [Value.int .i64 (a : Int), Value.int .i64 c.V[a]] by show cellsP (c.N ++ [((a : Int), c.V.getD a 0)]) = _; rw [cellsP_append, Hga.out]; rfl] at this, HM4.out, by simp [setC], by simp [setC], Nat.le_succ _, by omega, by omega, by omega, by omega, by omega, by omega, HS4.out.q⟩
    refine bodyPost_ret (v := .tuple #[.agg #[.slice (some ⟨g1, 0, none⟩) c.V.length (c.V.length + 1), .slice (some ⟨g2, 0, none⟩) (c.N.length + 1) (c.N.length + 1), .slice (some ⟨g3, 0, none⟩) c.M.length (c.M.length + 1)], .int .i64 0]) (by simp [results, Try.f29, go_sem, v0, v1, v2]) rfl ⟨g1, c.V.length + 1, g2, c.N.length + 1, g3, c.M.length + 1, by simp [setC], ?_⟩
    exact out_end O4 (by omega) (by omega) (by omega) _ _ _
end Go.Proofs.Ytodmompfnlcjpaa.Tr
