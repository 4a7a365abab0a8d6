/-
  Contract of Back, of cells that can be taken back.
-/
import Derived.Test.YtodmompfnlcjpaaTrailF
namespace Go.Proofs.Ytodmompfnlcjpaa.Tr
open Go.RowKit Kit

set_option maxRecDepth 100000 in
set_option maxHeartbeats 2000000 in
theorem back_some (c : Cells) (m : Nat) (V' : List Int) (A D E : Option Addr) (n1 k1 n2 k2 n3 k3 : Nat) (w : World) (h1 : n1 = c.V.length) (h2 : n2 = c.N.length) (h3 : n3 = c.M.length) (h : Rd w c A k1 D k2 E k3) (hf : Few c 1000000) (hM : c.M[c.M.length - 1]? = some (m : Int)) (hm : m ≤ c.N.length) (hV : backR (c.N.drop m).reverse c.V = some V') :
    Calls Try.prog 20 #[.agg #[.slice A n1 k1, .slice D n2 k2, .slice E n3 k3]] w (OutPostE (backC c m V') 0 w) := by
  subst h1 h2 h3
  have hM0 : 0 < c.M.length := by
    rcases Nat.eq_zero_or_pos c.M.length with e | e
    · rw [List.eq_nil_of_length_eq_zero e] at hM; cases hM
    · exact e
  obtain ⟨adE, rfl, _, hcE⟩ := h.m (by rw [cellsI_len]; exact hM0)
  obtain ⟨W0, hW0, q0, hz0, hB, hX⟩ := boxes w (Value.slice A c.V.length k1) (Value.slice D c.N.length k2) (Value.slice (some adE) c.M.length k3) 25
  have HB := Lib.hid hB
  have HX := Lib.hid hX
  have HR := Lib.hid (h.q q0)
  have HRw := Lib.hid h.n
  have HZ := Lib.hid hz0
  have HW := Lib.hid hW0
  have Hf := Lib.hid hf
  have HVb := Lib.hid hV
  have HM := Lib.hid hM
  have Hln := Lib.hid h.ln
  obtain ⟨fv, fn, fm⟩ := hf
  have hkl : (keepC c).M.length = c.M.length - 1 := by simp [keepC]
  have Hkl := Lib.hid hkl
  clear h hB hX hz0 hW0 hV hcE hM hkl
  go_enter Try.func20, Try.ntmps20
  go_upto_region 1 with fail
  rw [← HW.out]
  have c0 := HB.out.c0
  have c1 := HB.out.c1
  have c2 := HB.out.c2
  clear HW
  go_upto_region 2 with (go_at_call 38; refine (keep_some c _ _ _ _ _ _ _ _ _ _ rfl rfl rfl HR.out Hf.out hM0).mono ?_; rintro e w1 ⟨g1, k1', g2, k2', g3, k3', rfl, hC⟩; have HC := Lib.hid hC; clear hC)
  clear c0 c1 c2
  obtain ⟨hS, hO, ⟨hb1, hb2, hb3⟩, hl1, hl2, hl3⟩ := st_keep q0 HZ.out HB.out HX.out HC.out (.slice (some ⟨g1, 0, none⟩) (keepC c).V.length k1') (.slice (some ⟨g2, 0, none⟩) (keepC c).N.length k2') (.slice (some ⟨g3, 0, none⟩) (keepC c).M.length k3') 25
  have HRn := Lib.hid (HRw.out.keep ((q0.trans HC.out.q).trans ((Q.refl w1).alloc (.cells #[.slice (some ⟨g1, 0, none⟩) (keepC c).V.length k1', .slice (some ⟨g2, 0, none⟩) (keepC c).N.length k2', .slice (some ⟨g3, 0, none⟩) (keepC c).M.length k3'] 25))))
  have HRm := Lib.hid ((HR.out.q HC.out.q).q ((Q.refl w1).alloc (.cells #[.slice (some ⟨g1, 0, none⟩) (keepC c).V.length k1', .slice (some ⟨g2, 0, none⟩) (keepC c).N.length k2', .slice (some ⟨g3, 0, none⟩) (keepC c).M.length k3'] 25))).m
  generalize w1.alloc (.cells #[.slice (some ⟨g1, 0, none⟩) (keepC c).V.length k1', .slice (some ⟨g2, 0, none⟩) (keepC c).N.length k2', .slice (some ⟨g3, 0, none⟩) (keepC c).M.length k3'] 25) = W1 at *
  generalize w1.heap.size = B at *
  have HO := Lib.hid hO
  have HS := Lib.hid hS
  have i0 := hS.ib.c0
  have i1 := hS.ib.c1
  have i2 := hS.ib.c2
  have t0 := hS.tb.c0
  have t1 := hS.tb.c1
  have t2 := hS.tb.c2
  have ce : W1.cell? (adE.add (c.M.length - 1)) = some (.int .i64 (m : Int)) := by
    obtain ⟨ad', e, _, hc⟩ := HRm.out (by rw [cellsI_len]; exact hM0)
    injection e with e
    subst e
    exact hc _ _ (by rw [cellsI, List.getElem?_map, HM.out]; rfl)
  have hti : ((c.M.length : Int) - 1).toNat = c.M.length - 1 := by omega
  have hi0 : (0 : Int) ≤ (c.M.length : Int) - 1 := by omega
  have hi1 : (c.M.length : Int) - 1 < (c.M.length : Int) := by omega
  have d1 : decide ((m : Int) < 0) = false := decide_eq_false (by omega)
  have d2 : decide ((c.N.length : Int) < (m : Int)) = false := decide_eq_false (by omega)
  clear hO hS
  go_wp2_with fail
  clear ce hti hi0 hi1
  have hsl := fun u => slice_fromP D c.N.length k2 m hm u
  have hm0 : (0 : Int) ≤ (m : Int) := Int.natCast_nonneg _
  have HT : Hid (Calls Try.prog 39 #[.slice (cutP D k2 m) (c.N.length - m) (k2 - m), .slice (some ⟨g1, 0, none⟩) (keepC c).V.length k1', .func (.func 40) #[] #[]] W1.drew (RestPost g1 k1' V' W1.drew)) :=
    takeV_any (c.N.drop m) c.V V' (cutP D k2 m) _ _ g1 k1' w.heap.size W1.drew (by rw [List.length_drop]) (HRn.out.cut k2 m Hln.out) (by omega) HO.out.v HO.out.lv fv (by rw [List.length_drop]; omega) HVb.out
  go_region_held3 (fun w' => w'.cell? ⟨w.heap.size, 1, none⟩ = some (.slice D c.N.length k2) ∧ w'.cell? ⟨B, 0, none⟩ = some (.slice (some ⟨g1, 0, none⟩) (keepC c).V.length k1'))
    (first
      | go_keep
      | exact ⟨HS2.out.ib.c1, HS2.out.tb.c0⟩)
    (first | (go_at_call 39; (with_reducible refine HT.out.mono ?_); rintro e w2 ⟨rfl, hO2, hG2⟩; have HO2 := Lib.hid hO2; have HG2 : Hid (W1.grownBy w2 (some g1)) := ⟨hG2.os, hG2.tape, hG2.output, hG2.size, hG2.block⟩; clear hO2 hG2; have HS2 := Lib.hid (HS.out.grown HG2.out hl1 (by omega))))
  rename_i hkp
  clear hkp t0 t1 t2 i0 i1 i2 hsl d1 d2
  have t0 := HS2.out.tb.c0
  have t1 := HS2.out.tb.c1
  have t2 := HS2.out.tb.c2
  have tf0 := HS2.out.tb.f0
  have tf1 := HS2.out.tb.f1
  have hln : (keepC c).N.length ≤ k2' := HC.out.ln
  have hln' : m ≤ k2' := Nat.le_trans hm hln
  have hmk := hln'
  have hsl := fun u => slice_toP (some ⟨g2, 0, none⟩) (keepC c).N.length k2' m (m : Int) rfl hln' u
  clear hln
  go_wp2_with fail
  go_region
  clear t0 t1 t2 tf0 tf1 hsl
  have HS3 := Lib.hid ((HS2.out.set0 (.slice (some ⟨g1, 0, none⟩) V'.length k1')).set1 (.slice (some ⟨g2, 0, none⟩) m k2'))
  have hgr := grown_trans (setCell_grown w2 B 0 (.slice (some ⟨g1, 0, none⟩) V'.length k1')) (setCell_grown (w2.setCell ⟨B, 0, none⟩ (.slice (some ⟨g1, 0, none⟩) V'.length k1')) B 1 (.slice (some ⟨g2, 0, none⟩) m k2'))
  have HV3 := Lib.hid (HO2.out.grown hgr (by intro e; injection e with e; omega))
  have HN3 := Lib.hid (((HO.out.n.grown HG2.out (by intro e; injection e with e; exact HC.out.d12 e)).grown hgr (by intro e; injection e with e; omega)).take (m * 2))
  have HM3 := Lib.hid ((HO.out.m.grown HG2.out (by intro e; injection e with e; exact HC.out.d13 e)).grown hgr (by intro e; injection e with e; omega))
  have HL := Lib.hid (⟨HC.out.lm, HC.out.lv, HC.out.d12, HC.out.d13, HC.out.d23⟩ : (keepC c).M.length ≤ k3' ∧ c.V.length ≤ k1' ∧ g1 ≠ g2 ∧ g1 ≠ g3 ∧ g2 ≠ g3)
  have Hvl : Hid (V'.length ≤ c.V.length) := backR_len HVb.out
  have Hml : Hid ((c.N.take m).length = m) := by unfold Hid; rw [List.length_take]; omega
  clear hgr HO HG2 HO2 HS2 HC HT hln'
  generalize (w2.setCell ⟨B, 0, none⟩ (.slice (some ⟨g1, 0, none⟩) V'.length k1')).setCell ⟨B, 1, none⟩ (.slice (some ⟨g2, 0, none⟩) m k2') = W3 at *
  have t0 := HS3.out.tb.c0
  have t1 := HS3.out.tb.c1
  have t2 := HS3.out.tb.c2
  have r0 := HS3.out.rb.c0
  have r1 := HS3.out.rb.c1
  have r2 := HS3.out.rb.c2
  have f0 := HS3.out.rb.f0
  have f1 := HS3.out.rb.f1
  have f2 := HS3.out.rb.f2
  have bz := HS3.out.rb.all (.slice (some ⟨g1, 0, none⟩) V'.length k1') (.slice (some ⟨g2, 0, none⟩) m k2') (.slice (some ⟨g3, 0, none⟩) (keepC c).M.length k3')
  have v0 := bz.c0
  have v1 := bz.c1
  have v2 := bz.c2
  clear bz
  go_wp2_with fail
  obtain ⟨e1, e2, e3, e4, e5⟩ := HL.out
  have hvl := Hvl.out
  have O3 : Out w W3 (backC c m V') g1 k1' g2 k2' g3 k3' :=
    ⟨HV3.out, by have := HN3.out; rw [cellsP_take] at this; exact this, HM3.out, by show V'.length ≤ _; omega, by show (c.N.take m).length ≤ _; rw [Hml.out]; exact hmk, e1, by omega, by omega, by omega, e3, e4, e5, HS3.out.q⟩
  refine bodyPost_ret (v := .tuple #[.agg #[.slice (some ⟨g1, 0, none⟩) V'.length k1', .slice (some ⟨g2, 0, none⟩) m k2', .slice (some ⟨g3, 0, none⟩) (keepC c).M.length k3'], .int .i64 0]) (by simp [results, Try.f20, go_sem, v0, v1, v2]) rfl ⟨g1, k1', g2, k2', g3, k3', by show _ = Ending.returned (.tuple #[.agg #[.slice (some ⟨g1, 0, none⟩) V'.length k1', .slice (some ⟨g2, 0, none⟩) (c.N.take m).length k2', .slice (some ⟨g3, 0, none⟩) (keepC c).M.length k3'], .int .i64 0]); rw [Hml.out], ?_⟩
  have O4 := out_end O3 hl1 hl2 hl3 (.slice (some ⟨g1, 0, none⟩) V'.length k1') (.slice (some ⟨g2, 0, none⟩) m k2') (.slice (some ⟨g3, 0, none⟩) (keepC c).M.length k3')
  exact ⟨O4.v, O4.n, O4.m, O4.lv, O4.ln, O4.lm, O4.o1, O4.o2, O4.o3, O4.d12, O4.d13, O4.d23, ⟨O4.q.os, O4.q.tape, O4.q.output, O4.q.size, O4.q.block⟩⟩
end Go.Proofs.Ytodmompfnlcjpaa.Tr
