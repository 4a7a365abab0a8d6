/-
  What the proofs lean on, part 6 of 11.
-/
import Derived.Test.YtjehccemilefgaaPa
import Derived.Test.YtjehccemilefgaaPc
import Derived.Test.YtjehccemilefgaaPe
import Derived.Deep.RegionHeld3
namespace Go.Proofs.Ytjehccemilefgaa.St
open Go.RowKit Kit Rw
open Go.Proofs.Ytjehccemilefgaa.Sg (Sig Row)
open Go.Proofs.Ytjehccemilefgaa.Hs (Ints)
open Go.Proofs.Ytjehccemilefgaa.Tm (Tm Box4)
def WayPost (wy : Int × List PI) (w : World) (e : Ending) (w' : World) : Prop := ∃ A c, e = .returned (.agg #[.int .i64 wy.1, .slice A wy.2.length c]) ∧ Rds w' w'.heap.size A (cellsQ wy.2) ∧ Q w w' ∧ ∀ ad, A = some ad → w.heap.size ≤ ad.block
theorem own_slice10 {w : World} {base : Nat} {e : TypeId} {size : Nat} {v : Value} {n : Nat} {xs : List Value} (h : w.ownsRow base e size v n xs) (hn : 0 < n) : ∃ g cap, v = .slice (some ⟨g, 0, none⟩) n cap := by
  obtain ⟨_, ⟨_, h0⟩ | ⟨g, cap, cur, e, _⟩⟩ := h
  · omega
  · exact ⟨g, cap, e⟩
/-- the answer laid into its box -/
theorem way_set {w : World} {B : Nat} {c0 c1 : Value} (h : OwnC w B [c0, c1]) (u v : Value) :
    ((w.setCell ⟨B, 0, none⟩ u).setCell ⟨B, 1, none⟩ v).cell? ⟨B, 0, none⟩ = some u ∧ ((w.setCell ⟨B, 0, none⟩ u).setCell ⟨B, 1, none⟩ v).cell? ⟨B, 1, none⟩ = some v := by
  have h2 := (h.set (s := 0) (by simp) u).set (s := 1) (by simp) v
  exact ⟨(h2.2 0 _ rfl).1, (h2.2 1 _ rfl).1⟩
theorem way_size (w : World) (B : Nat) (u v : Value) : ((w.setCell ⟨B, 0, none⟩ u).setCell ⟨B, 1, none⟩ v).heap.size = w.heap.size := by simp [World.setCell]
theorem way_rds {w : World} {B g : Nat} {A : Option Addr} {cs : List Value} (h : Rds w g A cs) (u v : Value) (hB : ∀ ad, A = some ad → ad.block ≠ B) : Rds ((w.setCell ⟨B, 0, none⟩ u).setCell ⟨B, 1, none⟩ v) g A cs := fun h0 => by
  obtain ⟨ad, e, hlt, hc⟩ := h h0
  refine ⟨ad, e, hlt, fun j x hx => ?_⟩
  have hb : ((ad.add j).block) ≠ B := by rw [add_block]; exact hB ad e
  rw [World.cell?_setCell_far _ _ _ _ (fun e => hb e.symm), World.cell?_setCell_far _ _ _ _ (fun e => hb e.symm)]
  exact hc j x hx
theorem way_close {w w8 : World} {B : Nat} {c0 c1 : Value} {A : Option Addr} {l : List PI} (u v : Value) (hB : OwnC w8 B [c0, c1]) (hBw : w.heap.size ≤ B) (hq : Q w w8) (hr : Rds w8 w8.heap.size A (cellsQ l)) (hne : 0 < l.length → ∀ ad, A = some ad → ad.block ≠ B) :
    (((w8.setCell ⟨B, 0, none⟩ u).setCell ⟨B, 1, none⟩ v).cell? ⟨B, 0, none⟩ = some u ∧ ((w8.setCell ⟨B, 0, none⟩ u).setCell ⟨B, 1, none⟩ v).cell? ⟨B, 1, none⟩ = some v) ∧
      Rds ((w8.setCell ⟨B, 0, none⟩ u).setCell ⟨B, 1, none⟩ v) ((w8.setCell ⟨B, 0, none⟩ u).setCell ⟨B, 1, none⟩ v).heap.size A (cellsQ l) ∧ Q w ((w8.setCell ⟨B, 0, none⟩ u).setCell ⟨B, 1, none⟩ v) := by
  refine ⟨way_set hB u v, ?_, (hq.setCell (p := ⟨B, 0, none⟩) hBw u).setCell (p := ⟨B, 1, none⟩) hBw v⟩
  rw [way_size]
  intro h0
  have hl : 0 < l.length := by rw [cellsQ_len] at h0; omega
  exact way_rds hr u v (hne hl) h0
set_option maxRecDepth 100000 in
set_option maxHeartbeats 4000000 in
theorem refProj10_any (R E1 E2 : Option Addr) (nl cl n1 c1 n2 c2 : Nat) (L : List Sig) (s t : Tm) (a b : Nat) (w : World) (hnl : nl = L.length) (hr : Row w w.heap.size R L) (hs : TOk L a s) (ht : TOk L b t) (h6 : t.k = 6)
    (hn1 : n1 = s.xs.length) (hE1 : Ints w w.heap.size E1 s.xs) (hn2 : n2 = t.xs.length) (hE2 : Ints w w.heap.size E2 t.xs) :
    Calls Try.prog 29 #[.slice R nl cl, .agg #[.int .i64 s.k, .int .i64 s.s, .int .i64 s.p, .slice E1 n1 c1], .agg #[.int .i64 t.k, .int .i64 t.s, .int .i64 t.p, .slice E2 n2 c2]] w (WayPost (projF L s t) w) := by
  subst hnl hn1 hn2
  obtain ⟨i0, hi, hz0, hz1, hz2⟩ := info_parts pairInfo
  have Hi := Lib.hid hi
  have Hz0 := Lib.hid hz0
  have Hz1 := Lib.hid hz1
  have Hz2 := Lib.hid hz2
  clear hi hz0 hz1 hz2
  obtain ⟨j, m, hj, e, hts, htp, hm, htx⟩ : ∃ (j m : Nat) (hj : j < L.length) (e : Int), t.s = (j : Int) ∧ t.p = (m : Int) ∧ m < L[j].2.size ∧ t.xs = [e] := by
    cases ht with
    | leaf _ hh => omega
    | con => omega
    | two _ _ hh => omega
    | proj j m hj e _ e1 e2 e3 he _ => exact ⟨j, m, hj, e, e1, e2, e3, he⟩
  have hv : varyN L t.s t.p.toNat = L[j].2[m] := by rw [hts, htp, Int.toNat_natCast]; exact varyN_at hj hm
  have HF : Hid (projF L s t = if s.k = 1 then (1, (if L[j].2[m] ≠ 45 then [(1, e)] else []) ++ (if L[j].2[m] ≠ 43 then [(e, 0)] else [])) else if s.k = 3 ∧ s.s = t.s then (1, pairsF (s.xs[m]?.getD 0) e L[j].2[m]) else (0, [])) := by
    unfold Hid projF
    rw [hv, htx, htp, Int.toNat_natCast]; rfl
  have l2 : t.xs.length = 1 := by rw [htx]; rfl
  rw [h6, hts, htp, l2]
  rw [htx] at hE2
  have HTS := Lib.hid hts
  clear l2 h6 htp htx ht hts
  have q0 := (((Q.refl w).alloc (Obj.cells #[.int .i64 s.k, .int .i64 s.s, .int .i64 s.p, .slice E1 s.xs.length c1] 60)).alloc (Obj.cells #[.int .i64 6, .int .i64 (j : Int), .int .i64 (m : Int), .slice E2 1 c2] 60)).alloc (Obj.cells #[.int .i64 0, .slice none 0 0] 33)
  have h1 := ((Box4.new w (.int .i64 s.k) (.int .i64 s.s) (.int .i64 s.p) (.slice E1 s.xs.length c1) 60).q ((Q.refl _).alloc (Obj.cells #[.int .i64 6, .int .i64 (j : Int), .int .i64 (m : Int), .slice E2 1 c2] 60))).q ((Q.refl _).alloc (Obj.cells #[.int .i64 0, .slice none 0 0] 33))
  have h2 := (Box4.new (w.alloc (Obj.cells #[.int .i64 s.k, .int .i64 s.s, .int .i64 s.p, .slice E1 s.xs.length c1] 60)) (.int .i64 6) (.int .i64 (j : Int)) (.int .i64 (m : Int)) (.slice E2 1 c2) 60).q ((Q.refl _).alloc (Obj.cells #[.int .i64 0, .slice none 0 0] 33))
  have h3 := Ex.own_new8 ((w.alloc (Obj.cells #[.int .i64 s.k, .int .i64 s.s, .int .i64 s.p, .slice E1 s.xs.length c1] 60)).alloc (Obj.cells #[.int .i64 6, .int .i64 (j : Int), .int .i64 (m : Int), .slice E2 1 c2] 60)) [.int .i64 0, .slice none 0 0] 33
  rw [show (w.alloc (Obj.cells #[.int .i64 s.k, .int .i64 s.s, .int .i64 s.p, .slice E1 s.xs.length c1] 60)).heap.size = w.heap.size + 1 by simp] at h2
  rw [show ((w.alloc (Obj.cells #[.int .i64 s.k, .int .i64 s.s, .int .i64 s.p, .slice E1 s.xs.length c1] 60)).alloc (Obj.cells #[.int .i64 6, .int .i64 (j : Int), .int .i64 (m : Int), .slice E2 1 c2] 60)).heap.size = w.heap.size + 1 + 1 by simp] at h3
  have HB1 := Lib.hid h1
  have HB2 := Lib.hid h2
  have HR0 := Lib.hid h3
  have HQ0 := Lib.hid q0
  have hr0 := (hr.q (Nat.le_refl _) q0).more q0.size
  have HE1 := Lib.hid ((hE1.q (Nat.le_refl _) q0).more q0.size)
  have HE2 := Lib.hid ((hE2.q (Nat.le_refl _) q0).more q0.size)
  obtain ⟨ad, rfl, hadb, _, a1⟩ := hr0.at_ hj
  have t1 := h2.c1
  have t2 := h2.c2
  have jl : (j : Int) < (L.length : Int) := by omega
  have jl0 : (0 : Int) ≤ (j : Int) := Int.natCast_nonneg _
  have ml0 : (0 : Int) ≤ (m : Int) := Int.natCast_nonneg _
  have ml1 : (m : Int) < (L[j].2.size : Int) := by omega
  have d00 : decide ((j : Int) < (L.length : Int)) = true := decide_eq_true jl
  clear h1 h2 h3 q0 hr hr0 hE1 hE2 hv
  go_enter Try.func29, Try.ntmps29
  go_wp2_with fail
  generalize (((w.alloc (Obj.cells #[.int .i64 s.k, .int .i64 s.s, .int .i64 s.p, .slice E1 s.xs.length c1] 60)).alloc (Obj.cells #[.int .i64 6, .int .i64 (j : Int), .int .i64 (m : Int), .slice E2 1 c2] 60)).alloc (Obj.cells #[.int .i64 0, .slice none 0 0] 33)) = W0 at *
  go_quiet (fail)
  have HQw := Lib.hid (HQ0.out.trans ((Q.refl W0).drewN nq))
  have HB1' := Lib.hid (HB1.out.q ((Q.refl W0).drewN nq))
  have HB2' := Lib.hid (HB2.out.q ((Q.refl W0).drewN nq))
  have HRs := Lib.hid (HR0.out.q ((Q.refl W0).drewN nq))
  have HE1' := Lib.hid ((HE1.out.q (Nat.le_refl _) ((Q.refl W0).drewN nq)).more ((Q.refl W0).drewN nq).size)
  have HE2' := Lib.hid ((HE2.out.q (Nat.le_refl _) ((Q.refl W0).drewN nq)).more ((Q.refl W0).drewN nq).size)
  clear HB1 HB2 HR0 HE1 HE2 a1 t1 t2 HQ0
  generalize W0.drewN nq = wq at *
  have s0 := HB1'.out.c0
  have s1 := HB1'.out.c1
  have s3 := HB1'.out.c3
  have t1 := HB2'.out.c1
  have t2 := HB2'.out.c2
  have t3 := HB2'.out.c3
  obtain ⟨ad2, rfl, hb2, e0⟩ := HE2'.out.at_ (k := 0) (by simp)
  rw [show ad2.add 0 = ad2 by simp [Addr.add]] at e0
  have e45 : ((L[j].2[m].toNat : Int) != 45) = decide (L[j].2[m] ≠ 45) := byte_ne L[j].2[m] 45 (by decide)
  have e43 : ((L[j].2[m].toNat : Int) != 43) = decide (L[j].2[m] ≠ 43) := byte_ne L[j].2[m] 43 (by decide)
  by_cases k1 : s.k = 1
  · have d1 : (s.k == 1) = true := beq_iff_eq.2 k1
    rw [if_pos k1] at HF
    clear k1 HE1' HE2' HB1' HB2' s1 s3
    by_cases h45 : L[j].2[m] = 45
    · have HFx : Hid (projF L s t = (1, [(e, 0)])) := by rw [HF.out, h45]; rfl
      replace e45 : ((L[j].2[m].toNat : Int) != 45) = false := by rw [h45]; rfl
      replace e43 : ((L[j].2[m].toNat : Int) != 43) = true := by rw [h45]; rfl
      clear HF h45
      have HQa := Lib.hid ((Q.refl wq).alloc (Obj.cells #[.int .i64 e, .int .i64 0] 46))
      have HOa := Lib.hid (own_nil (wq.alloc (Obj.cells #[.int .i64 e, .int .i64 0] 46)) wq.heap.size 46 2)
      have HSa := Lib.hid (src_alloc wq [.int .i64 e, .int .i64 0] 46 (0, 0))
      go_wp2_with (first
        | (at_builtin; refine wpList_append_src _ rfl (.tmp 35) (.tmp 38) _ rfl wq.heap.size 46 i0 _ 2 16 Try.underlying31 Hi.out Hz0.out Hz1.out Hz2.out rfl (by omega) (.slice none 0 0) 0 [] rfl HOa.out _ 1 1 [.int .i64 e, .int .i64 0] rfl rfl HSa.out (by simp [Value.oneCell']) (by unfold maxLen; omega) (by omega) HQa.out.size ?_; intro va wa owna gra _; have Qa : Hid (Q wq wa) := Below.grown HQa.out gra HQa.out.size (fun k e => ((HOa.out).lt k e).1); have Oz := Lib.hid owna; have Qz := Lib.hid Qa.out; obtain ⟨g', cap', rfl⟩ := own_slice10 owna (by omega); clear owna gra)
        | (go_at_call 28; refine (parts10_any _ _ _ _).mono ?_; rintro e w8 ⟨rfl, q8⟩; have Q8 : Hid (Q wq w8) := Qz.out.trans q8; have hrz : Rds w8 w8.heap.size (some ⟨g', 0, none⟩) (cellsQ [(e, 0)]) := (OwnC.of_row Oz.out).rds.q q8; have hgz := (Oz.out.lt g' rfl).1; have r0 := ((HRs.out.q Q8.out).2 0 _ rfl); have r1 := ((HRs.out.q Q8.out).2 1 _ rfl); obtain ⟨r00, r01⟩ := r0; obtain ⟨r10, r11⟩ := r1))
      obtain ⟨⟨y0, y1⟩, hrd, hqw⟩ := way_close (w := w) (l := [(e, 0)]) (.int .i64 1) (.slice (some ⟨g', 0, none⟩) (0 + 1) cap') (HRs.out.q Q8.out) (by omega) (HQw.out.trans Q8.out) hrz (fun _ ad ha => by injection ha with ha; subst ha; exact Nat.ne_of_gt (Nat.lt_of_lt_of_le HRs.out.1 hgz))
      exact bodyPost_ret (v := .agg #[.int .i64 1, .slice (some ⟨g', 0, none⟩) (0 + 1) cap']) (by simp [results, Try.f29, go_sem, y0, y1]) rfl ⟨_, _, by rw [HFx.out]; rfl, by rw [HFx.out]; exact hrd, hqw, fun ad ha => by injection ha with ha; subst ha; exact Nat.le_trans HQw.out.size hgz⟩
    · by_cases h43 : L[j].2[m] = 43
      · have HFx : Hid (projF L s t = (1, [(1, e)])) := by rw [HF.out, h43]; rfl
        replace e45 : ((L[j].2[m].toNat : Int) != 45) = true := by rw [h43]; rfl
        replace e43 : ((L[j].2[m].toNat : Int) != 43) = false := by rw [h43]; rfl
        clear HF h43 h45
        have HQa := Lib.hid ((Q.refl wq).alloc (Obj.cells #[.int .i64 1, .int .i64 e] 46))
        have HOa := Lib.hid (own_nil (wq.alloc (Obj.cells #[.int .i64 1, .int .i64 e] 46)) wq.heap.size 46 2)
        have HSa := Lib.hid (src_alloc wq [.int .i64 1, .int .i64 e] 46 (0, 0))
        go_wp2_with (first
          | (at_builtin; refine wpList_append_src _ rfl (.tmp 28) (.tmp 31) _ rfl wq.heap.size 46 i0 _ 2 16 Try.underlying31 Hi.out Hz0.out Hz1.out Hz2.out rfl (by omega) (.slice none 0 0) 0 [] rfl HOa.out _ 1 1 [.int .i64 1, .int .i64 e] rfl rfl HSa.out (by simp [Value.oneCell']) (by unfold maxLen; omega) (by omega) HQa.out.size ?_; intro va wa owna gra _; have Qa : Hid (Q wq wa) := Below.grown HQa.out gra HQa.out.size (fun k e => ((HOa.out).lt k e).1); have Oz := Lib.hid owna; have Qz := Lib.hid Qa.out; obtain ⟨g', cap', rfl⟩ := own_slice10 owna (by omega); clear owna gra)
          | (go_at_call 28; refine (parts10_any _ _ _ _).mono ?_; rintro e w8 ⟨rfl, q8⟩; have Q8 : Hid (Q wq w8) := Qz.out.trans q8; have hrz : Rds w8 w8.heap.size (some ⟨g', 0, none⟩) (cellsQ [(1, e)]) := (OwnC.of_row Oz.out).rds.q q8; have hgz := (Oz.out.lt g' rfl).1; have r0 := ((HRs.out.q Q8.out).2 0 _ rfl); have r1 := ((HRs.out.q Q8.out).2 1 _ rfl); obtain ⟨r00, r01⟩ := r0; obtain ⟨r10, r11⟩ := r1))
        obtain ⟨⟨y0, y1⟩, hrd, hqw⟩ := way_close (w := w) (l := [(1, e)]) (.int .i64 1) (.slice (some ⟨g', 0, none⟩) (0 + 1) cap') (HRs.out.q Q8.out) (by omega) (HQw.out.trans Q8.out) hrz (fun _ ad ha => by injection ha with ha; subst ha; exact Nat.ne_of_gt (Nat.lt_of_lt_of_le HRs.out.1 hgz))
        exact bodyPost_ret (v := .agg #[.int .i64 1, .slice (some ⟨g', 0, none⟩) (0 + 1) cap']) (by simp [results, Try.f29, go_sem, y0, y1]) rfl ⟨_, _, by rw [HFx.out]; rfl, by rw [HFx.out]; exact hrd, hqw, fun ad ha => by injection ha with ha; subst ha; exact Nat.le_trans HQw.out.size hgz⟩
      · have HFx : Hid (projF L s t = (1, [(1, e), (e, 0)])) := by rw [HF.out, if_pos h45, if_pos h43]; rfl
        rw [decide_eq_true h45] at e45
        rw [decide_eq_true h43] at e43
        clear HF h43 h45
        have HQa := Lib.hid ((Q.refl wq).alloc (Obj.cells #[.int .i64 1, .int .i64 e] 46))
        have HOa := Lib.hid (own_nil (wq.alloc (Obj.cells #[.int .i64 1, .int .i64 e] 46)) wq.heap.size 46 2)
        have HSa := Lib.hid (src_alloc wq [.int .i64 1, .int .i64 e] 46 (0, 0))
        go_wp2_with (first
          | (at_builtin; refine wpList_append_src _ rfl (.tmp 28) (.tmp 31) _ rfl wq.heap.size 46 i0 _ 2 16 Try.underlying31 Hi.out Hz0.out Hz1.out Hz2.out rfl (by omega) (.slice none 0 0) 0 [] rfl HOa.out _ 1 1 [.int .i64 1, .int .i64 e] rfl rfl HSa.out (by simp [Value.oneCell']) (by unfold maxLen; omega) (by omega) HQa.out.size ?_; intro va wa owna gra _; have Qa : Hid (Q wq wa) := Below.grown HQa.out gra HQa.out.size (fun k e => ((HOa.out).lt k e).1); have HQb := Lib.hid (Qa.out.alloc (Obj.cells #[.int .i64 e, .int .i64 0] 46)); have HOb := Lib.hid (row_kept owna ((Q.refl wa).alloc (Obj.cells #[.int .i64 e, .int .i64 0] 46)) (Nat.le_refl _)); have HSb := Lib.hid (src_alloc wa [.int .i64 e, .int .i64 0] 46 (0, 0)); clear owna gra)
          | (at_builtin; refine wpList_append_src _ rfl (.tmp 35) (.tmp 38) _ rfl wq.heap.size 46 i0 _ 2 16 Try.underlying31 Hi.out Hz0.out Hz1.out Hz2.out rfl (by omega) va (0 + 1) ([] ++ [.int .i64 1, .int .i64 e]) rfl HOb.out _ 1 1 [.int .i64 e, .int .i64 0] rfl rfl HSb.out (by simp [Value.oneCell']) (by unfold maxLen; omega) (by omega) HQb.out.size ?_; intro vb wb ownb grb _; have Qb : Hid (Q wq wb) := Below.grown HQb.out grb HQb.out.size (fun k e => ((HOb.out).lt k e).1); have Oz := Lib.hid ownb; have Qz := Lib.hid Qb.out; obtain ⟨g', cap', rfl⟩ := own_slice10 ownb (by omega); clear ownb grb)
          | (go_at_call 28; refine (parts10_any _ _ _ _).mono ?_; rintro e w8 ⟨rfl, q8⟩; have Q8 : Hid (Q wq w8) := Qz.out.trans q8; have hrz : Rds w8 w8.heap.size (some ⟨g', 0, none⟩) (cellsQ [(1, e), (e, 0)]) := (OwnC.of_row Oz.out).rds.q q8; have hgz := (Oz.out.lt g' rfl).1; have r0 := ((HRs.out.q Q8.out).2 0 _ rfl); have r1 := ((HRs.out.q Q8.out).2 1 _ rfl); obtain ⟨r00, r01⟩ := r0; obtain ⟨r10, r11⟩ := r1))
        obtain ⟨⟨y0, y1⟩, hrd, hqw⟩ := way_close (w := w) (l := [(1, e), (e, 0)]) (.int .i64 1) (.slice (some ⟨g', 0, none⟩) (0 + 1 + 1) cap') (HRs.out.q Q8.out) (by omega) (HQw.out.trans Q8.out) hrz (fun _ ad ha => by injection ha with ha; subst ha; exact Nat.ne_of_gt (Nat.lt_of_lt_of_le HRs.out.1 hgz))
        exact bodyPost_ret (v := .agg #[.int .i64 1, .slice (some ⟨g', 0, none⟩) (0 + 1 + 1) cap']) (by simp [results, Try.f29, go_sem, y0, y1]) rfl ⟨_, _, by rw [HFx.out]; rfl, by rw [HFx.out]; exact hrd, hqw, fun ad ha => by injection ha with ha; subst ha; exact Nat.le_trans HQw.out.size hgz⟩
  · have d1 : (s.k == 1) = false := beq_eq_false_iff_ne.2 k1
    rw [if_neg k1] at HF
    by_cases k3 : s.k = 3
    · have d3 : (s.k == 3) = true := beq_iff_eq.2 k3
      by_cases hss : s.s = t.s
      · have d4 : (s.s == (j : Int)) = true := beq_iff_eq.2 (by rw [hss]; exact HTS.out)
        have hml : m < s.xs.length := by
          cases hs with
          | leaf _ hh => omega
          | con j' hj' _ g1 g2 =>
            have : j = j' := by have := HTS.out; omega
            subst this
            omega
          | two _ _ hh => omega
          | proj => omega
        have HFx : Hid (projF L s t = (1, pairsF s.xs[m] e L[j].2[m])) := by
          rw [HF.out, if_pos ⟨k3, hss⟩, List.getElem?_eq_getElem hml]; rfl
        obtain ⟨ad1, rfl, hb1, x0⟩ := HE1'.out.at_ hml
        have j2 : (m : Int) < (s.xs.length : Int) := by omega
        have CP := Lib.hid (refPairs_any wq.heap.size [] (.slice none 0 0) s.xs[m] e L[j].2[m] wq (own_nil wq _ _ _) (Nat.le_refl _) (by simp))
        have hpl : 0 < (pairsF s.xs[m] e L[j].2[m]).length := by
          unfold pairsF
          rw [List.length_append]
          by_cases hh : L[j].2[m] = 45
          · rw [if_neg (by simp [hh]), if_pos (by rw [hh]; decide)]; simp
          · rw [if_pos hh, List.length_singleton]; omega
        rw [List.nil_append] at CP
        clear HF k1 k3 hss HE1' HE2' HB1' HB2' e45 e43
        generalize pairsF s.xs[m] e L[j].2[m] = X at *
        generalize s.xs[m] = xm at *
        go_wp2_with fail
        refine CP.out.mono ?_
        rintro e' w5 ⟨v5, rfl, own5, b5⟩
        obtain ⟨g', cap', rfl⟩ := own_slice10 own5 hpl
        have Oz := Lib.hid own5
        have Qz : Hid (Q wq w5) := b5
        clear own5 b5 CP
        go_wp2_with fail
        refine (parts10_any _ _ _ _).mono ?_
        rintro e' w8 ⟨rfl, q8⟩
        have Q8 : Hid (Q wq w8) := Qz.out.trans q8
        have hrz : Rds w8 w8.heap.size (some ⟨g', 0, none⟩) (cellsQ X) := (OwnC.of_row Oz.out).rds.q q8
        have hgz := (Oz.out.lt g' rfl).1
        obtain ⟨r00, r01⟩ := ((HRs.out.q Q8.out).2 0 _ rfl)
        obtain ⟨r10, r11⟩ := ((HRs.out.q Q8.out).2 1 _ rfl)
        go_wp2_with fail
        obtain ⟨⟨y0, y1⟩, hrd, hqw⟩ := way_close (w := w) (l := X) (.int .i64 1) (.slice (some ⟨g', 0, none⟩) X.length cap') (HRs.out.q Q8.out) (by omega) (HQw.out.trans Q8.out) hrz (fun _ ad ha => by injection ha with ha; subst ha; exact Nat.ne_of_gt (Nat.lt_of_lt_of_le HRs.out.1 hgz))
        exact bodyPost_ret (v := .agg #[.int .i64 1, .slice (some ⟨g', 0, none⟩) X.length cap']) (by simp [results, Try.f29, go_sem, y0, y1]) rfl ⟨_, _, by rw [HFx.out], by rw [HFx.out]; exact hrd, hqw, fun ad ha => by injection ha with ha; subst ha; exact Nat.le_trans HQw.out.size hgz⟩
      · have d4 : (s.s == (j : Int)) = false := beq_eq_false_iff_ne.2 (by rw [← HTS.out]; exact hss)
        have HFx : Hid (projF L s t = (0, [])) := by rw [HF.out, if_neg (fun h => hss h.2)]; rfl
        obtain ⟨r00, r01⟩ := (HRs.out.2 0 _ rfl)
        obtain ⟨r10, r11⟩ := (HRs.out.2 1 _ rfl)
        clear HF k1 k3 hss HE1' HE2' HB1' HB2'
        go_wp2_with fail
        obtain ⟨⟨y0, y1⟩, hrd, hqw⟩ := way_close (w := w) (A := none) (l := []) (.int .i64 0) (.slice none 0 0) HRs.out (by omega) HQw.out (Rds.nil _ _ _) (fun h => absurd h (by simp))
        exact bodyPost_ret (v := .agg #[.int .i64 0, .slice none 0 0]) (by simp [results, Try.f29, go_sem, y0, y1]) rfl ⟨none, 0, by rw [HFx.out]; rfl, by rw [HFx.out]; exact hrd, hqw, fun _ h => by cases h⟩
    · have d3 : (s.k == 3) = false := beq_eq_false_iff_ne.2 k3
      have HFx : Hid (projF L s t = (0, [])) := by rw [HF.out, if_neg (fun h => k3 h.1)]; rfl
      obtain ⟨r00, r01⟩ := (HRs.out.2 0 _ rfl)
      obtain ⟨r10, r11⟩ := (HRs.out.2 1 _ rfl)
      clear HF k1 k3 HE1' HE2' HB1' HB2'
      go_wp2_with fail
      obtain ⟨⟨y0, y1⟩, hrd, hqw⟩ := way_close (w := w) (A := none) (l := []) (.int .i64 0) (.slice none 0 0) HRs.out (by omega) HQw.out (Rds.nil _ _ _) (fun h => absurd h (by simp))
      exact bodyPost_ret (v := .agg #[.int .i64 0, .slice none 0 0]) (by simp [results, Try.f29, go_sem, y0, y1]) rfl ⟨none, 0, by rw [HFx.out]; rfl, by rw [HFx.out]; exact hrd, hqw, fun _ h => by cases h⟩
end Go.Proofs.Ytjehccemilefgaa.St

namespace Go.Proofs.Ytjehccemilefgaa.Kit

section
variable {P : Program} {ops : Array Oper} {Q : Exit → Act → World → Prop} {S : World → Prop}
theorem take_w {i : Nat} {oi : Oper} {d : Option Tmp} {v : Value} {fuel : Nat} {listed : Array Bool} {a : Act} {w : World} (hi : ops[i]? = some oi)
    (hs : Region.noSelect ops = true) (hf : Region.free .any ops listed i = true) (hr : (Region.ready .any ops listed).contains i = true)
    (hQ : ∀ c a w, Q (.panic c) (a.put d v) w → Q (.panic c) a w) (hd : oi.dst = d) (hw : Region.wanted oi (yielded ops a.tmps) = true) (hy : ∀ w, S w → (execOp a.eval oi).run P w = .ok (.value v) w) (hS : S w)
    (h : wpAnyH P .any ops Q S fuel (listed.setIfInBounds i true) (a.put d v) w) : wpAnyH P .any ops Q S (fuel + 1) listed a w := by
  subst hd
  exact wpAnyH_take hi hs hf hr hQ (.inl ⟨hw, hy⟩) hS h
theorem call_w {i : Nat} {o : Oper} {fuel : Nat} {listed : Array Bool} {a : Act} {w : World} (ho : ops[i]? = some o) (hr : Region.ready .any ops listed = [i])
    (hw : Region.wanted o (yielded ops a.tmps) = true)
    (h : ∀ K' : Act → World → Prop, Shut (∀ a w, S w → (S w → wpAnyH P .any ops Q S fuel (listed.setIfInBounds i true) a w) → K' a w) → Oper.wp P o a w K' Q) :
    wpAnyH P .any ops Q S (fuel + 1) listed a w :=
  wpAnyH_ready hr (by simp) (AllReadyH.cons ho (fun K' hK => by rw [if_pos hw]; exact h K' hK) AllReadyH.nil)
end
end Go.Proofs.Ytjehccemilefgaa.Kit

namespace Go.Proofs.Ytjehccemilefgaa.Kit

section
variable {P : Program} {md : Region.Mode} {ops : Array Oper} {Q : Exit → Act → World → Prop} {S S' : World → Prop}
end
end Go.Proofs.Ytjehccemilefgaa.Kit

namespace Go.Proofs.Ytjehccemilefgaa.Kit

section
variable {P : Program} {md : Region.Mode} {ops : Array Oper} {Q : Exit → Act → World → Prop} {S : World → Prop} {z : Nat}
def wpAnyT (P : Program) (md : Region.Mode) (ops : Array Oper) (Q : Exit → Act → World → Prop) (S : World → Prop) (z : Nat) : Nat → Array Bool → Act → World → Prop
  | 0, listed, a, w => Region.ready md ops listed = [] ∧ Q .normal a w
  | fuel + 1, listed, a, w =>
    (Region.ready md ops listed = [] → Q .normal a w) ∧
    ∀ i ∈ Region.ready md ops listed, wpOp P ops Q i (fun a' w' => ((listed.setIfInBounds i true).getD z true = false → S w') ∧ wpAnyT P md ops Q S z fuel (listed.setIfInBounds i true) a' w') a w
theorem wpAny_of_till : ∀ (fuel : Nat) (listed : Array Bool) (a : Act) (w : World), wpAnyT P md ops Q S z fuel listed a w → wpAny P md ops Q fuel listed a w
  | 0, _, _, _, h => h
  | fuel + 1, _, _, _, h => ⟨h.1, fun i hi => wpOp_mono (fun a' w' h' => wpAny_of_till fuel _ a' w' h'.2) (h.2 i hi)⟩
theorem getD_set_ne9 {xs : Array Bool} {i k : Nat} (h : i ≠ k) : (xs.setIfInBounds i true).getD k true = xs.getD k true := by
  simp only [Array.getD_eq_getD_getElem?]
  rw [Array.getElem?_setIfInBounds_ne h]
theorem wpAnyT_first {i : Nat} {oi oz : Oper} {v : Value} (hi : ops[i]? = some oi) (hsel : ∀ (j : Nat) (o : Oper) cs b, ops[j]? = some o → o.op ≠ .select cs b)
    (hQ : ∀ c a w, Q (.panic c) (a.put oi.dst v) w → Q (.panic c) a w) (hoz : ops[z]? = some oz) (hzi : ∃ e ∈ oz.after, Region.binds md e = true ∧ e.on = i) (hne : z ≠ i) :
    ∀ (fuel : Nat) (listed : Array Bool) (a : Act) (w : World),
      (∀ j oj, ops[j]? = some oj → j ≠ i → listed.getD j true = false → (∀ e ∈ oj.after, Region.binds md e = true → e.on ≠ i) → oi.apart ops oj = true) →
      i ∈ Region.ready md ops listed → listed.getD z true = false → YieldsIf P ops S oi v a → S w →
      wpAnyT P md ops Q S z fuel (listed.setIfInBounds i true) (a.put oi.dst v) w → wpAnyT P md ops Q S z (fuel + 1) listed a w := by
  intro fuel
  induction fuel with
  | zero =>
    intro listed a w _ hr _ hy hS H
    refine ⟨fun h => (by rw [h] at hr; cases hr), fun j hj => ?_⟩
    by_cases hji : j = i
    · subst hji; exact hy.wpOp hi hS ⟨fun _ => hS, H⟩
    · have := ready_mono hj hji
      rw [H.1] at this
      cases this
  | succ fuel ih =>
    intro listed a w hfree hr hz hy hS H
    refine ⟨fun h => (by rw [h] at hr; cases hr), fun j hj => ?_⟩
    by_cases hji : j = i
    · subst hji; exact hy.wpOp hi hS ⟨fun _ => hS, H⟩
    · have h1 := H.2 j (ready_mono hj hji)
      obtain ⟨hjun, oj, hoj, hall⟩ := mem_ready.1 hj
      have hnot : ∀ e ∈ oj.after, Region.binds md e = true → e.on ≠ i := fun e he hb heq => by
        have h1 := hall e he hb
        have h0 := (mem_ready.1 hr).1
        rw [heq] at h1
        rcases Nat.lt_or_ge i listed.size with h' | h'
        · simp [h'] at h0 h1; rw [h0] at h1; cases h1
        · simp [Array.getElem?_eq_none h'] at h1
      have hjz : j ≠ z := fun e => by
        subst e
        rw [hoz] at hoj
        injection hoj with hoj
        subst hoj
        obtain ⟨e, he, hb, ho⟩ := hzi
        exact hnot e he hb ho
      have hz2 : (listed.setIfInBounds j true).getD z true = false := by rw [getD_set_ne9 hjz]; exact hz
      have hz3 : ((listed.setIfInBounds i true).setIfInBounds j true).getD z true = false := by rw [getD_set_ne9 hjz, getD_set_ne9 (fun e => hne e.symm)]; exact hz
      have h2 := wpOp_putIf hoj (hfree j oj hoj hji hjun hnot) (fun cs b => hsel i oi cs b hi) (fun cs b => hsel j oj cs b hoj) hQ hy h1
      have hfree' : ∀ k ok, ops[k]? = some ok → k ≠ i → (listed.setIfInBounds j true).getD k true = false →
          (∀ e ∈ ok.after, Region.binds md e = true → e.on ≠ i) → oi.apart ops ok = true := fun k ok hk hki hun hno => by
        refine hfree k ok hk hki ?_ hno
        by_cases hjk : j = k
        · subst hjk; exact hjun
        · rw [getD_set_ne9 hjk] at hun; exact hun
      refine wpOp_mono (fun a' w' h3 => ⟨fun _ => h3.2.1 hz3, ih (listed.setIfInBounds j true) a' w' hfree' (ready_mono hr (Ne.symm hji)) hz2 h3.1 (h3.2.1 hz3) ?_⟩) h2
      rw [Array.setIfInBounds_comm _ _ hji]
      exact h3.2.2
/-- does z wait for i? -/
def waitsB (md : Region.Mode) (ops : Array Oper) (z i : Nat) : Bool := match ops[z]? with
  | some o => o.after.any fun e => Region.binds md e && (e.on == i)
  | none => false
theorem waits_spec {i : Nat} (h : waitsB md ops z i = true) : ∃ oz, ops[z]? = some oz ∧ ∃ e ∈ oz.after, Region.binds md e = true ∧ e.on = i := by
  unfold waitsB at h
  split at h
  · rename_i o ho
    rw [Array.any_eq_true] at h
    obtain ⟨k, hk, h⟩ := h
    rw [Bool.and_eq_true, beq_iff_eq] at h
    exact ⟨o, ho, _, Array.getElem_mem hk, h⟩
  · cases h
end
section
variable {P : Program} {ops : Array Oper} {Q : Exit → Act → World → Prop} {S : World → Prop} {z : Nat}
theorem take_t {i : Nat} {oi : Oper} {d : Option Tmp} {v : Value} {fuel : Nat} {listed : Array Bool} {a : Act} {w : World} (hi : ops[i]? = some oi)
    (hs : Region.noSelect ops = true) (hf : Region.free .any ops listed i = true) (hr : (Region.ready .any ops listed).contains i = true) (hz : (waitsB .any ops z i && !(z == i) && !listed.getD z true) = true)
    (hQ : ∀ c a w, Q (.panic c) (a.put d v) w → Q (.panic c) a w) (hd : oi.dst = d) (hw : Region.wanted oi (yielded ops a.tmps) = true) (hy : ∀ w, S w → (execOp a.eval oi).run P w = .ok (.value v) w) (hS : S w)
    (h : wpAnyT P .any ops Q S z fuel (listed.setIfInBounds i true) (a.put d v) w) : wpAnyT P .any ops Q S z (fuel + 1) listed a w := by
  subst hd
  rw [Bool.and_eq_true, Bool.and_eq_true] at hz
  obtain ⟨⟨h1, h2⟩, h3⟩ := hz
  obtain ⟨oz, hoz, hzi⟩ := waits_spec h1
  exact wpAnyT_first hi (Region.noSelect_spec hs) hQ hoz hzi (by simpa using h2) fuel listed a w (Region.free_spec hi hf) (by simpa using hr) (by simpa using h3) (.inl ⟨hw, hy⟩) hS h
theorem call_t {i : Nat} {o : Oper} {fuel : Nat} {listed : Array Bool} {a : Act} {w : World} (ho : ops[i]? = some o) (hr : Region.ready .any ops listed = [i])
    (hw : Region.wanted o (yielded ops a.tmps) = true)
    (h : ∀ K' : Act → World → Prop, Shut (∀ a w, ((listed.setIfInBounds i true).getD z true = false → S w) → wpAnyT P .any ops Q S z fuel (listed.setIfInBounds i true) a w → K' a w) → Oper.wp P o a w K' Q) :
    wpAnyT P .any ops Q S z (fuel + 1) listed a w := by
  refine ⟨fun h0 => (by rw [hr] at h0; cases h0), fun j hj => ?_⟩
  rw [hr] at hj
  obtain rfl : j = i := by simpa using hj
  exact wpOp_step ho (fun K' hK => by rw [if_pos hw]; exact h K' fun a w h1 h2 => hK a w ⟨h1, h2⟩)
theorem done_t {listed : Array Bool} {a : Act} {w : World} (hr : Region.ready .any ops listed = []) (h : Q .normal a w) :
    ∀ fuel, wpAnyT P .any ops Q S z fuel listed a w
  | 0 => ⟨hr, h⟩
  | _ + 1 => ⟨fun _ => h, by rw [hr]; simp⟩
theorem begin_t {id : Nat} {a : Act} {w : World} (hm : P.follows .mixedOrders = true) (hS : S w.drew)
    (h : S w.drew → wpAnyT P .any ops Q S z ops.size (Array.replicate ops.size false) a w.drew) : (Code.region id ops true).wp P Q a w :=
  wp_region_any hm (wpAny_of_till _ _ _ _ (h hS))
end
end Go.Proofs.Ytjehccemilefgaa.Kit
