/-
  What the proofs lean on, part 8 of 10.
-/
import Derived.Test.YtjgbheidkjgncaaPc
import Derived.Test.YtjgbheidkjgncaaPd
import Derived.Test.YtjgbheidkjgncaaPe
import Derived.Test.YtjgbheidkjgncaaPf
import Derived.Test.YtjgbheidkjgncaaPg
import Derived.Laws.StructEq
import Derived.ChangeKeysEq
import Derived.Deep.Slices
import Derived.Deep.Fields
import Derived.ChangeSame
import Derived.SizedLaws
import Derived.OpenShut
import Derived.Lib.SmallJoins
namespace Go.Proofs.Ytjgbheidkjgncaa.Wk
open Go.RowKit Kit Rw
open Go.Proofs.Ytjgbheidkjgncaa.St
open Go.Proofs.Ytjgbheidkjgncaa.Hs (Keys Ints CopyTPost copyT_any)
set_option maxRecDepth 100000 in
set_option maxHeartbeats 2000000 in
theorem nextW_none (B A S : Option Addr) (k kc n c m d : Nat) (l : List PI) (ks : List (List Int)) (sl : List Int) (w : World) (h : QRd w B A S k kc n c m d l ks sl) (h0 : l.length = 0)
    (hll : l.length < 1000000) (hl : ks.length ≤ 10000) (ht : ks.flatten.length ≤ 100000) (hsl : sl.length ≤ 100000) :
    Calls Try.prog 12 #[.agg #[.slice B k kc, .slice A n c, .slice S m d]] w fun e w' => ∃ B' kc' A' S' c' d', e = .returned (.tuple #[.agg #[.slice B' l.length kc', .slice A' ks.length c', .slice S' sl.length d'], .agg #[.int .i64 0, .int .i64 0], .bool false]) ∧
      QFr w w' B' A' S' l.length kc' ks.length c' sl.length d' l ks sl ∧ Q w w' := by
  obtain ⟨hk, hn, hm, hcap, hrd, hkeys, hints⟩ := h
  subst hk hn hm
  have q0 := (((Q.refl w).alloc (Obj.cells #[.slice B l.length kc, .slice A ks.length c, .slice S sl.length d] 28)).alloc (Obj.cells #[.slice none 0 0, .slice none 0 0, .slice none 0 0] 28)).alloc (Obj.cells #[.int .i64 0, .int .i64 0] 30)
  have HQ0 := Lib.hid q0
  have HR := Lib.hid (hrd.q q0)
  have HK := Lib.hid ((hkeys.q (Nat.le_refl _) q0).more q0.size)
  have HS := Lib.hid ((hints.q (Nat.le_refl _) q0).more q0.size)
  obtain ⟨W0, hW0⟩ : ∃ W0, W0 = ((w.alloc (Obj.cells #[.slice B l.length kc, .slice A ks.length c, .slice S sl.length d] 28)).alloc (Obj.cells #[.slice none 0 0, .slice none 0 0, .slice none 0 0] 28)).alloc (Obj.cells #[.int .i64 0, .int .i64 0] 30) := ⟨_, rfl⟩
  have HW0 := Lib.hid hW0
  have o1 := Ex.own_new8 w [.slice B l.length kc, .slice A ks.length c, .slice S sl.length d] 28
  have o1 := o1.q (((Q.refl _).alloc (Obj.cells #[.slice none 0 0, .slice none 0 0, .slice none 0 0] 28)).alloc (Obj.cells #[.int .i64 0, .int .i64 0] 30))
  have o2 := (Ex.own_new8 (w.alloc (Obj.cells #[.slice B l.length kc, .slice A ks.length c, .slice S sl.length d] 28)) [.slice none 0 0, .slice none 0 0, .slice none 0 0] 28).q ((Q.refl _).alloc (Obj.cells #[.int .i64 0, .int .i64 0] 30))
  have o3 := Ex.own_new8 ((w.alloc (Obj.cells #[.slice B l.length kc, .slice A ks.length c, .slice S sl.length d] 28)).alloc (Obj.cells #[.slice none 0 0, .slice none 0 0, .slice none 0 0] 28)) [.int .i64 0, .int .i64 0] 30
  rw [show (w.alloc (Obj.cells #[.slice B l.length kc, .slice A ks.length c, .slice S sl.length d] 28)).heap.size = w.heap.size + 1 by simp] at o2
  rw [show ((w.alloc (Obj.cells #[.slice B l.length kc, .slice A ks.length c, .slice S sl.length d] 28)).alloc (Obj.cells #[.slice none 0 0, .slice none 0 0, .slice none 0 0] 28)).heap.size = w.heap.size + 2 by simp] at o3
  have hz : Hid (W0.heap.size = w.heap.size + 3) := by unfold Hid; rw [hW0]; simp
  have hle : w.heap.size + 2 < W0.heap.size := by have := hz.out; omega
  rw [← hW0] at o1 o2 o3 HQ0 HR HK HS
  have HO1 := Lib.hid o1
  have HO2 := Lib.hid o2
  have HO3 := Lib.hid o3
  have hlen : ((l.length : Int) == 0) = true := by rw [beq_iff_eq]; omega
  clear hrd hkeys hints q0 hW0 o1 o2 o3 h0
  go_enter Try.func12, Try.ntmps12
  go_upto_region 1 with fail
  rw [← HW0.out]
  go_cut [5, 6] (NxR W0 l ks sl)
  case first =>
    have c0 := (HO1.out.2 0 _ rfl).1
    have c1 := (HO1.out.2 1 _ rfl).1
    have c2 := (HO1.out.2 2 _ rfl).1
    have hlt0 : w.heap.size < W0.heap.size := by omega
    have HRa : Hid (Rds (W0.alloc (Obj.cells #[.slice none 0 0, .slice none 0 0] 26)).drew (W0.alloc (Obj.cells #[.slice none 0 0, .slice none 0 0] 26)).drew.heap.size B (cellsQ l)) := HR.out.q (((Q.refl W0).alloc _).drew)
    have HXa : Hid (OwnC (W0.alloc (Obj.cells #[.slice none 0 0, .slice none 0 0] 26)).drew W0.heap.size [.slice none 0 0, .slice none 0 0]) := Ex.own_new8 W0 [.slice none 0 0, .slice none 0 0] 26
    go_region_held3 (fun w' => w'.cell? ⟨w.heap.size, 0, none⟩ = some (.slice B l.length kc) ∧ w'.cell? ⟨w.heap.size, 1, none⟩ = some (.slice A ks.length c) ∧ w'.cell? ⟨w.heap.size, 2, none⟩ = some (.slice S sl.length d))
      (first
        | go_keep
        | exact ⟨(p2.cell (p := ⟨w.heap.size, 0, none⟩) hlt0).trans c0, (p2.cell (p := ⟨w.heap.size, 1, none⟩) hlt0).trans c1, (p2.cell (p := ⟨w.heap.size, 2, none⟩) hlt0).trans c2⟩
        | exact ⟨((p2.alloc _).cell (p := ⟨w.heap.size, 0, none⟩) hlt0).trans c0, ((p2.alloc _).cell (p := ⟨w.heap.size, 1, none⟩) hlt0).trans c1, ((p2.alloc _).cell (p := ⟨w.heap.size, 2, none⟩) hlt0).trans c2⟩
        | exact ⟨(p1.cell (p := ⟨w.heap.size, 0, none⟩) hlt0).trans c0, (p1.cell (p := ⟨w.heap.size, 1, none⟩) hlt0).trans c1, (p1.cell (p := ⟨w.heap.size, 2, none⟩) hlt0).trans c2⟩
        | exact ⟨((p1.alloc _).cell (p := ⟨w.heap.size, 0, none⟩) hlt0).trans c0, ((p1.alloc _).cell (p := ⟨w.heap.size, 1, none⟩) hlt0).trans c1, ((p1.alloc _).cell (p := ⟨w.heap.size, 2, none⟩) hlt0).trans c2⟩
        | exact ⟨(((p2.setCell (p := ⟨W0.heap.size, 0, none⟩) (Nat.le_refl _) _).setCell (p := ⟨W0.heap.size, 1, none⟩) (Nat.le_refl _) _).cell (p := ⟨w.heap.size, 0, none⟩) hlt0).trans c0, (((p2.setCell (p := ⟨W0.heap.size, 0, none⟩) (Nat.le_refl _) _).setCell (p := ⟨W0.heap.size, 1, none⟩) (Nat.le_refl _) _).cell (p := ⟨w.heap.size, 1, none⟩) hlt0).trans c1, (((p2.setCell (p := ⟨W0.heap.size, 0, none⟩) (Nat.le_refl _) _).setCell (p := ⟨W0.heap.size, 1, none⟩) (Nat.le_refl _) _).cell (p := ⟨w.heap.size, 2, none⟩) hlt0).trans c2⟩
        | exact ⟨(((p2.setCell (p := ⟨w1.heap.size, 0, none⟩) p1.size _).setCell (p := ⟨w1.heap.size, 1, none⟩) p1.size _).cell (p := ⟨w.heap.size, 0, none⟩) hlt0).trans c0, (((p2.setCell (p := ⟨w1.heap.size, 0, none⟩) p1.size _).setCell (p := ⟨w1.heap.size, 1, none⟩) p1.size _).cell (p := ⟨w.heap.size, 1, none⟩) hlt0).trans c1, (((p2.setCell (p := ⟨w1.heap.size, 0, none⟩) p1.size _).setCell (p := ⟨w1.heap.size, 1, none⟩) p1.size _).cell (p := ⟨w.heap.size, 2, none⟩) hlt0).trans c2⟩)
      (first
        | (go_at_call 27; refine (waiting_any B _ kc l _ rfl (by first | with_reducible exact HRa.out | exact HR.out) hll).mono ?_; rintro e w1 ⟨b, g, rfl, hbg, hrow, q1⟩; have HRow := Lib.hid hrow; clear hrow; have p1 : Q W0 w1 := (by first | exact (Q.refl W0).drew.trans q1 | exact ((Q.refl W0).alloc _).drew.trans q1); (first | have bx := HXa.out.q q1 | skip))
        | (go_at_call 29; refine (copyT_any _ _ _ c _ d ks sl _ rfl rfl (by first | exact (HK.out.q (Nat.le_refl _) p1).more p1.size | exact (HK.out.q (Nat.le_refl _) (p1.alloc _)).more (p1.alloc _).size) (by first | exact (HS.out.q (Nat.le_refl _) p1).more p1.size | exact (HS.out.q (Nat.le_refl _) (p1.alloc _)).more (p1.alloc _).size) hl ht hsl).mono ?_; rintro e w2 ⟨A', c', S', d', rfl, hC, q2⟩; have HC := Lib.hid hC; clear hC; have p2 : Q W0 w2 := (by first | exact p1.trans q2 | exact (p1.alloc _).trans q2); (first | (have bx2 := bx.q q2; have y0 := (bx2.2 0 _ rfl).1; have y1 := (bx2.2 1 _ rfl).1; have z0 := (bx2.2 0 _ rfl).2; have z1 := (bx2.2 1 _ rfl).2) | (have bx2 := (Ex.own_new8 w1 [.slice none 0 0, .slice none 0 0] 26).q q2; have y0 := (bx2.2 0 _ rfl).1; have y1 := (bx2.2 1 _ rfl).1; have z0 := (bx2.2 0 _ rfl).2; have z1 := (bx2.2 1 _ rfl).2) | skip)))
    · go_wp2_with fail
      go_meet
      have r1 := ((HRow.out.low (Nat.le_refl _)).q q2).q ((Q.refl w2).alloc (Obj.cells #[.slice A' ks.length c', .slice S' sl.length d'] 26))
      have hb1 := HRow.out.box.1
      have hg1 := HRow.out.lg.2
      have hb0 : W0.heap.size ≤ b := HRow.out.lb
      have hg0 : W0.heap.size ≤ g := hbg
      have hs2 := q2.size
      have hz2 : (w2.alloc (Obj.cells #[.slice A' ks.length c', .slice S' sl.length d'] 26)).heap.size = w2.heap.size + 1 := by simp
      exact ⟨b, g, w2.heap.size, w1.heap.size, w2.heap.size, A', S', c', d', rfl, rfl, r1, Ex.own_new8 w2 [.slice A' ks.length c', .slice S' sl.length d'] _, p2.alloc _, fun W hW => HC.out W (fun p h1 h2 => (hW p h1 h2).trans (((Q.refl w2).alloc _).cell h2)), ⟨hb0, hg0, p2.size, by omega, by omega, hb1, hg1, by omega, .inr (Nat.le_refl _)⟩⟩
    · go_wp2_with fail
      go_meet
      have q12 : Q w1 w2 := ((Q.refl w1).alloc _).trans q2
      have hb1 := HRow.out.box.1
      have hg1 := HRow.out.lg.2
      have hb0 : W0.heap.size ≤ b := HRow.out.lb
      have hg0 : W0.heap.size ≤ g := hbg
      have e1 : (w1.alloc (Obj.cells #[.slice none 0 0, .slice none 0 0] 26)).heap.size = w1.heap.size + 1 := by simp
      have hs2 := q2.size
      have hp1 := p1.size
      have r1 := (((HRow.out.low (Nat.le_refl _)).q q12).far (k := w1.heap.size) (i := 0) (by omega) (by omega) (.slice A' ks.length c')).far (k := w1.heap.size) (i := 1) (by omega) (by omega) (.slice S' sl.length d')
      refine ⟨b, g, w1.heap.size, w1.heap.size + 1, w2.heap.size, A', S', c', d', rfl, rfl, r1, own_two bx2 _ _, ((p2.setCell (p := ⟨w1.heap.size, 0, none⟩) p1.size _).setCell (p := ⟨w1.heap.size, 1, none⟩) p1.size _), fun W hW => HC.out W (fun p h1 h2 => (hW p (by have h1' : (w1.alloc (Obj.cells #[.slice none 0 0, .slice none 0 0] 26)).heap.size ≤ p.block := h1; omega) h2).trans ?_), ⟨hb0, hg0, p1.size, by omega, by omega, by omega, by omega, by simp [World.setCell], .inl (by omega)⟩⟩
      have h1' : (w1.alloc (Obj.cells #[.slice none 0 0, .slice none 0 0] 26)).heap.size ≤ p.block := h1
      exact (World.cell?_setCell_far _ _ _ _ (show w1.heap.size ≠ p.block by omega)).trans (World.cell?_setCell_far _ _ _ _ (show w1.heap.size ≠ p.block by omega))
    · go_wp2_with fail
      go_meet
      have e1 : (W0.alloc (Obj.cells #[.slice none 0 0, .slice none 0 0] 26)).drew.heap.size = W0.heap.size + 1 := by show (W0.alloc _).heap.size = _; simp
      have hb1 := HRow.out.box.1
      have hg1 := HRow.out.lg.2
      have hb0 := HRow.out.lb
      have hg0 : (W0.alloc (Obj.cells #[.slice none 0 0, .slice none 0 0] 26)).drew.heap.size ≤ g := hbg
      have hs2 := q2.size
      have hb0 : W0.heap.size + 1 ≤ b := by rw [← e1]; exact hb0
      have r1 := (((HRow.out.low (base' := W0.heap.size) (by show W0.heap.size ≤ (W0.alloc _).heap.size; simp)).q q2).far (k := W0.heap.size) (i := 0) (by omega) (by omega) (.slice A' ks.length c')).far (k := W0.heap.size) (i := 1) (by omega) (by omega) (.slice S' sl.length d')
      refine ⟨b, g, W0.heap.size, w1.heap.size, w2.heap.size, A', S', c', d', rfl, rfl, r1, own_two bx2 _ _, ((p2.setCell (p := ⟨W0.heap.size, 0, none⟩) (Nat.le_refl _) _).setCell (p := ⟨W0.heap.size, 1, none⟩) (Nat.le_refl _) _), fun W hW => HC.out W (fun p h1 h2 => (hW p h1 h2).trans ?_), ⟨by omega, by omega, Nat.le_refl _, by omega, by omega, hb1, hg1, by simp [World.setCell], .inl (by omega)⟩⟩
      have h1' : w1.heap.size ≤ p.block := h1
      exact (World.cell?_setCell_far _ _ _ _ (show W0.heap.size ≠ p.block by omega)).trans (World.cell?_setCell_far _ _ _ _ (show W0.heap.size ≠ p.block by omega))
  case rest =>
    obtain ⟨b, g, t, lo, hi, A', S', c', d', rfl, rfl, HRow, HT, HQ, HC, HF⟩ := hcut
    obtain ⟨f1, f2, f3, f4, f5, f6, f7, f8, f9⟩ := HF.out
    have h25 := HO2.out.q HQ.out
    have h35 := HO3.out.q HQ.out
    clear HO1 HO2 HO3 HR HK HS HF
    have CL := Lib.hid (fun W hW => lenR_any b l.length (l.length + 1) (some ⟨g, 0, none⟩) W hW)
    have hz0 := hz.out
    have k0 := HRow.out.b0
    have k1 := (HT.out.2 0 _ rfl).1
    have k2 := (HT.out.2 1 _ rfl).1
    have a0 := (h25.2 0 _ rfl).1
    have a1 := (h25.2 1 _ rfl).1
    have a2 := (h25.2 2 _ rfl).1
    have b0 := (h25.2 0 _ rfl).2
    have b1 := (h25.2 1 _ rfl).2
    have b2 := (h25.2 2 _ rfl).2
    have c0 := (h35.2 0 _ rfl).1
    have c1 := (h35.2 1 _ rfl).1
    have d0 := (h35.2 0 _ rfl).2
    have d1 := (h35.2 1 _ rfl).2
    have H25 := Lib.hid h25
    have H35 := Lib.hid h35
    have n2 : w.heap.size + 1 ≠ t := by omega
    have n3 : w.heap.size + 1 ≠ b := by omega
    have n2' : w.heap.size + 1 + 1 ≠ t := by omega
    have n3' : w.heap.size + 1 + 1 ≠ b := by omega
    clear h25 h35
    go_upto_region 3 with (go_at_call 82; refine (CL.out _ k0).mono ?_; rintro e w2 ⟨rfl, e2⟩; obtain rfl := e2)
    go_region_held3 (fun w' => w'.cell? ⟨b, 0, none⟩ = some (.slice (some ⟨g, 0, none⟩) l.length (l.length + 1)) ∧ w'.cell? ⟨t, 0, none⟩ = some (.slice A' ks.length c') ∧ w'.cell? ⟨t, 1, none⟩ = some (.slice S' sl.length d'))
      (first
        | go_keep
        | exact ⟨far3 k0 n3, far3 k1 n2, far3 k2 n2⟩
        | exact ⟨far2 (far3 k0 n3) n3', far2 (far3 k1 n2) n2', far2 (far3 k2 n2) n2'⟩)
      (first
        | (go_at_call 87; refine (allR_any b l.length (l.length + 1) (some ⟨g, 0, none⟩) _ (by first | assumption | exact k0)).mono ?_; rintro e w6 ⟨rfl, rfl⟩))
    clear k0 k1 k2 a0 a1 a2 b0 b1 b2 c0 c1 d0 d1
    go_wp2_with fail
    have e2 := ((own_three H25.out (.slice (some ⟨g, 0, none⟩) l.length (l.length + 1)) (.slice A' ks.length c') (.slice S' sl.length d')).far (b := w.heap.size + 1 + 1) (i := 0) (by omega) (.int .i64 0)).far (b := w.heap.size + 1 + 1) (i := 1) (by omega) (.int .i64 0)
    have e3 := own_two (((H35.out.far (b := w.heap.size + 1) (i := 0) (by omega) (.slice (some ⟨g, 0, none⟩) l.length (l.length + 1))).far (b := w.heap.size + 1) (i := 1) (by omega) (.slice A' ks.length c')).far (b := w.heap.size + 1) (i := 2) (by omega) (.slice S' sl.length d')) (.int .i64 0) (.int .i64 0)
    have hrd := ((((HRow.out.cells.far (b := w.heap.size + 1) (i := 0) (by omega) (.slice (some ⟨g, 0, none⟩) l.length (l.length + 1))).far (b := w.heap.size + 1) (i := 1) (by omega) (.slice A' ks.length c')).far (b := w.heap.size + 1) (i := 2) (by omega) (.slice S' sl.length d')).far (b := w.heap.size + 1 + 1) (i := 0) (by omega) (.int .i64 0)).far (b := w.heap.size + 1 + 1) (i := 1) (by omega) (.int .i64 0)
    have hq5 := HQ0.out.trans HQ.out
    have hqf := ((((hq5.setCell (p := ⟨w.heap.size + 1, 0, none⟩) (by show w.heap.size ≤ w.heap.size + 1; omega) (.slice (some ⟨g, 0, none⟩) l.length (l.length + 1))).setCell (p := ⟨w.heap.size + 1, 1, none⟩) (by show w.heap.size ≤ w.heap.size + 1; omega) (.slice A' ks.length c')).setCell (p := ⟨w.heap.size + 1, 2, none⟩) (by show w.heap.size ≤ w.heap.size + 1; omega) (.slice S' sl.length d')).setCell (p := ⟨w.heap.size + 1 + 1, 0, none⟩) (by show w.heap.size ≤ w.heap.size + 1 + 1; omega) (.int .i64 0)).setCell (p := ⟨w.heap.size + 1 + 1, 1, none⟩) (by show w.heap.size ≤ w.heap.size + 1 + 1; omega) (.int .i64 0)
    have hsz : hi ≤ (((((w2.setCell ⟨w.heap.size + 1, 0, none⟩ (.slice (some ⟨g, 0, none⟩) l.length (l.length + 1))).setCell ⟨w.heap.size + 1, 1, none⟩ (.slice A' ks.length c')).setCell ⟨w.heap.size + 1, 2, none⟩ (.slice S' sl.length d')).setCell ⟨w.heap.size + 1 + 1, 0, none⟩ (.int .i64 0)).setCell ⟨w.heap.size + 1 + 1, 1, none⟩ (.int .i64 0)).heap.size := by
      simp only [World.size_setCell]
      omega
    have hag : ∀ p : Addr, lo ≤ p.block → p.block < hi → (((((w2.setCell ⟨w.heap.size + 1, 0, none⟩ (.slice (some ⟨g, 0, none⟩) l.length (l.length + 1))).setCell ⟨w.heap.size + 1, 1, none⟩ (.slice A' ks.length c')).setCell ⟨w.heap.size + 1, 2, none⟩ (.slice S' sl.length d')).setCell ⟨w.heap.size + 1 + 1, 0, none⟩ (.int .i64 0)).setCell ⟨w.heap.size + 1 + 1, 1, none⟩ (.int .i64 0)).cell? p = w2.cell? p := fun p h1 h2 => by
      exact (World.cell?_setCell_far _ _ _ _ (show w.heap.size + 1 + 1 ≠ p.block by omega)).trans ((World.cell?_setCell_far _ _ _ _ (show w.heap.size + 1 + 1 ≠ p.block by omega)).trans ((World.cell?_setCell_far _ _ _ _ (show w.heap.size + 1 ≠ p.block by omega)).trans ((World.cell?_setCell_far _ _ _ _ (show w.heap.size + 1 ≠ p.block by omega)).trans (World.cell?_setCell_far _ _ _ _ (show w.heap.size + 1 ≠ p.block by omega)))))
    generalize ((((w2.setCell ⟨w.heap.size + 1, 0, none⟩ (.slice (some ⟨g, 0, none⟩) l.length (l.length + 1))).setCell ⟨w.heap.size + 1, 1, none⟩ (.slice A' ks.length c')).setCell ⟨w.heap.size + 1, 2, none⟩ (.slice S' sl.length d')).setCell ⟨w.heap.size + 1 + 1, 0, none⟩ (.int .i64 0)).setCell ⟨w.heap.size + 1 + 1, 1, none⟩ (.int .i64 0) = WF at *
    have e2d := e2.q ((Q.refl WF).drew)
    have e3d := e3.q ((Q.refl WF).drew)
    have hOwn := hrd.q ((Q.refl WF).drew)
    have hagd : ∀ p : Addr, lo ≤ p.block → p.block < hi → WF.drew.cell? p = w2.cell? p := fun p h1 h2 => hag p h1 h2
    have hqd := hqf.drew
    have hszd : hi ≤ WF.drew.heap.size := hsz
    clear hrd hqf hsz e2 e3 hag
    generalize WF.drew = WD at *
    have y0 := (e2d.2 0 _ rfl).1
    have y1 := (e2d.2 1 _ rfl).1
    have y2 := (e2d.2 2 _ rfl).1
    have y3 := (e3d.2 0 _ rfl).1
    have y4 := (e3d.2 1 _ rfl).1
    have hfin : QFr w WD (some ⟨g, 0, none⟩) A' S' l.length (l.length + 1) ks.length c' sl.length d' l ks sl := fun W hs hW => by
      have hK := HC.out W (fun p h1 h2 => (hW p (by omega) (by omega)).trans (hagd p h1 h2))
      exact ⟨rfl, rfl, rfl, by omega, own_frC hOwn (by omega) hs hW, hK.1.more (by omega), hK.2.more (by omega)⟩
    refine bodyPost_ret (v := .tuple #[.agg #[.slice (some ⟨g, 0, none⟩) l.length (l.length + 1), .slice A' ks.length c', .slice S' sl.length d'], .agg #[.int .i64 0, .int .i64 0], .bool false]) (by simp [results, Try.f12, go_sem, y0, y1, y2, y3, y4]) rfl ?_
    exact ⟨_, _, _, _, _, _, rfl, hfin, hqd⟩
end Go.Proofs.Ytjgbheidkjgncaa.Wk

namespace Go.Proofs.Ytjgbheidkjgncaa.St
open Go.RowKit Kit Rw

def eqP (a b : PI) : Bool := (a.1 == b.1) && (a.2 == b.2)
theorem eqP_iff (a b : PI) : eqP a b = true ↔ a = b := by
  unfold eqP
  rw [Bool.and_eq_true, beq_iff_eq, beq_iff_eq, Prod.ext_iff]
theorem int_info : ∃ i, Try.prog.info? 3 = some i := by
  cases h : Try.prog.info? 3 with
  | some i => exact ⟨i, rfl⟩
  | none => exact absurd h (by decide +kernel)
theorem run_eq_pair (w : World) (a b c d : Int) : (Op.equalIn 10000 30 (.agg #[.int .i64 a, .int .i64 b]) (.agg #[.int .i64 c, .int .i64 d])).run Try.prog w = .ok ((a == c) && (b == d)) w := by
  obtain ⟨i, hi⟩ := int_info
  have hc : Try.prog.cellsOf 3 = 1 := by kernel_rfl
  have ei : ∀ x y : Int, (Op.equalIn 9999 3 (.int .i64 x) (.int .i64 y)).run Try.prog w = .ok (x == y) w := fun x y => run_equalIn_int w 9998 _ .i64 .i64 x y Try.underlying3
  have p0 := Ex.part_int w #[.int .i64 a, .int .i64 b] 0 a rfl
  have p1 := Ex.part_int w #[.int .i64 c, .int .i64 d] 0 c rfl
  have p2 := Ex.part_int w #[.int .i64 a, .int .i64 b] 1 b rfl
  have p3 := Ex.part_int w #[.int .i64 c, .int .i64 d] 1 d rfl
  rw [show (10000 : Nat) = 9999 + 1 from rfl, run_equalIn_array w 9999 _ _ Try.underlying30 hi, hc, show List.range 2 = [0, 1] from rfl]
  simp only [Op.eqItems, Sem.run_bind, Nat.zero_mul, Nat.one_mul, p0, p1, Result.andThen_ok, ei]
  cases a == c
  · simp [Sem.run_pure]
  · simp only [Bool.not_true, Bool.false_eq_true, if_false, Sem.run_bind, p2, p3, Result.andThen_ok, ei]
    cases b == d <;> simp [Sem.run_pure]
theorem run_eql_pair (w : World) (x y : PI) : (binOp .eql 30 (.agg #[.int .i64 x.1, .int .i64 x.2]) (.agg #[.int .i64 y.1, .int .i64 y.2])).run Try.prog w = .ok (.bool (eqP x y)) w := by
  rw [run_eql_struct, run_eq_pair]; rfl
theorem run_neq_pair (w : World) (x y : PI) : (binOp .neq 30 (.agg #[.int .i64 x.1, .int .i64 x.2]) (.agg #[.int .i64 y.1, .int .i64 y.2])).run Try.prog w = .ok (.bool (!eqP x y)) w := by
  rw [run_neq_struct, run_eq_pair]; rfl
set_option maxRecDepth 100000 in
set_option maxHeartbeats 2000000 in
theorem refIn10_any (A : Option Addr) (n c : Nat) (l : List PI) (p : PI) (w : World) (hn : n = l.length) (hr : Rds w w.heap.size A (cellsQ l)) (hl : l.length ≤ 1000000) :
    Calls Try.prog 15 #[.slice A n c, .agg #[.int .i64 p.1, .int .i64 p.2]] w fun e w' => e = .returned (.bool (decide (p ∈ l))) ∧ Q w w' := by
  subst hn
  have q0 := (Q.refl w).alloc (Obj.cells #[.int .i64 p.1, .int .i64 p.2] 30)
  have HR := Lib.hid (hr.q q0)
  have HB := Lib.hid (Ex.own_new8 w [.int .i64 p.1, .int .i64 p.2] 30)
  have HQ0 := Lib.hid q0
  clear hr q0
  go_enter Try.func15, Try.ntmps15
  go_wp2_with fail
  generalize w.alloc (Obj.cells #[.int .i64 p.1, .int .i64 p.2] 30) = W0 at *
  go_loopw [5] (fun iv wr => ∃ k : Nat, k ≤ l.length ∧ iv = .int .i64 k ∧ Hid (decide (p ∈ l) = decide (p ∈ l.drop k)) ∧ Hid (Q W0 wr)) (fun iv _ => l.length - (intOf iv).toNat)
  case atStart => exact ⟨0, Nat.zero_le _, rfl, Lib.hid (by simp), Lib.hid (Q.refl W0)⟩
  case round =>
    obtain ⟨k, hk, rfl, HD, HQ⟩ := hrel
    by_cases hlt : k < l.length
    · obtain ⟨ad, rfl, hb, c0, c1⟩ := pair_at (HR.out.q HQ.out) hlt
      have hB := (HB.out.q HQ.out).2
      have b0 := (hB 0 _ rfl).1
      have b1 := (hB 1 _ rfl).1
      have HE := run_eql_pair wr l[k] p
      have HE' := fun w => run_eql_pair w l[k] p
      have hdr : l.drop k = l[k] :: l.drop (k + 1) := List.drop_eq_getElem_cons hlt
      have HD2 : Hid (decide (p ∈ l) = (eqP l[k] p || decide (p ∈ l.drop (k + 1)))) := by
        unfold Hid
        have hm : p ∈ l.drop k ↔ l[k] = p ∨ p ∈ l.drop (k + 1) := by
          rw [hdr, List.mem_cons]
          exact ⟨fun h => h.imp Eq.symm id, fun h => h.imp Eq.symm id⟩
        rw [HD.out, Bool.eq_iff_iff, Bool.or_eq_true, decide_eq_true_iff, decide_eq_true_iff, eqP_iff]
        exact hm
      clear hdr hB HD HE
      generalize l[k] = z at *
      cases he : eqP z p
      · rw [he] at HE' HD2
        rw [Bool.false_or] at HD2
        clear he
        go_wp2_with fail
        go_quiet (fail)
        go_wp2_with fail
        go_roundw
        case rel => exact ⟨k + 1, by omega, by go_num, HD2, Lib.hid (by first | exact HQ.out.drew | exact HQ.out.drewN _)⟩
        case measure => simp [intOf]; omega
      · rw [he] at HE' HD2
        rw [Bool.true_or] at HD2
        clear he
        go_wp2_with fail
        go_quiet (fail)
        go_wp2_with fail
        go_ret
        exact ⟨by rw [HD2.out]; rfl, HQ0.out.trans (by first | exact HQ.out.drew | exact HQ.out.drewN _)⟩
    · have HD2 : Hid (decide (p ∈ l) = false) := by
        unfold Hid
        rw [HD.out, List.drop_of_length_le (by omega)]
        simp
      go_wp2_with fail
      go_ret
      exact ⟨by rw [HD2.out]; rfl, HQ0.out.trans HQ.out⟩
def eqQ : List PI → List PI → Bool
  | a :: l, b :: m => eqP a b && eqQ l m
  | _, _ => true
def sameQ (l m : List PI) : Bool := decide (l.length = m.length) && eqQ l m
theorem eqQ_at (l m : List PI) (k : Nat) (h : k < l.length) (h' : k < m.length) : eqQ (l.drop k) (m.drop k) = (eqP l[k] m[k] && eqQ (l.drop (k + 1)) (m.drop (k + 1))) := by
  rw [List.drop_eq_getElem_cons h, List.drop_eq_getElem_cons h']; rfl
theorem eqQ_end (l m : List PI) (k : Nat) (h : l.length ≤ k) : eqQ (l.drop k) (m.drop k) = true := by
  rw [List.drop_eq_nil_of_le h]; rfl
theorem eqQ_iff : ∀ (l m : List PI), l.length = m.length → (eqQ l m = true ↔ l = m)
  | [], [], _ => by simp [eqQ]
  | a :: l, b :: m, h => by
    rw [eqQ, Bool.and_eq_true, eqP_iff, eqQ_iff l m (by simpa using h)]
    simp
theorem sameQ_iff (l m : List PI) : sameQ l m = true ↔ l = m := by
  unfold sameQ
  rw [Bool.and_eq_true, decide_eq_true_eq]
  constructor
  · rintro ⟨h, g⟩; exact (eqQ_iff l m h).1 g
  · rintro rfl; exact ⟨rfl, (eqQ_iff l l rfl).2 rfl⟩
set_option maxRecDepth 100000 in
set_option maxHeartbeats 2000000 in
theorem refPairsEq_any (A B : Option Addr) (n c m d : Nat) (l r : List PI) (w : World) (hn : n = l.length) (hm : m = r.length) (hr : Rds w w.heap.size A (cellsQ l)) (hr' : Rds w w.heap.size B (cellsQ r)) (hl : l.length ≤ 1000000) :
    Calls Try.prog 20 #[.slice A n c, .slice B m d] w fun e w' => e = .returned (.bool (sameQ l r)) ∧ Q w w' := by
  subst hn hm
  have HR := Lib.hid hr
  have HR' := Lib.hid hr'
  clear hr hr'
  by_cases hne : l.length = r.length
  · have e0 : ((l.length : Int) != (r.length : Int)) = false := by rw [bne_eq_false_iff_eq]; omega
    have HN := Lib.hid hne
    have HF0 : Hid (sameQ l r = eqQ l r) := by unfold Hid sameQ; rw [decide_eq_true hne, Bool.true_and]
    clear hne
    go_enter Try.func20, Try.ntmps20
    go_wp2_with fail
    go_loopw [5] (fun iv wr => ∃ k : Nat, k ≤ l.length ∧ iv = .int .i64 k ∧ Hid (eqQ l r = eqQ (l.drop k) (r.drop k)) ∧ Hid (Q w wr)) (fun iv _ => l.length - (intOf iv).toNat)
    case atStart => exact ⟨0, Nat.zero_le _, rfl, Lib.hid (by simp), Lib.hid (Q.refl w)⟩
    case round =>
      obtain ⟨k, hk, rfl, HD, HQ⟩ := hrel
      by_cases hlt : k < l.length
      · have hlt' : k < r.length := by have := HN.out; omega
        obtain ⟨ad, rfl, hb, c0, c1⟩ := pair_at (HR.out.q HQ.out) hlt
        obtain ⟨ad', rfl, hb', c0', c1'⟩ := pair_at (HR'.out.q HQ.out) hlt'
        have HE' := fun w => run_neq_pair w l[k] r[k]
        have HD2 := HD.out.trans (eqQ_at l r k hlt hlt')
        have j1 : (k : Int) < (l.length : Int) := by omega
        have j2 : (k : Int) < (r.length : Int) := by omega
        have j0 : (0 : Int) ≤ (k : Int) := Int.natCast_nonneg _
        clear HD
        generalize l[k] = z at *
        generalize r[k] = z' at *
        cases he : eqP z z'
        · rw [he] at HE' HD2
          have HD3 := Lib.hid HD2
          rw [Bool.false_and] at HD3
          clear he HD2
          go_wp2_with fail
          go_quiet (fail)
          go_wp2_with fail
          go_ret
          exact ⟨by rw [HF0.out, HD3.out]; rfl, by first | exact HQ.out.drew | exact HQ.out.drewN _⟩
        · rw [he] at HE' HD2
          have HD3 := Lib.hid HD2
          rw [Bool.true_and] at HD3
          clear he HD2
          go_wp2_with fail
          go_quiet (fail)
          go_wp2_with fail
          go_roundw
          case rel => exact ⟨k + 1, by omega, by go_num, HD3, Lib.hid (by first | exact HQ.out.drew | exact HQ.out.drewN _)⟩
          case measure => simp [intOf]; omega
      · have HD2 : Hid (eqQ l r = true) := by
          unfold Hid
          rw [HD.out, eqQ_end _ _ _ (by omega)]
        go_wp2_with fail
        go_ret
        exact ⟨by rw [HF0.out, HD2.out]; rfl, HQ.out⟩
  · have e0 : ((l.length : Int) != (r.length : Int)) = true := by rw [bne_iff_ne]; omega
    have HF0 : Hid (sameQ l r = false) := by unfold Hid sameQ; rw [decide_eq_false hne, Bool.false_and]
    clear hne
    go_enter Try.func20, Try.ntmps20
    go_wp2_with fail
    go_ret
    exact ⟨by rw [HF0.out]; rfl, Q.refl w⟩
end Go.Proofs.Ytjgbheidkjgncaa.St

namespace Go.Proofs.Ytjgbheidkjgncaa.Wk
open Go.RowKit Kit Rw
open Go.Proofs.Ytjgbheidkjgncaa.St
open Go.Proofs.Ytjgbheidkjgncaa.Hs (Keys Ints layI putL placeI newB Dist atI)
def putQ (l : List PI) (ks : List (List Int)) (p : PI) : List PI := if newB ks (keyP p) then putH l p else l
def putK (ks : List (List Int)) (p : PI) : List (List Int) := putL ks (keyP p)
def nextQ (l : List PI) : List PI := if 0 < l.length then nextH l else l
def nextX (l : List PI) : PI := if 0 < l.length then gt l 0 else (0, 0)
theorem flat_two : ∀ {ks : List (List Int)}, (∀ k ∈ ks, k.length = 2) → ks.flatten.length = 2 * ks.length
  | [], _ => rfl
  | k :: ks, h => by
    rw [List.flatten_cons, List.length_append, h k (List.mem_cons_self ..), flat_two (fun x hx => h x (List.mem_cons_of_mem _ hx)), List.length_cons]
    omega
theorem QOk.putQ {l : List PI} {ks : List (List Int)} (h : QOk l ks (layI ks)) (p : PI) : QOk (putQ l ks p) (putK ks p) (layI (putK ks p)) := by
  unfold Wk.putQ putK putL newB
  by_cases hn : atI ks (keyP p) < 0
  · rw [if_pos hn, decide_eq_true hn, if_pos rfl]
    exact h.put hn
  · rw [if_neg hn, decide_eq_false hn, if_neg (by simp)]
    exact h
theorem QOk.nextQ {l : List PI} {ks : List (List Int)} {sl : List Int} (h : QOk l ks sl) : QOk (nextQ l) ks sl := by
  unfold Wk.nextQ
  split
  · rename_i h0; exact h.next h0
  · exact h
theorem putQ_len (l : List PI) (ks : List (List Int)) (p : PI) : (putQ l ks p).length = l.length + (if newB ks (keyP p) = true then 1 else 0) := by
  unfold putQ
  split
  · exact putH_len l p
  · rfl
theorem putK_len (ks : List (List Int)) (p : PI) : (putK ks p).length = ks.length + (if newB ks (keyP p) = true then 1 else 0) := by
  unfold putK putL newB
  by_cases hn : atI ks (keyP p) < 0
  · rw [if_pos hn, decide_eq_true hn, if_pos rfl]; simp
  · rw [if_neg hn, decide_eq_false hn, if_neg (by simp)]; rfl
theorem putF_all (B A S : Option Addr) (k kc n c m d : Nat) (l : List PI) (ks : List (List Int)) (p1 p2 : Int) (w : World) (h : QRd w B A S k kc n c m d l ks (layI ks)) (ok : QOk l ks (layI ks)) (hll : l.length ≤ 2500) (hl : ks.length ≤ 2500) :
    Calls Try.prog 11 #[.agg #[.slice B k kc, .slice A n c, .slice S m d], .agg #[.int .i64 p1, .int .i64 p2]] w fun e w' => ∃ B' k' kc' A' n' c' S' m' d', e = .returned (.tuple #[.agg #[.slice B' k' kc', .slice A' n' c', .slice S' m' d'], .bool (newB ks (keyP (p1, p2)))]) ∧
      QFr w w' B' A' S' k' kc' n' c' m' d' (putQ l ks (p1, p2)) (putK ks (p1, p2)) (layI (putK ks (p1, p2))) ∧ Q w w' := by
  have hf := flat_two ok.two
  have hs : ∀ x ∈ ks, x.length ≤ maxLen := fun x hx => by rw [ok.two x hx]; unfold maxLen; omega
  cases hn : newB ks (keyP (p1, p2))
  · refine (putW_old B A S k kc n c m d l ks (p1, p2) w h ok.dist hn (by omega) (by omega) (by omega) hs).mono ?_
    rintro e w' ⟨B', kc', A', S', c', d', rfl, hq, q⟩
    exact ⟨B', _, kc', A', _, c', S', _, d', rfl, by unfold putQ putK; rw [hn]; exact hq, q⟩
  · refine (putW_new B A S k kc n c m d l ks (p1, p2) w h ok.dist hn (by omega) (by omega) (by omega) hs).mono ?_
    rintro e w' ⟨B', kc', A', S', c', d', rfl, hq, q⟩
    exact ⟨B', _, kc', A', _, c', S', _, d', rfl, by unfold putQ putK; rw [hn]; exact hq, q⟩
theorem nextF_all (B A S : Option Addr) (k kc n c m d : Nat) (l : List PI) (ks : List (List Int)) (w : World) (h : QRd w B A S k kc n c m d l ks (layI ks)) (ok : QOk l ks (layI ks)) (hll : l.length ≤ 5000) (hl : ks.length ≤ 5000) :
    Calls Try.prog 12 #[.agg #[.slice B k kc, .slice A n c, .slice S m d]] w fun e w' => ∃ B' k' kc' A' n' c' S' m' d', e = .returned (.tuple #[.agg #[.slice B' k' kc', .slice A' n' c', .slice S' m' d'], .agg #[.int .i64 (nextX l).1, .int .i64 (nextX l).2], .bool (decide (0 < l.length))]) ∧
      QFr w w' B' A' S' k' kc' n' c' m' d' (nextQ l) ks (layI ks) ∧ Q w w' := by
  have hf := flat_two ok.two
  have hz : (layI ks).length ≤ 100000 := by rw [Hs.layI_length]; have := Hs.sizeN_le ks.length; omega
  by_cases h0 : 0 < l.length
  · refine (nextW_any B A S k kc n c m d l ks (layI ks) w h h0 (by omega) (by omega) (by omega) hz).mono ?_
    rintro e w' ⟨B', kc', A', S', c', d', rfl, hq, q⟩
    exact ⟨B', _, kc', A', _, c', S', _, d', by unfold nextX; rw [if_pos h0, decide_eq_true h0], by unfold nextQ; rw [if_pos h0]; exact hq, q⟩
  · refine (nextW_none B A S k kc n c m d l ks (layI ks) w h (by omega) (by omega) (by omega) (by omega) hz).mono ?_
    rintro e w' ⟨B', kc', A', S', c', d', rfl, hq, q⟩
    exact ⟨B', _, kc', A', _, c', S', _, d', by unfold nextX; rw [if_neg h0, decide_eq_false h0], by unfold nextQ; rw [if_neg h0]; exact hq, q⟩
theorem putW_all (B A S : Option Addr) (k kc n c m d : Nat) (l : List PI) (ks : List (List Int)) (p1 p2 : Int) (w : World) (h : QRd w B A S k kc n c m d l ks (layI ks)) (ok : QOk l ks (layI ks)) (hll : l.length ≤ 2500) (hl : ks.length ≤ 2500) :
    Calls Try.prog 11 #[.agg #[.slice B k kc, .slice A n c, .slice S m d], .agg #[.int .i64 p1, .int .i64 p2]] w fun e w' => ∃ B' k' kc' A' n' c' S' m' d', e = .returned (.tuple #[.agg #[.slice B' k' kc', .slice A' n' c', .slice S' m' d'], .bool (newB ks (keyP (p1, p2)))]) ∧
      QRd w' B' A' S' k' kc' n' c' m' d' (putQ l ks (p1, p2)) (putK ks (p1, p2)) (layI (putK ks (p1, p2))) ∧ Q w w' :=
  (putF_all B A S k kc n c m d l ks p1 p2 w h ok hll hl).mono fun _ _ ⟨B', k', kc', A', n', c', S', m', d', e, hr, q⟩ => ⟨B', k', kc', A', n', c', S', m', d', e, hr.self, q⟩
theorem nextW_all (B A S : Option Addr) (k kc n c m d : Nat) (l : List PI) (ks : List (List Int)) (w : World) (h : QRd w B A S k kc n c m d l ks (layI ks)) (ok : QOk l ks (layI ks)) (hll : l.length ≤ 5000) (hl : ks.length ≤ 5000) :
    Calls Try.prog 12 #[.agg #[.slice B k kc, .slice A n c, .slice S m d]] w fun e w' => ∃ B' k' kc' A' n' c' S' m' d', e = .returned (.tuple #[.agg #[.slice B' k' kc', .slice A' n' c', .slice S' m' d'], .agg #[.int .i64 (nextX l).1, .int .i64 (nextX l).2], .bool (decide (0 < l.length))]) ∧
      QRd w' B' A' S' k' kc' n' c' m' d' (nextQ l) ks (layI ks) ∧ Q w w' :=
  (nextF_all B A S k kc n c m d l ks w h ok hll hl).mono fun _ _ ⟨B', k', kc', A', n', c', S', m', d', e, hr, q⟩ => ⟨B', k', kc', A', n', c', S', m', d', e, hr.self, q⟩
theorem lessW4 (a b c d : Int) (w : World) :
    Calls Try.prog 13 #[.agg #[.int .i64 a, .int .i64 b], .agg #[.int .i64 c, .int .i64 d]] w fun e w' => e = .returned (.bool (decide (ltP (a, b) (c, d)))) ∧ Q w w' := lessW_any (a, b) (c, d) w
theorem ok_none : QOk [] [] (layI []) := ⟨Hs.dist0, rfl, (fun _ h => absurd h List.not_mem_nil), (fun _ h => absurd h List.not_mem_nil), List.nodup_nil, (fun i _ h => absurd h (Nat.not_lt_zero i))⟩
theorem ex11_1 : newB [] (keyP (2, 1)) = true := by decide
theorem ex11_2 : putQ [] [] (2, 1) = [(2, 1)] := by decide
theorem ex11_3 : putK [] (2, 1) = [[2, 1]] := by decide
theorem ex11_4 : newB [[2, 1]] (keyP (1, 5)) = true := by decide
theorem ex11_5 : putQ [(2, 1)] [[2, 1]] (1, 5) = [(1, 5), (2, 1)] := by decide
theorem ex11_6 : putK [[2, 1]] (1, 5) = [[2, 1], [1, 5]] := by decide
theorem ex11_7 : newB [[2, 1], [1, 5]] (keyP (2, 1)) = false := by decide
theorem ex11_8 : putQ [(1, 5), (2, 1)] [[2, 1], [1, 5]] (2, 1) = [(1, 5), (2, 1)] := by decide
theorem ex11_9 : putK [[2, 1], [1, 5]] (2, 1) = [[2, 1], [1, 5]] := by decide
theorem ex11_10 : nextX [(1, 5), (2, 1)] = (1, 5) := by decide
theorem ex11_11 : ltP (1, 5) (2, 1) := by decide
theorem ex11_12 : nextQ [(1, 5), (2, 1)] = [(2, 1)] := by decide
end Go.Proofs.Ytjgbheidkjgncaa.Wk

namespace Go.Proofs.Ytjgbheidkjgncaa.Wk
open Go.ChangeShapes Go.WideShapes Go.RowKit Kit Rw
open Go.Proofs.Ytjgbheidkjgncaa.St
open Go.Proofs.Ytjgbheidkjgncaa.Hs (Keys Ints layI putL placeI newB Dist atI)
theorem ok11_1 : QOk [(2, 1)] [[2, 1]] (layI [[2, 1]]) := by have := ok_none.putQ (2, 1); rwa [ex11_2, ex11_3] at this
theorem ok11_2 : QOk [(1, 5), (2, 1)] [[2, 1], [1, 5]] (layI [[2, 1], [1, 5]]) := by have := ok11_1.putQ (1, 5); rwa [ex11_5, ex11_6] at this
theorem put11_a (B A S : Option Addr) (k kc n c m d : Nat) (w : World) (h : QRd w B A S k kc n c m d [] [] (layI [])) : Calls Try.prog 11 #[.agg #[.slice B k kc, .slice A n c, .slice S m d], .agg #[.int .i64 2, .int .i64 1]] w fun e w' => ∃ B' k' kc' A' n' c' S' m' d', e = .returned (.tuple #[.agg #[.slice B' k' kc', .slice A' n' c', .slice S' m' d'], .bool true]) ∧ QRd w' B' A' S' k' kc' n' c' m' d' [(2, 1)] [[2, 1]] (layI [[2, 1]]) ∧ Q w w' := by
  have := putW_all B A S k kc n c m d [] [] 2 1 w h ok_none (by simp) (by simp)
  rwa [ex11_1, ex11_2, ex11_3] at this
theorem put11_b (B A S : Option Addr) (k kc n c m d : Nat) (w : World) (h : QRd w B A S k kc n c m d [(2, 1)] [[2, 1]] (layI [[2, 1]])) : Calls Try.prog 11 #[.agg #[.slice B k kc, .slice A n c, .slice S m d], .agg #[.int .i64 1, .int .i64 5]] w fun e w' => ∃ B' k' kc' A' n' c' S' m' d', e = .returned (.tuple #[.agg #[.slice B' k' kc', .slice A' n' c', .slice S' m' d'], .bool true]) ∧ QRd w' B' A' S' k' kc' n' c' m' d' [(1, 5), (2, 1)] [[2, 1], [1, 5]] (layI [[2, 1], [1, 5]]) ∧ Q w w' := by
  have := putW_all B A S k kc n c m d [(2, 1)] [[2, 1]] 1 5 w h ok11_1 (by simp) (by simp)
  rwa [ex11_4, ex11_5, ex11_6] at this
theorem put11_c (B A S : Option Addr) (k kc n c m d : Nat) (w : World) (h : QRd w B A S k kc n c m d [(1, 5), (2, 1)] [[2, 1], [1, 5]] (layI [[2, 1], [1, 5]])) : Calls Try.prog 11 #[.agg #[.slice B k kc, .slice A n c, .slice S m d], .agg #[.int .i64 2, .int .i64 1]] w fun e w' => ∃ B' k' kc' A' n' c' S' m' d', e = .returned (.tuple #[.agg #[.slice B' k' kc', .slice A' n' c', .slice S' m' d'], .bool false]) ∧ QRd w' B' A' S' k' kc' n' c' m' d' [(1, 5), (2, 1)] [[2, 1], [1, 5]] (layI [[2, 1], [1, 5]]) ∧ Q w w' := by
  have := putW_all B A S k kc n c m d [(1, 5), (2, 1)] [[2, 1], [1, 5]] 2 1 w h ok11_2 (by simp) (by simp)
  rwa [ex11_7, ex11_8, ex11_9] at this
theorem next11_a (B A S : Option Addr) (k kc n c m d : Nat) (w : World) (h : QRd w B A S k kc n c m d [(1, 5), (2, 1)] [[2, 1], [1, 5]] (layI [[2, 1], [1, 5]])) : Calls Try.prog 12 #[.agg #[.slice B k kc, .slice A n c, .slice S m d]] w fun e w' => ∃ B' k' kc' A' n' c' S' m' d', e = .returned (.tuple #[.agg #[.slice B' k' kc', .slice A' n' c', .slice S' m' d'], .agg #[.int .i64 1, .int .i64 5], .bool true]) ∧ QRd w' B' A' S' k' kc' n' c' m' d' [(2, 1)] [[2, 1], [1, 5]] (layI [[2, 1], [1, 5]]) ∧ Q w w' := by
  have := nextW_all B A S k kc n c m d [(1, 5), (2, 1)] [[2, 1], [1, 5]] w h ok11_2 (by simp) (by simp)
  rwa [ex11_10, ex11_12] at this
theorem less11_a (w : World) : Calls Try.prog 13 #[.agg #[.int .i64 1, .int .i64 5], .agg #[.int .i64 2, .int .i64 1]] w fun e w' => e = .returned (.bool true) ∧ Q w w' := by
  have := lessW4 1 5 2 1 w
  rwa [decide_eq_true ex11_11] at this
set_option maxRecDepth 100000 in
set_option maxHeartbeats 4000000 in
theorem shown11_any (w : World) : Calls Try.prog 8 #[] w fun e w' => e = .returned (.bool true) ∧ Q w w' := by
  go_enter Try.func8, Try.ntmps8
  go_upto_region 2 with (first
    | (go_at_call 16; refine (newW_any _).mono ?_; rintro e w0 ⟨S0, m0, d0, rfl, hr0, q0⟩; have HR0 := Lib.hid hr0.self; have HQ0 := Lib.hid q0; clear hr0 q0)
    | (go_at_call 11; refine (put11_a _ _ _ _ _ _ _ _ _ _ HR0.out).mono ?_; rintro e w1 ⟨B1, k1, kc1, A1, n1, c1, S1, m1, d1, rfl, hr1, q1⟩; have HR1 := Lib.hid hr1; have HQ1 := Lib.hid q1; clear hr1 q1))
  have qn := (Q.refl w1).alloc (Obj.cells #[.slice B1 k1 kc1, .slice A1 n1 c1, .slice S1 m1 d1] 28)
  have HB1 := Lib.hid (Ex.own_new8 w1 [.slice B1 k1 kc1, .slice A1 n1 c1, .slice S1 m1 d1] 28)
  replace HR1 := Lib.hid (HR1.out.q qn)
  have HQ := Lib.hid ((HQ0.out.trans HQ1.out).trans qn)
  clear qn HQ0 HQ1 HR0
  generalize w1.alloc (Obj.cells #[.slice B1 k1 kc1, .slice A1 n1 c1, .slice S1 m1 d1] 28) = y1 at *
  have c_1_0 := (HB1.out.2 0 _ rfl).1
  have c_1_1 := (HB1.out.2 1 _ rfl).1
  have c_1_2 := (HB1.out.2 2 _ rfl).1
  go_upto_region 3 with (go_at_call 11; refine (put11_b _ _ _ _ _ _ _ _ _ _ HR1.out).mono ?_; rintro e w2 ⟨B2, k2, kc2, A2, n2, c2, S2, m2, d2, rfl, hr2, q2⟩; have HR2 := Lib.hid hr2; have HQ2 := Lib.hid q2; clear hr2 q2)
  clear c_1_0 c_1_1 c_1_2
  have qn := (Q.refl w2).alloc (Obj.cells #[.slice B2 k2 kc2, .slice A2 n2 c2, .slice S2 m2 d2] 28)
  have HB2 := Lib.hid (Ex.own_new8 w2 [.slice B2 k2 kc2, .slice A2 n2 c2, .slice S2 m2 d2] 28)
  replace HR2 := Lib.hid (HR2.out.q qn)
  replace HQ := Lib.hid ((HQ.out.trans HQ2.out).trans qn)
  clear qn HQ2 HR1 HB1
  generalize w2.alloc (Obj.cells #[.slice B2 k2 kc2, .slice A2 n2 c2, .slice S2 m2 d2] 28) = y2 at *
  have c_2_0 := (HB2.out.2 0 _ rfl).1
  have c_2_1 := (HB2.out.2 1 _ rfl).1
  have c_2_2 := (HB2.out.2 2 _ rfl).1
  go_upto_region 4 with (go_at_call 11; refine (put11_c _ _ _ _ _ _ _ _ _ _ HR2.out).mono ?_; rintro e w3 ⟨B3, k3, kc3, A3, n3, c3, S3, m3, d3, rfl, hr3, q3⟩; have HR3 := Lib.hid hr3; have HQ3 := Lib.hid q3; clear hr3 q3)
  clear c_2_0 c_2_1 c_2_2
  have qn := (Q.refl w3).alloc (Obj.cells #[.slice B3 k3 kc3, .slice A3 n3 c3, .slice S3 m3 d3] 28)
  have HB3 := Lib.hid (Ex.own_new8 w3 [.slice B3 k3 kc3, .slice A3 n3 c3, .slice S3 m3 d3] 28)
  replace HR3 := Lib.hid (HR3.out.q qn)
  replace HQ := Lib.hid ((HQ.out.trans HQ3.out).trans qn)
  clear qn HQ3 HR2 HB2
  generalize w3.alloc (Obj.cells #[.slice B3 k3 kc3, .slice A3 n3 c3, .slice S3 m3 d3] 28) = y3 at *
  have c_3_0 := (HB3.out.2 0 _ rfl).1
  have c_3_1 := (HB3.out.2 1 _ rfl).1
  have c_3_2 := (HB3.out.2 2 _ rfl).1
  go_upto_region 5 with (go_at_call 12; refine (next11_a _ _ _ _ _ _ _ _ _ _ HR3.out).mono ?_; rintro e w4 ⟨B4, k4, kc4, A4, n4, c4, S4, m4, d4, rfl, hr4, q4⟩; have HR4 := Lib.hid hr4; have HQ4 := Lib.hid q4; clear hr4 q4)
  clear c_3_0 c_3_1 c_3_2
  have qn := ((Q.refl w4).alloc (Obj.cells #[.slice B4 k4 kc4, .slice A4 n4 c4, .slice S4 m4 d4] 28)).alloc (Obj.cells #[.int .i64 1, .int .i64 5] 30)
  have hx := Ex.own_new8 (w4.alloc (Obj.cells #[.slice B4 k4 kc4, .slice A4 n4 c4, .slice S4 m4 d4] 28)) [.int .i64 1, .int .i64 5] 30
  rw [show (w4.alloc (Obj.cells #[.slice B4 k4 kc4, .slice A4 n4 c4, .slice S4 m4 d4] 28)).heap.size = w4.heap.size + 1 by simp] at hx
  have HX := Lib.hid hx
  replace HR3 := Lib.hid (HR3.out.q (HQ4.out.trans qn))
  replace HB3 := Lib.hid (HB3.out.q (HQ4.out.trans qn))
  replace HQ := Lib.hid ((HQ.out.trans HQ4.out).trans qn)
  clear qn hx HQ4 HR4
  generalize (w4.alloc (Obj.cells #[.slice B4 k4 kc4, .slice A4 n4 c4, .slice S4 m4 d4] 28)).alloc (Obj.cells #[.int .i64 1, .int .i64 5] 30) = y4 at *
  have c_3_0 := (HB3.out.2 0 _ rfl).1
  have c_3_1 := (HB3.out.2 1 _ rfl).1
  have c_3_2 := (HB3.out.2 2 _ rfl).1
  have x0 := (HX.out.2 0 _ rfl).1
  have x1 := (HX.out.2 1 _ rfl).1
  have heq : ∀ u, (binOp .eql 30 (.agg #[.int .i64 1, .int .i64 5]) (.agg #[.int .i64 1, .int .i64 5])).run Try.prog u = .ok (.bool true) u := fun u => run_eql_pair u (1, 5) (1, 5)
  go_wp2_with (first
    | (go_at_call 21; refine (rightW_true _ _ _ _ _ _ _ _ _ [(1, 5), (2, 1)] [[2, 1], [1, 5]] _ HR3.out ok11_2 (by simp) (by simp)).mono ?_; rintro e w5 ⟨rfl, q5⟩; have x2 := ((HX.out.q q5).2 0 _ rfl).1; have x3 := ((HX.out.q q5).2 1 _ rfl).1)
    | (go_at_call 13; refine (less11_a _).mono ?_; rintro e w6 ⟨rfl, q6⟩))
  go_ret
  exact ⟨rfl, (HQ.out.trans q5).trans q6⟩
end Go.Proofs.Ytjgbheidkjgncaa.Wk

namespace Go.Proofs.Ytjgbheidkjgncaa.Rw
open Go.ChangeShapes Go.WideShapes Go.RowKit Kit Go.Deep Go.Joins

theorem weights_all {H : Type} {P : Program} {e : TypeId} : ∀ {ds : List (DataW H)} {d : DataW H}, d ∈ ds → ∀ n ∈ d.weights P e, n ∈ DataW.weightsAll P e ds
  | x :: l, d, h, n, hn => by
    simp only [DataW.weightsAll, List.mem_append]
    rcases List.mem_cons.1 h with rfl | h
    · exact .inl hn
    · exact .inr (weights_all h n hn)
section
variable {H : Type} {enc : TypeId × Value → H} {P : Program} {w : World} {base : Nat} {spare : Nat → Bool} {held : Bool}
end
end Go.Proofs.Ytjgbheidkjgncaa.Rw

namespace Go.Proofs.Ytjgbheidkjgncaa.Wk
open Go.ChangeShapes Go.WideShapes Go.RowKit Kit Rw Go.Deep Go.Joins
open Go.Proofs.Ytjgbheidkjgncaa.St
open Go.Proofs.Ytjgbheidkjgncaa.Hs (Keys Ints cells_int)
section
variable {H : Type} {enc : TypeId × Value → H} {W : World} {base : Nat}
theorem cells_pair : Try.prog.cellsOf 30 = 2 := by kernel_rfl
set_option maxRecDepth 100000 in
theorem trod_pair {n : Nat} {cs : List Value} {x : DataW H × List MemPlace} (h : DataW.trod enc Try.prog W 0 (fun _ => true) true n 30 cs = some x) : ∃ p : PI, cs = [.int .i64 p.1, .int .i64 p.2] := by
  obtain ⟨xs, m, _, _, hlen, hxs, hg⟩ := DataW.trod_array Try.underlying30 h
  rw [cells_pair] at hlen
  match cs, hlen with
  | [c0, c1], _ =>
    match xs, hxs with
    | [y0, y1], _ =>
      have g0 := hg 0 (by omega)
      have g1 := hg 1 (by omega)
      rw [cells_int] at g0 g1
      obtain ⟨u0, e0, _, _⟩ := DataW.trod_int Try.underlying3 (show DataW.trod enc Try.prog W 0 (fun _ => true) true m 3 [c0] = some y0 from g0)
      obtain ⟨u1, e1, _, _⟩ := DataW.trod_int Try.underlying3 (show DataW.trod enc Try.prog W 0 (fun _ => true) true m 3 [c1] = some y1 from g1)
      simp only [List.cons.injEq, and_true] at e0 e1
      exact ⟨(u0, u1), by rw [e0, e1]⟩
set_option maxRecDepth 100000 in
theorem open_pairs_cells {fuel : Nat} {v : Value} {x : DataW H × List MemPlace} (h : DataW.trod enc Try.prog W 0 (fun _ => true) true fuel 22 [v] = some x) :
    ∃ A n c l, v = .slice A n c ∧ n = l.length ∧ l.length ≤ c ∧ Rds W W.heap.size A (cellsQ l) ∧ l.length ≤ maxLen := by
  rcases open_slice Try.underlying22 h with ⟨hcs, hx⟩ | ⟨ad, len, cap, m, n, D, Pl, hcs, _, hl, hcm, hmm, _, hi⟩
  · obtain rfl : v = .slice none 0 0 := by simpa using hcs
    exact ⟨none, 0, 0, [], rfl, rfl, Nat.le_refl _, Rds.nil _ _ _, by simp⟩
  · obtain rfl : v = .slice (some ad) len cap := by simpa using hcs
    have hlm : len ≤ m := by rw [hmm]; split <;> omega
    rw [cells_pair] at hi
    have each : ∀ i, i < len → ∃ s : PI, W.cell? (ad.add (i * 2)) = some (.int .i64 s.1) ∧ W.cell? (ad.add (i * 2 + 1)) = some (.int .i64 s.2) := fun i hil => by
      obtain ⟨cs', hc, ht⟩ := hi i (by omega)
      obtain ⟨p, rfl⟩ := trod_pair ht
      obtain ⟨_, hcl, hat⟩ := World.cells?_some hc
      have h0 := hat 0 (by omega)
      have h1 := hat 1 (by omega)
      rw [Go.Deep.add_add] at h0 h1
      exact ⟨p, h0, h1⟩
    obtain ⟨q, hq⟩ := choose_lt each
    refine ⟨_, _, _, (List.range len).map q, rfl, by simp, by simpa using hl, fun h0 => ⟨ad, rfl, ?_, fun j v hv => ?_⟩, by simp; omega⟩
    · have h0' : 0 < len := by rw [cellsQ_len] at h0; simp at h0; omega
      have := World.block_lt_of_cell? W _ (hq 0 h0').1
      rwa [add_block] at this
    · have hj := (List.getElem?_eq_some_iff.1 hv).1
      rw [cellsQ_len, List.length_map, List.length_range] at hj
      have hd : j / 2 < len := by omega
      obtain ⟨c0, c1⟩ := hq (j / 2) hd
      rcases Nat.mod_two_eq_zero_or_one j with hm | hm
      · have e : j = j / 2 * 2 := by omega
        rw [e, cellsQ_0, List.getElem?_map, List.getElem?_range hd] at hv
        simp only [Option.map_some, Option.some.injEq] at hv
        rw [e, c0, hv]
      · have e : j = j / 2 * 2 + 1 := by omega
        rw [e, cellsQ_1, List.getElem?_map, List.getElem?_range hd] at hv
        simp only [Option.map_some, Option.some.injEq] at hv
        rw [e, c1, hv]
set_option maxRecDepth 100000 in
theorem open_pairs {v : Value} {d : DataW H} {p : List MemPlace} (hv : Value.okWide Try.prog W .any base 22 v) (h : DataW.Trod enc Try.prog W 0 (fun _ => true) true 22 v d p) :
    ∃ A n c l, v = .slice A n c ∧ n = l.length ∧ l.length ≤ c ∧ Rds W W.heap.size A (cellsQ l) ∧ l.length ≤ maxLen := by
  obtain ⟨a, len, cap, rfl⟩ := okWide_slice Try.underlying22 hv
  obtain ⟨fuel, hf⟩ := h
  exact open_pairs_cells hf
set_option maxRecDepth 100000 in
theorem open_pair11 {v : Value} {d : DataW H} {p : List MemPlace} (hv : Value.okWide Try.prog W .any base 30 v) (h : DataW.Trod enc Try.prog W 0 (fun _ => true) true 30 v d p) :
    ∃ q : PI, v = .agg #[.int .i64 q.1, .int .i64 q.2] := by
  simp only [Value.okWide, Try.underlying30] at hv
  obtain ⟨cs, rfl, _, _⟩ := hv
  obtain ⟨fuel, hf⟩ := h
  obtain ⟨q, hq⟩ := trod_pair hf
  refine ⟨q, ?_⟩
  obtain ⟨l⟩ := cs
  have hq : l = [.int .i64 q.1, .int .i64 q.2] := hq
  rw [hq]
set_option maxRecDepth 100000 in
theorem open_queue {v : Value} {d : DataW H} {p : List MemPlace} (hv : Value.okWide Try.prog W .any base 28 v) (h : DataW.Trod enc Try.prog W 0 (fun _ => true) true 28 v d p) (hz : ∀ n ∈ d.weights Try.prog 28, n ≤ reachBytes) :
    ∃ B A S k kc n c m e l ks sl, v = .agg #[.slice B k kc, .slice A n c, .slice S m e] ∧ QRd W B A S k kc n c m e l ks sl ∧ l.length ≤ maxLen ∧ ks.length ≤ 1152921504606846976 ∧ (∀ k ∈ ks, k.length ≤ 1152921504606846976) ∧ sl.length ≤ 1152921504606846976 := by
  obtain ⟨cs, rfl, hsz⟩ := okWide_struct Try.underlying28 hv
  obtain ⟨l⟩ := cs
  match l, hsz.trans (show Try.prog.cellsOf 28 = 3 by kernel_rfl) with
  | [c0, c1, c2], _ =>
    obtain ⟨fuel, hf⟩ := h
    obtain ⟨xs, n, _, hx, _, hlen, hg⟩ := DataW.trod_struct Try.underlying28 hf
    match xs, hlen with
    | [y0, y1], _ =>
      simp only [Prod.mk.injEq] at hx
      have t0 : DataW.trod enc Try.prog W 0 (fun _ => true) true n 22 [c0] = some y0 := by simpa [Value.cells, show Try.prog.cellsOf 22 = 1 by kernel_rfl] using hg 0 _ rfl
      have t1 : DataW.trod enc Try.prog W 0 (fun _ => true) true n 26 [c1, c2] = some y1 := by simpa [Value.cells, show Try.prog.cellsOf 26 = 2 by kernel_rfl] using hg 1 _ rfl
      obtain ⟨xs2, n2, _, hx2, _, hlen2, hg2⟩ := DataW.trod_struct Try.underlying26 t1
      match xs2, hlen2 with
      | [z0, z1], _ =>
        have s0 : DataW.trod enc Try.prog W 0 (fun _ => true) true n2 23 [c1] = some z0 := by simpa [Hs.cells_rows] using hg2 0 _ rfl
        have s1 : DataW.trod enc Try.prog W 0 (fun _ => true) true n2 24 [c2] = some z1 := by simpa [Hs.cells_ints] using hg2 1 _ rfl
        have hw : DataW.weights Try.prog 28 d = y0.1.weights Try.prog 22 ++ ((z0.1.weights Try.prog 23 ++ (z1.1.weights Try.prog 24 ++ [])) ++ []) := by
          rw [hx.1]
          simp [DataW.weights, Try.underlying28, Try.underlying26, DataW.weightsEach, hx2]
        rw [hw] at hz
        obtain ⟨B, k, kc, l, rfl, hk, hkc, hr, hll⟩ := open_pairs_cells t0
        obtain ⟨A, n', c, ks, rfl, hn, hK, hl, hs⟩ := Hs.open_rows_cells s0 (fun n hn => hz n (by simp [hn]))
        obtain ⟨S, m, e, sl, rfl, hm, _, hS, hsl⟩ := Hs.open_row_cells s1 (fun n hn => hz n (by simp [hn]))
        exact ⟨B, A, S, k, kc, n', c, m, e, l, ks, sl, rfl, ⟨hk, hn, hm, hkc, hr, hK, hS⟩, hll, hl, hs, hsl⟩
end
end Go.Proofs.Ytjgbheidkjgncaa.Wk

namespace Go.Proofs.Ytjgbheidkjgncaa.Wk
open Go.RowKit Kit Rw
open Go.Proofs.Ytjgbheidkjgncaa.St
open Go.Proofs.Ytjgbheidkjgncaa.Hs (Keys Ints atI rightB fewB refFew_any)
set_option maxHeartbeats 1000000 in
theorem refLess11_any (p q : PI) (w : World) :
    Calls Try.prog 24 #[.agg #[.int .i64 p.1, .int .i64 p.2], .agg #[.int .i64 q.1, .int .i64 q.2]] w fun e w' => e = .returned (.bool (decide (ltP p q))) ∧ Q w w' := by
  have q0 := ((Q.refl w).alloc (Obj.cells #[.int .i64 p.1, .int .i64 p.2] 30)).alloc (Obj.cells #[.int .i64 q.1, .int .i64 q.2] 30)
  have HQ0 := Lib.hid q0
  clear q0
  by_cases h1 : p.1 < q.1
  · have d1 : decide (p.1 < q.1) = true := decide_eq_true h1
    have HF : Hid (decide (ltP p q) = true) := decide_eq_true (.inl h1)
    clear h1
    go_enter Try.func24, Try.ntmps24
    go_wp2_with fail
    go_ret
    exact ⟨by rw [HF.out]; rfl, HQ0.out⟩
  · have d1 : decide (p.1 < q.1) = false := decide_eq_false h1
    by_cases h2 : p.1 = q.1
    · have d2 : (p.1 == q.1) = true := beq_iff_eq.2 h2
      by_cases h3 : p.2 < q.2
      · have d3 : decide (p.2 < q.2) = true := decide_eq_true h3
        have HF : Hid (decide (ltP p q) = true) := decide_eq_true (.inr ⟨h2, h3⟩)
        clear h1 h2 h3
        go_enter Try.func24, Try.ntmps24
        go_wp2_with fail
        go_ret
        exact ⟨by rw [HF.out]; rfl, HQ0.out⟩
      · have d3 : decide (p.2 < q.2) = false := decide_eq_false h3
        have HF : Hid (decide (ltP p q) = false) := decide_eq_false (fun h => h.elim h1 fun h => h3 h.2)
        clear h1 h2 h3
        go_enter Try.func24, Try.ntmps24
        go_wp2_with fail
        go_ret
        exact ⟨by rw [HF.out]; rfl, HQ0.out⟩
    · have d2 : (p.1 == q.1) = false := beq_eq_false_iff_ne.2 h2
      have HF : Hid (decide (ltP p q) = false) := decide_eq_false (fun h => h.elim h1 fun h => h2 h.1)
      clear h1 h2
      go_enter Try.func24, Try.ntmps24
      go_wp2_with fail
      go_ret
      exact ⟨by rw [HF.out]; rfl, HQ0.out⟩
set_option maxHeartbeats 1000000 in
theorem refFew11_any (B A S : Option Addr) (k kc n c m d : Nat) (ks : List (List Int)) (w : World) (hn : n = ks.length) (hk : Keys w w.heap.size A ks) (hl : ks.length ≤ 1152921504606846976) (hs : ∀ k ∈ ks, k.length ≤ 1152921504606846976) (hm : m ≤ 1152921504606846976) :
    Calls Try.prog 9 #[.agg #[.slice B k kc, .slice A n c, .slice S m d]] w fun e w' => e = .returned (.bool (fewB ks m && decide (k ≤ 300))) ∧ Q w w' := by
  subst hn
  have q0 := (Q.refl w).alloc (Obj.cells #[.slice B k kc, .slice A ks.length c, .slice S m d] 28)
  have HX := Lib.hid (Ex.own_new8 w [.slice B k kc, .slice A ks.length c, .slice S m d] 28)
  have CF := Lib.hid (refFew_any A S ks.length c m d ks _ rfl ((hk.q (Nat.le_refl _) q0).more q0.size) hl hs hm)
  have HQ0 := Lib.hid q0
  have HF : Hid ((fewB ks m && decide (k ≤ 300)) = (fewB ks m && decide (k ≤ 300))) := rfl
  clear hk hl hs hm q0
  cases hf : fewB ks m
  · rw [hf] at CF HF
    clear hf
    go_enter Try.func9, Try.ntmps9
    go_upto_region 1 with fail
    generalize w.alloc (Obj.cells #[.slice B k kc, .slice A ks.length c, .slice S m d] 28) = W at *
    have x0 := (HX.out.2 0 _ rfl).1
    have x1 := (HX.out.2 1 _ rfl).1
    have x2 := (HX.out.2 2 _ rfl).1
    go_wp2_with fail
    refine CF.out.mono ?_
    rintro e w1 ⟨rfl, q1⟩
    have p1 := Lib.hid (HQ0.out.trans q1)
    clear x0 x1 x2 q1
    go_wp2_with fail
    go_ret
    exact ⟨by simp, p1.out⟩
  · rw [hf] at CF HF
    clear hf
    go_enter Try.func9, Try.ntmps9
    go_upto_region 1 with fail
    generalize w.alloc (Obj.cells #[.slice B k kc, .slice A ks.length c, .slice S m d] 28) = W at *
    have x0 := (HX.out.2 0 _ rfl).1
    have x1 := (HX.out.2 1 _ rfl).1
    have x2 := (HX.out.2 2 _ rfl).1
    go_wp2_with fail
    refine CF.out.mono ?_
    rintro e w1 ⟨rfl, q1⟩
    have p1 := Lib.hid (HQ0.out.trans q1)
    clear x0 x1 x2
    have x0 := ((HX.out.q q1).2 0 _ rfl).1
    clear q1
    go_wp2_with fail
    go_ret
    exact ⟨by simp; omega, p1.out⟩
end Go.Proofs.Ytjgbheidkjgncaa.Wk
