/-
  What the proofs lean on, part 11 of 16.
-/
import Derived.Test.YtjehccemilefgaaPg
import Derived.Test.YtjehccemilefgaaPj
namespace Go.Proofs.Ytjehccemilefgaa.St
open Go.RowKit Kit Rw
open Go.Proofs.Ytjehccemilefgaa.Sg (Sig Row)
open Go.Proofs.Ytjehccemilefgaa.Hs (Ints Keys BoxT)
open Go.Proofs.Ytjehccemilefgaa.Tm (Tm Store termAt Box4 isPl isPl_iff)
set_option maxRecDepth 100000 in
set_option maxHeartbeats 4000000 in
theorem partOfCon10_any (B : Nat) (R : Option Addr) (cl : Nat) (L : List Sig) (x y : Int) (s : Tm) (A1 : Option Addr) (c1 : Nat) (t : Tm) (A2 : Option Addr) (c2 : Nat) (w : World) (h : PairB w B R cl L x y s A1 c1 t A2 c2) (b : Nat) (ht : TOk L b t) (h6 : t.k = 6) (hl8 : ∀ s ∈ L, s.2.size ≤ 8) (m : Nat) (hm : t.p = (m : Int)) (hms : m < s.xs.length) :
    Calls Try.prog 56 #[.pointer (some ⟨B, 0, none⟩)] w (WayPost (1, pairsA (s.xs[m]?.getD 0, t.xs.headD 0) (t.xs.headD 0, s.xs[m]?.getD 0) (varyN L t.s t.p.toNat)) w) := by
  have q0 := (Q.refl w).alloc (Obj.cells #[.int .i64 0, .slice none 0 0] 33)
  have HB := Lib.hid (h.q q0)
  have HQ0 := Lib.hid q0
  have HR8 := Lib.hid (way_kind w)
  clear h q0
  obtain ⟨e, hxs⟩ : ∃ e, t.xs = [e] := by
    cases ht with
    | leaf _ h => omega
    | con j h h3 => omega
    | two a b h => omega
    | proj j m h e _ _ _ _ hx => exact ⟨e, hx⟩
  have HT := Lib.hid ht
  have H6 := Lib.hid h6
  have H8 := Lib.hid hl8
  have HXS := Lib.hid hxs
  have HL1 : Hid (t.xs.length = 1) := by unfold Hid; rw [hxs]; rfl
  obtain ⟨a, ha⟩ : ∃ a, s.xs[m] = a := ⟨_, rfl⟩
  have HSM : Hid (s.xs[m]?.getD 0 = a) := by unfold Hid; rw [List.getElem?_eq_getElem hms, ha]; rfl
  have HW : Hid (pairsA (s.xs[m]?.getD 0, t.xs.headD 0) (t.xs.headD 0, s.xs[m]?.getD 0) (varyN L t.s t.p.toNat) = pairsA (a, e) (e, a) (varyN L t.s t.p.toNat)) := by unfold Hid; rw [hxs, HSM.out]; rfl
  obtain ⟨RS, hRS⟩ : ∃ r, pairsA (s.xs[m]?.getD 0, t.xs.headD 0) (t.xs.headD 0, s.xs[m]?.getD 0) (varyN L t.s t.p.toNat) = r := ⟨_, rfl⟩
  rw [hRS] at HW ⊢
  clear ht h6 hl8 hRS
  go_enter Try.func56, Try.ntmps56
  go_upto_region 1 with fail
  generalize w.alloc (Obj.cells #[.int .i64 0, .slice none 0 0] 33) = W at *
  have hx10 : W.cell? ⟨B, 10, none⟩ = some (.slice A2 1 c2) := (HB.out.box.2 10 _ rfl).1.trans (by rw [HL1.out])
  have x0 := (HB.out.box.2 0 _ rfl).1
  have x1 := (HB.out.box.2 1 _ rfl).1
  have x7 := (HB.out.box.2 7 _ rfl).1
  have x8 := (HB.out.box.2 8 _ rfl).1
  have x9 := (HB.out.box.2 9 _ rfl).1
  have hBl := HB.out.box.1
  have hS : Hid (∀ U, Q W U → (U.cell? ⟨B, 0, none⟩ = some (.slice R L.length cl) ∧ U.cell? ⟨B, 7, none⟩ = some (.int .i64 t.k) ∧ U.cell? ⟨B, 8, none⟩ = some (.int .i64 t.s) ∧ U.cell? ⟨B, 9, none⟩ = some (.int .i64 t.p) ∧ U.cell? ⟨B, 10, none⟩ = some (.slice A2 1 c2))) := fun U q => ⟨(q.cell (p := ⟨B, 0, none⟩) hBl).trans x0, (q.cell (p := ⟨B, 7, none⟩) hBl).trans x7, (q.cell (p := ⟨B, 8, none⟩) hBl).trans x8, (q.cell (p := ⟨B, 9, none⟩) hBl).trans x9, (q.cell (p := ⟨B, 10, none⟩) hBl).trans hx10⟩
  obtain ⟨ad, rfl, had, e0⟩ := HB.out.i2.at_ (k := 0) (by rw [HL1.out]; omega)
  have e1 : W.cell? ad = some (.int .i64 e) := by
    have := e0
    simp only [HXS.out] at this
    simpa [Addr.add] using this
  obtain ⟨ad1, rfl, had1, f0⟩ := HB.out.i1.at_ (k := m) hms
  have f1 : W.cell? (ad1.add m) = some (.int .i64 a) := by rw [← ha]; exact f0
  have x6 := (HB.out.box.2 6 _ rfl).1
  have g0 : (m : Int) < (s.xs.length : Int) := by omega
  have g1 : (0 : Int) ≤ (m : Int) := Int.natCast_nonneg _
  have x9m : W.cell? ⟨B, 9, none⟩ = some (.int .i64 (m : Int)) := x9.trans (by rw [hm])
  clear f0
  clear e0 hxs
  have hS1 : (W.drew.cell? ⟨B, 6, none⟩ = some (.slice (some ad1) s.xs.length c1) ∧ W.drew.cell? ⟨B, 9, none⟩ = some (.int .i64 (m : Int)) ∧ W.drew.cell? ⟨B, 10, none⟩ = some (.slice (some ad) 1 c2) ∧ W.drew.cell? ad = some (.int .i64 e) ∧ W.drew.cell? (ad1.add m) = some (.int .i64 a)) := ⟨x6, x9m, hx10, e1, f1⟩
  have hSd : Hid (∀ U, Q W.drew U → (U.cell? ⟨B, 0, none⟩ = some (.slice R L.length cl) ∧ U.cell? ⟨B, 7, none⟩ = some (.int .i64 t.k) ∧ U.cell? ⟨B, 8, none⟩ = some (.int .i64 t.s) ∧ U.cell? ⟨B, 9, none⟩ = some (.int .i64 t.p) ∧ U.cell? ⟨B, 10, none⟩ = some (.slice (some ad) 1 c2))) := fun U q => hS.out U ((Q.refl W).drew.trans q)
  have HBd := Lib.hid (HB.out.q (Q.refl W).drew)
  have HQ0d := Lib.hid (HQ0.out.drew)
  have HR8d := Lib.hid (HR8.out.q (Q.refl W).drew)
  clear HB HQ0 HR8 hS x0 x1 x6 x7 x8 x9 x9m hx10 hBl e1 f1 had had1 hm
  refine wp_region_held_drew (S := fun w' => w'.cell? ⟨B, 6, none⟩ = some (.slice (some ad1) s.xs.length c1) ∧ w'.cell? ⟨B, 9, none⟩ = some (.int .i64 (m : Int)) ∧ w'.cell? ⟨B, 10, none⟩ = some (.slice (some ad) 1 c2) ∧ w'.cell? ad = some (.int .i64 e) ∧ w'.cell? (ad1.add m) = some (.int .i64 a)) (by kernel_rfl) ?_ (fun hHeld => ?_)
  · exact hS1
  refine take_w (i := 0) (d := some 6) (v := ?_) rfl (by kernel_rfl) (by kernel_rfl) (by kernel_rfl) (fun _ _ _ h => h) rfl (by rfl) ?_ (by assumption) ?_
  rotate_left
  · (intro w hSw; (try dsimp only at hSw); go_simp; (try with_reducible rfl))
  try simp only [Act.put, List.setIfInBounds_toArray, List.set_cons_zero, List.set_cons_succ]
  refine take_w (i := 1) (d := some 7) (v := ?_) rfl (by kernel_rfl) (by kernel_rfl) (by kernel_rfl) (fun _ _ _ h => h) rfl (by rfl) ?_ (by assumption) ?_
  rotate_left
  · (intro w hSw; (try dsimp only at hSw); go_simp; (try with_reducible rfl))
  try simp only [Act.put, List.setIfInBounds_toArray, List.set_cons_zero, List.set_cons_succ]
  refine take_w (i := 2) (d := some 8) (v := ?_) rfl (by kernel_rfl) (by kernel_rfl) (by kernel_rfl) (fun _ _ _ h => h) rfl (by rfl) ?_ (by assumption) ?_
  rotate_left
  · (intro w hSw; (try dsimp only at hSw); go_simp; (try with_reducible rfl))
  try simp only [Act.put, List.setIfInBounds_toArray, List.set_cons_zero, List.set_cons_succ]
  refine take_w (i := 3) (d := some 9) (v := ?_) rfl (by kernel_rfl) (by kernel_rfl) (by kernel_rfl) (fun _ _ _ h => h) rfl (by rfl) ?_ (by assumption) ?_
  rotate_left
  · (intro w hSw; (try dsimp only at hSw); go_simp; (try with_reducible rfl))
  try simp only [Act.put, List.setIfInBounds_toArray, List.set_cons_zero, List.set_cons_succ]
  refine take_w (i := 4) (d := some 10) (v := ?_) rfl (by kernel_rfl) (by kernel_rfl) (by kernel_rfl) (fun _ _ _ h => h) rfl (by rfl) ?_ (by assumption) ?_
  rotate_left
  · (intro w hSw; (try dsimp only at hSw); go_simp; (try with_reducible rfl))
  try simp only [Act.put, List.setIfInBounds_toArray, List.set_cons_zero, List.set_cons_succ]
  refine take_w (i := 5) (d := some 11) (v := ?_) rfl (by kernel_rfl) (by kernel_rfl) (by kernel_rfl) (fun _ _ _ h => h) rfl (by rfl) ?_ (by assumption) ?_
  rotate_left
  · (intro w hSw; (try dsimp only at hSw); go_simp; (try with_reducible rfl))
  try simp only [Act.put, List.setIfInBounds_toArray, List.set_cons_zero, List.set_cons_succ]
  refine take_w (i := 6) (d := some 12) (v := ?_) rfl (by kernel_rfl) (by kernel_rfl) (by kernel_rfl) (fun _ _ _ h => h) rfl (by rfl) ?_ (by assumption) ?_
  rotate_left
  · (intro w hSw; (try dsimp only at hSw); go_simp; (try with_reducible rfl))
  try simp only [Act.put, List.setIfInBounds_toArray, List.set_cons_zero, List.set_cons_succ]
  refine take_w (i := 7) (d := some 13) (v := ?_) rfl (by kernel_rfl) (by kernel_rfl) (by kernel_rfl) (fun _ _ _ h => h) rfl (by rfl) ?_ (by assumption) ?_
  rotate_left
  · (intro w hSw; (try dsimp only at hSw); go_simp; (try with_reducible rfl))
  try simp only [Act.put, List.setIfInBounds_toArray, List.set_cons_zero, List.set_cons_succ]
  refine take_w (i := 8) (d := some 14) (v := ?_) rfl (by kernel_rfl) (by kernel_rfl) (by kernel_rfl) (fun _ _ _ h => h) rfl (by rfl) ?_ (by assumption) ?_
  rotate_left
  · (intro w hSw; (try dsimp only at hSw); go_simp; (try with_reducible rfl))
  try simp only [Act.put, List.setIfInBounds_toArray, List.set_cons_zero, List.set_cons_succ]
  refine take_w (i := 9) (d := some 15) (v := ?_) rfl (by kernel_rfl) (by kernel_rfl) (by kernel_rfl) (fun _ _ _ h => h) rfl (by rfl) ?_ (by assumption) ?_
  rotate_left
  · (intro w hSw; (try dsimp only at hSw); go_simp; (try with_reducible rfl))
  try simp only [Act.put, List.setIfInBounds_toArray, List.set_cons_zero, List.set_cons_succ]
  refine take_w (i := 10) (d := some 16) (v := ?_) rfl (by kernel_rfl) (by kernel_rfl) (by kernel_rfl) (fun _ _ _ h => h) rfl (by rfl) ?_ (by assumption) ?_
  rotate_left
  · (intro w hSw; (try dsimp only at hSw); go_simp; (try with_reducible rfl))
  try simp only [Act.put, List.setIfInBounds_toArray, List.set_cons_zero, List.set_cons_succ]
  refine take_w (i := 11) (d := some 17) (v := ?_) rfl (by kernel_rfl) (by kernel_rfl) (by kernel_rfl) (fun _ _ _ h => h) rfl (by rfl) ?_ (by assumption) ?_
  rotate_left
  · (intro w hSw; (try dsimp only at hSw); go_simp; (try with_reducible rfl))
  try simp only [Act.put, List.setIfInBounds_toArray, List.set_cons_zero, List.set_cons_succ]
  refine take_w (i := 12) (d := some 18) (v := ?_) rfl (by kernel_rfl) (by kernel_rfl) (by kernel_rfl) (fun _ _ _ h => h) rfl (by rfl) ?_ (by assumption) ?_
  rotate_left
  · (intro w hSw; (try dsimp only at hSw); go_simp; (try with_reducible rfl))
  try simp only [Act.put, List.setIfInBounds_toArray, List.set_cons_zero, List.set_cons_succ]
  refine take_w (i := 13) (d := some 19) (v := ?_) rfl (by kernel_rfl) (by kernel_rfl) (by kernel_rfl) (fun _ _ _ h => h) rfl (by rfl) ?_ (by assumption) ?_
  rotate_left
  · (intro w hSw; (try dsimp only at hSw); go_simp; (try with_reducible rfl))
  try simp only [Act.put, List.setIfInBounds_toArray, List.set_cons_zero, List.set_cons_succ]
  refine take_w (i := 14) (d := some 20) (v := ?_) rfl (by kernel_rfl) (by kernel_rfl) (by kernel_rfl) (fun _ _ _ h => h) rfl (by rfl) ?_ (by assumption) ?_
  rotate_left
  · (intro w hSw; (try dsimp only at hSw); go_simp; (try with_reducible rfl))
  try simp only [Act.put, List.setIfInBounds_toArray, List.set_cons_zero, List.set_cons_succ]
  refine take_w (i := 15) (d := some 21) (v := ?_) rfl (by kernel_rfl) (by kernel_rfl) (by kernel_rfl) (fun _ _ _ h => h) rfl (by rfl) ?_ (by assumption) ?_
  rotate_left
  · (intro w hSw; (try dsimp only at hSw); go_simp; (try with_reducible rfl))
  try simp only [Act.put, List.setIfInBounds_toArray, List.set_cons_zero, List.set_cons_succ]
  refine take_w (i := 16) (d := some 22) (v := ?_) rfl (by kernel_rfl) (by kernel_rfl) (by kernel_rfl) (fun _ _ _ h => h) rfl (by rfl) ?_ (by assumption) ?_
  rotate_left
  · (intro w hSw; (try dsimp only at hSw); go_simp; (try with_reducible rfl))
  try simp only [Act.put, List.setIfInBounds_toArray, List.set_cons_zero, List.set_cons_succ]
  refine take_w (i := 17) (d := some 23) (v := ?_) rfl (by kernel_rfl) (by kernel_rfl) (by kernel_rfl) (fun _ _ _ h => h) rfl (by rfl) ?_ (by assumption) ?_
  rotate_left
  · (intro w hSw; (try dsimp only at hSw); go_simp; (try with_reducible rfl))
  try simp only [Act.put, List.setIfInBounds_toArray, List.set_cons_zero, List.set_cons_succ]
  refine take_w (i := 18) (d := some 24) (v := ?_) rfl (by kernel_rfl) (by kernel_rfl) (by kernel_rfl) (fun _ _ _ h => h) rfl (by rfl) ?_ (by assumption) ?_
  rotate_left
  · (intro w hSw; (try dsimp only at hSw); go_simp; (try with_reducible rfl))
  try simp only [Act.put, List.setIfInBounds_toArray, List.set_cons_zero, List.set_cons_succ]
  refine take_w (i := 19) (d := some 3) (v := ?_) rfl (by kernel_rfl) (by kernel_rfl) (by kernel_rfl) (fun _ _ _ h => h) rfl (by rfl) ?_ (by assumption) ?_
  rotate_left
  · (intro w hSw; (try dsimp only at hSw); go_simp; (try with_reducible rfl))
  try simp only [Act.put, List.setIfInBounds_toArray, List.set_cons_zero, List.set_cons_succ]
  refine take_w (i := 20) (d := some 4) (v := ?_) rfl (by kernel_rfl) (by kernel_rfl) (by kernel_rfl) (fun _ _ _ h => h) rfl (by rfl) ?_ (by assumption) ?_
  rotate_left
  · (intro w hSw; (try dsimp only at hSw); go_simp; (try with_reducible rfl))
  try simp only [Act.put, List.setIfInBounds_toArray, List.set_cons_zero, List.set_cons_succ]
  refine wpAnyH_done (by kernel_rfl) ?_ _
  clear hS1
  go_upto_region 2 with fail
  generalize W.drew = W at *
  have HB := HBd
  have HQ0 := HQ0d
  have HR8 := HR8d
  have hS := hSd
  clear HBd HQ0d HR8d hSd
  have CV := Lib.hid (fun U (q : Q W U) => vary10_any R (some ad) L.length cl 1 c2 b L t U rfl (HB.out.q q).row HT.out H8.out)
  have CW := Lib.hid (fun U (q : Q W U) v => varied10_any W.heap.size [] (.slice none 0 0) v (a, e) (e, a) U (own_nil U _ _ _) q.size (by simp))
  refine wp_region_held_drew (S := fun w' => w'.cell? ⟨B, 0, none⟩ = some (.slice R L.length cl) ∧ w'.cell? ⟨B, 7, none⟩ = some (.int .i64 t.k) ∧ w'.cell? ⟨B, 8, none⟩ = some (.int .i64 t.s) ∧ w'.cell? ⟨B, 9, none⟩ = some (.int .i64 t.p) ∧ w'.cell? ⟨B, 10, none⟩ = some (.slice (some ad) 1 c2)) (by kernel_rfl) ?_ (fun hHeld => ?_)
  · exact hS.out _ (Q.refl W).drew
  refine take_w (i := 0) (d := some 25) (v := ?_) rfl (by kernel_rfl) (by kernel_rfl) (by kernel_rfl) (fun _ _ _ h => h) rfl (by rfl) ?_ (by assumption) ?_
  rotate_left
  · (intro w hSw; (try dsimp only at hSw); go_simp; (try with_reducible rfl))
  try simp only [Act.put, List.setIfInBounds_toArray, List.set_cons_zero, List.set_cons_succ]
  refine take_w (i := 1) (d := some 26) (v := ?_) rfl (by kernel_rfl) (by kernel_rfl) (by kernel_rfl) (fun _ _ _ h => h) rfl (by rfl) ?_ (by assumption) ?_
  rotate_left
  · (intro w hSw; (try dsimp only at hSw); go_simp; (try with_reducible rfl))
  try simp only [Act.put, List.setIfInBounds_toArray, List.set_cons_zero, List.set_cons_succ]
  refine take_w (i := 2) (d := some 27) (v := ?_) rfl (by kernel_rfl) (by kernel_rfl) (by kernel_rfl) (fun _ _ _ h => h) rfl (by rfl) ?_ (by assumption) ?_
  rotate_left
  · (intro w hSw; (try dsimp only at hSw); go_simp; (try with_reducible rfl))
  try simp only [Act.put, List.setIfInBounds_toArray, List.set_cons_zero, List.set_cons_succ]
  refine take_w (i := 3) (d := some 28) (v := ?_) rfl (by kernel_rfl) (by kernel_rfl) (by kernel_rfl) (fun _ _ _ h => h) rfl (by rfl) ?_ (by assumption) ?_
  rotate_left
  · (intro w hSw; (try dsimp only at hSw); go_simp; (try with_reducible rfl))
  try simp only [Act.put, List.setIfInBounds_toArray, List.set_cons_zero, List.set_cons_succ]
  refine take_w (i := 4) (d := some 29) (v := ?_) rfl (by kernel_rfl) (by kernel_rfl) (by kernel_rfl) (fun _ _ _ h => h) rfl (by rfl) ?_ (by assumption) ?_
  rotate_left
  · (intro w hSw; (try dsimp only at hSw); go_simp; (try with_reducible rfl))
  try simp only [Act.put, List.setIfInBounds_toArray, List.set_cons_zero, List.set_cons_succ]
  refine take_w (i := 5) (d := some 30) (v := ?_) rfl (by kernel_rfl) (by kernel_rfl) (by kernel_rfl) (fun _ _ _ h => h) rfl (by rfl) ?_ (by assumption) ?_
  rotate_left
  · (intro w hSw; (try dsimp only at hSw); go_simp; (try with_reducible rfl))
  try simp only [Act.put, List.setIfInBounds_toArray, List.set_cons_zero, List.set_cons_succ]
  refine take_w (i := 6) (d := some 31) (v := ?_) rfl (by kernel_rfl) (by kernel_rfl) (by kernel_rfl) (fun _ _ _ h => h) rfl (by rfl) ?_ (by assumption) ?_
  rotate_left
  · (intro w hSw; (try dsimp only at hSw); go_simp; (try with_reducible rfl))
  try simp only [Act.put, List.setIfInBounds_toArray, List.set_cons_zero, List.set_cons_succ]
  refine take_w (i := 7) (d := some 32) (v := ?_) rfl (by kernel_rfl) (by kernel_rfl) (by kernel_rfl) (fun _ _ _ h => h) rfl (by rfl) ?_ (by assumption) ?_
  rotate_left
  · (intro w hSw; (try dsimp only at hSw); go_simp; (try with_reducible rfl))
  try simp only [Act.put, List.setIfInBounds_toArray, List.set_cons_zero, List.set_cons_succ]
  refine take_w (i := 10) (d := some 35) (v := ?_) rfl (by kernel_rfl) (by kernel_rfl) (by kernel_rfl) (fun _ _ _ h => h) rfl (by rfl) ?_ (by assumption) ?_
  rotate_left
  · (intro w hSw; (try dsimp only at hSw); go_simp; (try with_reducible rfl))
  try simp only [Act.put, List.setIfInBounds_toArray, List.set_cons_zero, List.set_cons_succ]
  refine take_w (i := 11) (d := some 36) (v := ?_) rfl (by kernel_rfl) (by kernel_rfl) (by kernel_rfl) (fun _ _ _ h => h) rfl (by rfl) ?_ (by assumption) ?_
  rotate_left
  · (intro w hSw; (try dsimp only at hSw); go_simp; (try with_reducible rfl))
  try simp only [Act.put, List.setIfInBounds_toArray, List.set_cons_zero, List.set_cons_succ]
  refine take_w (i := 12) (d := some 37) (v := ?_) rfl (by kernel_rfl) (by kernel_rfl) (by kernel_rfl) (fun _ _ _ h => h) rfl (by rfl) ?_ (by assumption) ?_
  rotate_left
  · (intro w hSw; (try dsimp only at hSw); go_simp; (try with_reducible rfl))
  try simp only [Act.put, List.setIfInBounds_toArray, List.set_cons_zero, List.set_cons_succ]
  refine take_w (i := 13) (d := some 38) (v := ?_) rfl (by kernel_rfl) (by kernel_rfl) (by kernel_rfl) (fun _ _ _ h => h) rfl (by rfl) ?_ (by assumption) ?_
  rotate_left
  · (intro w hSw; (try dsimp only at hSw); go_simp; (try with_reducible rfl))
  try simp only [Act.put, List.setIfInBounds_toArray, List.set_cons_zero, List.set_cons_succ]
  refine take_w (i := 14) (d := some 39) (v := ?_) rfl (by kernel_rfl) (by kernel_rfl) (by kernel_rfl) (fun _ _ _ h => h) rfl (by rfl) ?_ (by assumption) ?_
  rotate_left
  · (intro w hSw; (try dsimp only at hSw); go_simp; (try with_reducible rfl))
  try simp only [Act.put, List.setIfInBounds_toArray, List.set_cons_zero, List.set_cons_succ]
  refine take_w (i := 15) (d := some 40) (v := ?_) rfl (by kernel_rfl) (by kernel_rfl) (by kernel_rfl) (fun _ _ _ h => h) rfl (by rfl) ?_ (by assumption) ?_
  rotate_left
  · (intro w hSw; (try dsimp only at hSw); go_simp; (try with_reducible rfl))
  try simp only [Act.put, List.setIfInBounds_toArray, List.set_cons_zero, List.set_cons_succ]
  refine call_w (i := 8) rfl (by kernel_rfl) (by rfl) (fun K hK => ?_)
  go_simp
  go_at_call 33
  refine (CV.out _ (Q.refl W).drew).mono ?_
  rintro e5 w5 ⟨bs, rfl, hvb, hv6, q5⟩
  have p5 := (Q.refl W).drew.trans q5
  obtain ⟨hb0, hb1⟩ := hv6 H6.out
  have hb2 : (0 : Int) < (bs.size : Int) := by omega
  have HB1 := Lib.hid (hb1 hb0)
  clear hb1 hvb hv6
  refine hK.out _ _ ?_ (fun hHeld => ?_)
  · exact hS.out _ p5
  clear hK K
  try simp only [Act.put, List.setIfInBounds_toArray, List.set_cons_zero, List.set_cons_succ]
  refine take_w (i := 9) (d := some 34) (v := ?_) rfl (by kernel_rfl) (by kernel_rfl) (by kernel_rfl) (fun _ _ _ h => h) rfl (by rfl) ?_ (by assumption) ?_
  rotate_left
  · (intro w hSw; (try dsimp only at hSw); go_simp; (try with_reducible rfl))
  try simp only [Act.put, List.setIfInBounds_toArray, List.set_cons_zero, List.set_cons_succ]
  refine call_w (i := 16) rfl (by kernel_rfl) (by rfl) (fun K hK => ?_)
  go_simp
  go_at_call 71
  refine (CW.out _ p5 _).mono ?_
  rintro e6 w6 ⟨v6, rfl, own6, b6⟩
  have p6 : Q W w6 := Below.trans p5 b6
  have Own := Lib.hid own6
  clear own6 b6
  refine hK.out _ _ ?_ (fun hHeld => ?_)
  · exact hS.out _ p6
  clear hK K
  try simp only [Act.put, List.setIfInBounds_toArray, List.set_cons_zero, List.set_cons_succ]
  refine take_w (i := 17) (d := some 5) (v := ?_) rfl (by kernel_rfl) (by kernel_rfl) (by kernel_rfl) (fun _ _ _ h => h) rfl (by rfl) ?_ (by assumption) ?_
  rotate_left
  · (intro w hSw; (try dsimp only at hSw); go_simp; (try with_reducible rfl))
  try simp only [Act.put, List.setIfInBounds_toArray, List.set_cons_zero, List.set_cons_succ]
  refine wpAnyH_done (by kernel_rfl) ?_ _
  obtain ⟨A5, c5, rfl, hr5, hA5⟩ := own_open Own.out
  obtain ⟨z00, z01⟩ := (HR8.out.q p6).2 0 _ rfl
  obtain ⟨z10, z11⟩ := (HR8.out.q p6).2 1 _ rfl
  have HF : Hid (RS = [] ++ pairsA (a, e) (e, a) bs[0]) := by unfold Hid; rw [HW.out, ← HB1.out]; rfl
  obtain ⟨⟨y0, y1⟩, hrd, hqw⟩ := way_close (w := w) (l := [] ++ pairsA (a, e) (e, a) bs[0]) (.int .i64 1) (.slice A5 ([] ++ pairsA (a, e) (e, a) bs[0]).length c5) (HR8.out.q p6) (Nat.le_refl _) (HQ0.out.trans p6) hr5 (fun _ ad ha => Nat.ne_of_gt (Nat.lt_of_lt_of_le HR8.out.1 (hA5 ad ha)))
  have Y0 := Lib.hid y0
  have Y1 := Lib.hid y1
  have HRD := Lib.hid hrd
  have HQW := Lib.hid hqw
  have HFA := Lib.hid hA5
  clear y0 y1 hrd hqw hr5 hA5
  generalize [] ++ pairsA (a, e) (e, a) bs[0] = P at *
  go_wp2_with fail
  have y0 := Y0.out
  have y1 := Y1.out
  exact bodyPost_ret (v := .agg #[.int .i64 1, .slice A5 P.length c5]) (by simp [results, Try.f56, go_sem, y0, y1]) rfl ⟨_, _, by rw [HF.out], by rw [HF.out]; exact HRD.out, HQW.out, fun ad ha => Nat.le_trans HQ0.out.size (HFA.out ad ha)⟩
end Go.Proofs.Ytjehccemilefgaa.St

namespace Go.Proofs.Ytjehccemilefgaa.St
open Go.RowKit Kit Rw
open Go.Proofs.Ytjehccemilefgaa.Sg (Sig Row)
open Go.Proofs.Ytjehccemilefgaa.Hs (Ints Keys BoxT)
open Go.Proofs.Ytjehccemilefgaa.Tm (Tm Store termAt Box4 isPl isPl_iff)
set_option maxRecDepth 100000 in
set_option maxHeartbeats 4000000 in
theorem eachOfBoth10_any (B : Nat) (R : Option Addr) (cl : Nat) (L : List Sig) (x y : Int) (s : Tm) (A1 : Option Addr) (c1 : Nat) (t : Tm) (A2 : Option Addr) (c2 : Nat) (w : World) (h : PairB w B R cl L x y s A1 c1 t A2 c2) (a b : Nat) (hs : TOk L a s) (ht : TOk L b t) (k3 : s.k = 3) (m3 : t.k = 3) (hss : s.s = t.s) (hl8 : ∀ s ∈ L, s.2.size ≤ 8) :
    Calls Try.prog 57 #[.pointer (some ⟨B, 0, none⟩)] w (WayPost (1, conF L s.s 0 s.xs t.xs) w) := by
  have q0 := (Q.refl w).alloc (Obj.cells #[.int .i64 0, .slice none 0 0] 33)
  have HB := Lib.hid (h.q q0)
  have HQ0 := Lib.hid q0
  have HR8 := Lib.hid (way_kind w)
  clear h q0
  obtain ⟨j1, hj1, es, hls⟩ : ∃ (j1 : Nat) (h : j1 < L.length), s.s = (j1 : Int) ∧ s.xs.length = L[j1].2.size := by
    cases hs with
    | leaf _ h => omega
    | con j h _ a b _ => exact ⟨j, h, a, b⟩
    | two _ _ h => omega
    | proj j m h e h6 => omega
  obtain ⟨j2, hj2, et, hlt⟩ : ∃ (j2 : Nat) (h : j2 < L.length), t.s = (j2 : Int) ∧ t.xs.length = L[j2].2.size := by
    cases ht with
    | leaf _ h => omega
    | con j h _ a b _ => exact ⟨j, h, a, b⟩
    | two _ _ h => omega
    | proj j m h e h6 => omega
  obtain rfl : j1 = j2 := by omega
  have hll : t.xs.length = s.xs.length := by rw [hlt, hls]
  have h8 : s.xs.length ≤ 8 := by rw [hls]; exact hl8 _ (List.getElem_mem hj1)
  have HT := Lib.hid hs
  have H8 := Lib.hid hl8
  have HLL := Lib.hid hll
  have K3 := Lib.hid k3
  clear hs ht hl8 hlt hls es et hss m3 k3 hll
  go_enter Try.func57, Try.ntmps57
  go_upto_region 2 with fail
  generalize w.alloc (Obj.cells #[.int .i64 0, .slice none 0 0] 33) = W at *
  have hS : Hid (∀ U, Q W U → (U.cell? ⟨B, 0, none⟩ = some (.slice R L.length cl) ∧ U.cell? ⟨B, 3, none⟩ = some (.int .i64 s.k) ∧ U.cell? ⟨B, 4, none⟩ = some (.int .i64 s.s) ∧ U.cell? ⟨B, 5, none⟩ = some (.int .i64 s.p) ∧ U.cell? ⟨B, 6, none⟩ = some (.slice A1 s.xs.length c1))) := fun U q => ⟨((HB.out.q q).box.2 0 _ rfl).1, ((HB.out.q q).box.2 3 _ rfl).1, ((HB.out.q q).box.2 4 _ rfl).1, ((HB.out.q q).box.2 5 _ rfl).1, ((HB.out.q q).box.2 6 _ rfl).1⟩
  have CV := Lib.hid (fun U (q : Q W U) => vary10_any R A1 L.length cl s.xs.length c1 a L s U rfl (HB.out.q q).row HT.out H8.out)
  refine wp_region_held_drew (S := fun w' => w'.cell? ⟨B, 0, none⟩ = some (.slice R L.length cl) ∧ w'.cell? ⟨B, 3, none⟩ = some (.int .i64 s.k) ∧ w'.cell? ⟨B, 4, none⟩ = some (.int .i64 s.s) ∧ w'.cell? ⟨B, 5, none⟩ = some (.int .i64 s.p) ∧ w'.cell? ⟨B, 6, none⟩ = some (.slice A1 s.xs.length c1)) (by kernel_rfl) ?_ (fun hHeld => ?_)
  · exact hS.out _ (Q.refl W).drew
  refine take_w (i := 0) (d := some 8) (v := ?_) rfl (by kernel_rfl) (by kernel_rfl) (by kernel_rfl) (fun _ _ _ h => h) rfl (by rfl) ?_ (by assumption) ?_
  rotate_left
  · (intro w hSw; (try dsimp only at hSw); go_simp; (try with_reducible rfl))
  try simp only [Act.put, List.setIfInBounds_toArray, List.set_cons_zero, List.set_cons_succ]
  refine take_w (i := 1) (d := some 9) (v := ?_) rfl (by kernel_rfl) (by kernel_rfl) (by kernel_rfl) (fun _ _ _ h => h) rfl (by rfl) ?_ (by assumption) ?_
  rotate_left
  · (intro w hSw; (try dsimp only at hSw); go_simp; (try with_reducible rfl))
  try simp only [Act.put, List.setIfInBounds_toArray, List.set_cons_zero, List.set_cons_succ]
  refine take_w (i := 2) (d := some 10) (v := ?_) rfl (by kernel_rfl) (by kernel_rfl) (by kernel_rfl) (fun _ _ _ h => h) rfl (by rfl) ?_ (by assumption) ?_
  rotate_left
  · (intro w hSw; (try dsimp only at hSw); go_simp; (try with_reducible rfl))
  try simp only [Act.put, List.setIfInBounds_toArray, List.set_cons_zero, List.set_cons_succ]
  refine take_w (i := 3) (d := some 11) (v := ?_) rfl (by kernel_rfl) (by kernel_rfl) (by kernel_rfl) (fun _ _ _ h => h) rfl (by rfl) ?_ (by assumption) ?_
  rotate_left
  · (intro w hSw; (try dsimp only at hSw); go_simp; (try with_reducible rfl))
  try simp only [Act.put, List.setIfInBounds_toArray, List.set_cons_zero, List.set_cons_succ]
  refine take_w (i := 4) (d := some 12) (v := ?_) rfl (by kernel_rfl) (by kernel_rfl) (by kernel_rfl) (fun _ _ _ h => h) rfl (by rfl) ?_ (by assumption) ?_
  rotate_left
  · (intro w hSw; (try dsimp only at hSw); go_simp; (try with_reducible rfl))
  try simp only [Act.put, List.setIfInBounds_toArray, List.set_cons_zero, List.set_cons_succ]
  refine take_w (i := 5) (d := some 13) (v := ?_) rfl (by kernel_rfl) (by kernel_rfl) (by kernel_rfl) (fun _ _ _ h => h) rfl (by rfl) ?_ (by assumption) ?_
  rotate_left
  · (intro w hSw; (try dsimp only at hSw); go_simp; (try with_reducible rfl))
  try simp only [Act.put, List.setIfInBounds_toArray, List.set_cons_zero, List.set_cons_succ]
  refine take_w (i := 6) (d := some 14) (v := ?_) rfl (by kernel_rfl) (by kernel_rfl) (by kernel_rfl) (fun _ _ _ h => h) rfl (by rfl) ?_ (by assumption) ?_
  rotate_left
  · (intro w hSw; (try dsimp only at hSw); go_simp; (try with_reducible rfl))
  try simp only [Act.put, List.setIfInBounds_toArray, List.set_cons_zero, List.set_cons_succ]
  refine take_w (i := 7) (d := some 15) (v := ?_) rfl (by kernel_rfl) (by kernel_rfl) (by kernel_rfl) (fun _ _ _ h => h) rfl (by rfl) ?_ (by assumption) ?_
  rotate_left
  · (intro w hSw; (try dsimp only at hSw); go_simp; (try with_reducible rfl))
  try simp only [Act.put, List.setIfInBounds_toArray, List.set_cons_zero, List.set_cons_succ]
  refine call_w (i := 8) rfl (by kernel_rfl) (by rfl) (fun K hK => ?_)
  go_simp
  go_at_call 33
  refine (CV.out _ (Q.refl W).drew).mono ?_
  rintro e5 w5 ⟨bs, rfl, hvb, _, q5⟩
  have p5 := (Q.refl W).drew.trans q5
  have HVB := Lib.hid hvb
  clear hvb
  refine hK.out _ _ ?_ (fun hHeld => ?_)
  · exact hS.out _ p5
  clear hK K
  try simp only [Act.put, List.setIfInBounds_toArray, List.set_cons_zero, List.set_cons_succ]
  refine take_w (i := 9) (d := some 4) (v := ?_) rfl (by kernel_rfl) (by kernel_rfl) (by kernel_rfl) (fun _ _ _ h => h) rfl (by rfl) ?_ (by assumption) ?_
  rotate_left
  · (intro w hSw; (try dsimp only at hSw); go_simp; (try with_reducible rfl))
  try simp only [Act.put, List.setIfInBounds_toArray, List.set_cons_zero, List.set_cons_succ]
  refine wpAnyH_done (by kernel_rfl) ?_ _
  have x6 := (hS.out _ p5).2.2.2.2
  go_wp2_with fail
  clear x6
  go_loopw [3, 23] (fun u iv wr => ∃ (k : Nat) (P : List PI) (v : Value), k ≤ s.xs.length ∧ iv = .int .i64 k ∧ v = u ∧ P.length ≤ 2 * k ∧ Hid (conF L s.s 0 s.xs t.xs = P ++ conF L s.s k (s.xs.drop k) (t.xs.drop k)) ∧ Hid (wr.ownsRow W.heap.size 46 2 v P.length (cellsQ P)) ∧ Hid (Q W wr)) (fun _ iv _ => s.xs.length - (intOf iv).toNat)
  case atStart => exact ⟨0, [], _, Nat.zero_le _, rfl, rfl, Nat.zero_le _, Lib.hid (by simp), Lib.hid (own_nil w5 _ _ _), Lib.hid p5⟩
  case round =>
    obtain ⟨k, P, v, hk, rfl, rfl, hPl, HD, HO, HQ⟩ := hrel
    by_cases hkl : k < s.xs.length
    · have hkt : k < t.xs.length := by rw [HLL.out]; exact hkl
      obtain ⟨ad1, rfl, had1, e1⟩ := (HB.out.q HQ.out).i1.at_ hkl
      obtain ⟨ad2, rfl, had2, e2⟩ := (HB.out.q HQ.out).i2.at_ hkt
      have z10 : wr.cell? ⟨B, 10, none⟩ = some (.slice (some ad2) s.xs.length c2) := ((HB.out.q HQ.out).box.2 10 _ rfl).1.trans (by rw [HLL.out])
      have hkz : k < bs.size := Nat.lt_of_lt_of_le hkl HVB.out.1
      have hv : varyN L s.s k = bs[k] := by rw [HVB.out.2 k hkz hkl]; unfold varyT; rw [if_pos K3.out]
      have CP := Lib.hid (fun (U : World) (q : Q wr U) => varied10_any W.heap.size P v bs[k] (s.xs[k], t.xs[k]) (t.xs[k], s.xs[k]) U (row_kept HO.out q (Nat.le_refl _)) (Nat.le_trans HQ.out.size q.size) (by omega))
      have HD2 : Hid (conF L s.s 0 s.xs t.xs = (P ++ pairsA (s.xs[k], t.xs[k]) (t.xs[k], s.xs[k]) bs[k]) ++ conF L s.s (k + 1) (s.xs.drop (k + 1)) (t.xs.drop (k + 1))) := by
        unfold Hid
        rw [HD.out, conF_at _ _ k hkl hkt, hv, List.append_assoc]; rfl
      have hP2 : (P ++ pairsA (s.xs[k], t.xs[k]) (t.xs[k], s.xs[k]) bs[k]).length ≤ 2 * (k + 1) := by
        have : (pairsA (s.xs[k], t.xs[k]) (t.xs[k], s.xs[k]) bs[k]).length ≤ 2 := pairsF_len s.xs[k] t.xs[k] bs[k]
        rw [List.length_append]; omega
      generalize P ++ pairsA (s.xs[k], t.xs[k]) (t.xs[k], s.xs[k]) bs[k] = X at *
      have i0 : (k : Int) < (s.xs.length : Int) := by omega
      have i1 : (0 : Int) ≤ (k : Int) := Int.natCast_nonneg _
      have i2 : (k : Int) < (bs.size : Int) := by omega
      have i5 : decide ((k : Int) < (s.xs.length : Int)) = true := decide_eq_true i0
      clear hv HD
      go_wp2_with fail
      refine (CP.out _ (Q.refl wr)).mono ?_
      rintro e w4 ⟨v4, rfl, own4, b4⟩
      have Q4 : Hid (Q W w4) := Below.trans HQ.out b4
      have Own := Lib.hid own4
      clear own4 b4
      go_wp2_with fail
      go_roundw
      case rel => exact ⟨k + 1, X, v4, by omega, by go_num, rfl, hP2, HD2, Own, Q4⟩
      case measure => simp [intOf]; omega
    · have hkx : k = s.xs.length := by omega
      have HCF : Hid (conF L s.s 0 s.xs t.xs = P) := by
        unfold Hid
        rw [HD.out, conF_end _ _ k (by omega), List.append_nil]
      have i5 : decide ((k : Int) < (s.xs.length : Int)) = false := decide_eq_false (by omega)
      obtain ⟨A5, c5, rfl, hr5, hA5⟩ := own_open HO.out
      obtain ⟨⟨y0, y1⟩, hrd, hqw⟩ := way_close (w := w) (l := P) (.int .i64 1) (.slice A5 P.length c5) (HR8.out.q HQ.out) (Nat.le_refl _) (HQ0.out.trans HQ.out) hr5 (fun _ ad ha => Nat.ne_of_gt (Nat.lt_of_lt_of_le HR8.out.1 (hA5 ad ha)))
      have Y0 := Lib.hid y0
      have Y1 := Lib.hid y1
      have HRD := Lib.hid hrd
      have HQW := Lib.hid hqw
      have HFA := Lib.hid hA5
      obtain ⟨z00, z01⟩ := (HR8.out.q HQ.out).2 0 _ rfl
      obtain ⟨z10, z11⟩ := (HR8.out.q HQ.out).2 1 _ rfl
      clear y0 y1 hrd hqw hr5 hA5 HD hkx hk
      go_wp2_with fail
      have y0 := Y0.out
      have y1 := Y1.out
      exact bodyPost_ret (v := .agg #[.int .i64 1, .slice A5 P.length c5]) (by simp [results, Try.f57, go_sem, y0, y1]) rfl ⟨_, _, by rw [HCF.out], by rw [HCF.out]; exact HRD.out, HQW.out, fun ad ha => Nat.le_trans HQ0.out.size (HFA.out ad ha)⟩
end Go.Proofs.Ytjehccemilefgaa.St
