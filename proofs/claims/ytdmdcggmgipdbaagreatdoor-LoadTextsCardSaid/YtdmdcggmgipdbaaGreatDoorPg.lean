/-
  What the proofs lean on, part 7 of 25.
-/
import Derived.Test.YtdmdcggmgipdbaaGreatDoorPf
namespace Go.Proofs.YtdmdcggmgipdbaaGreatDoor.Tm
open Go.RowKit Kit Hs

def PutE (ks : List (List Int)) (sl : List Int) (place err : Int) (w : World) (e : Ending) (w' : World) : Prop :=
  ∃ A c S d, e = .returned (.tuple #[.agg #[.slice A ks.length c, .slice S sl.length d], .int .i64 place, .int .i64 err]) ∧ Keys w' w'.heap.size A ks ∧ Ints w' w'.heap.size S sl ∧ Q w w' ∧ ks.length ≤ c
/-- and in memory of the call's own -/
def PutG (ks : List (List Int)) (sl : List Int) (place err : Int) (w : World) (e : Ending) (w' : World) : Prop :=
  ∃ A c S d, e = .returned (.tuple #[.agg #[.slice A ks.length c, .slice S sl.length d], .int .i64 place, .int .i64 err]) ∧
    (∀ W : World, (∀ p : Addr, w.heap.size ≤ p.block → p.block < w'.heap.size → W.cell? p = w'.cell? p) → Keys W w'.heap.size A ks ∧ Ints W w'.heap.size S sl) ∧ Q w w' ∧ ks.length ≤ c
theorem PutG.e {ks : List (List Int)} {sl : List Int} {place err : Int} {w : World} {e : Ending} {w' : World} (h : PutG ks sl place err w e w') : PutE ks sl place err w e w' := by
  obtain ⟨A, c, S, d, he, hF, q, hc⟩ := h
  exact ⟨A, c, S, d, he, (hF w' fun _ _ _ => rfl).1, (hF w' fun _ _ _ => rfl).2, q, hc⟩
def fullB (ks : List (List Int)) (t : Tm) (limit : Int) : Bool := decide (limit ≤ (ks.length : Int)) && newB ks t.key
def put3L (l : List Sg.Sig) (ks : List (List Int)) (t : Tm) (limit : Int) : List (List Int) := if mayB l ks.length t then if fullB ks t limit then ks else putL ks t.key else ks
def put3I (l : List Sg.Sig) (ks : List (List Int)) (t : Tm) (limit : Int) : Int := if mayB l ks.length t then if fullB ks t limit then 0 else placeI ks t.key else 0
def put3E (l : List Sg.Sig) (ks : List (List Int)) (t : Tm) (limit : Int) : Int := if mayB l ks.length t then if fullB ks t limit then 7 else 0 else 1

theorem putG_close {w w4 w5 w6 : World} {A S : Option Addr} {K : List (List Int)} {SL : List Int} {R : Nat} {u v : Value}
    (hF : ∀ W' : World, (∀ p : Addr, w4.heap.size ≤ p.block → p.block < w5.heap.size → W'.cell? p = w5.cell? p) → Keys W' w5.heap.size A K ∧ Ints W' w5.heap.size S SL) (hR : R < w4.heap.size) (q56 : Q w5 w6) (hwR : w.heap.size ≤ R) (q6 : Q w w6) :
    (∀ W : World, (∀ p : Addr, w.heap.size ≤ p.block → p.block < ((w6.setCell ⟨R, 0, none⟩ u).setCell ⟨R, 1, none⟩ v).heap.size → W.cell? p = ((w6.setCell ⟨R, 0, none⟩ u).setCell ⟨R, 1, none⟩ v).cell? p) → Keys W ((w6.setCell ⟨R, 0, none⟩ u).setCell ⟨R, 1, none⟩ v).heap.size A K ∧ Ints W ((w6.setCell ⟨R, 0, none⟩ u).setCell ⟨R, 1, none⟩ v).heap.size S SL) ∧ Q w ((w6.setCell ⟨R, 0, none⟩ u).setCell ⟨R, 1, none⟩ v) := by
  have hz : ((w6.setCell ⟨R, 0, none⟩ u).setCell ⟨R, 1, none⟩ v).heap.size = w6.heap.size := by simp [World.setCell]
  have h56 := q56.size
  refine ⟨fun W hW => ?_, (q6.setCell (p := ⟨R, 0, none⟩) hwR _).setCell (p := ⟨R, 1, none⟩) hwR _⟩
  rw [hz] at hW ⊢
  obtain ⟨hK, hI⟩ := hF W fun p h1 h2 => (hW p (by omega) (by omega)).trans ((set_two_other _ _ _ _ _ (by omega)).trans (q56.cell h2))
  exact ⟨hK.more q56.size, hI.more q56.size⟩
theorem BoxF.two {W : World} {B : Nat} (h : BoxF W B) (u v : Value) : ((W.setCell ⟨B, 0, none⟩ u).setCell ⟨B, 1, none⟩ v).cell? ⟨B, 0, none⟩ = some u ∧ ((W.setCell ⟨B, 0, none⟩ u).setCell ⟨B, 1, none⟩ v).cell? ⟨B, 1, none⟩ = some v :=
  ⟨setCell_ne (by omega) (setCell_eq h.c0), setCell_eq (setCell_ne (by omega) h.c1)⟩
theorem key_len (t : Tm) : t.key.length = t.xs.length + 3 := by simp [Tm.key]

set_option maxRecDepth 100000 in
set_option maxHeartbeats 2000000 in
theorem put3_arg (L A S E : Option Addr) (nl cl c d ne ce : Nat) (l : List Sg.Sig) (ks : List (List Int)) (t : Tm) (limit : Int) (w : World) (hnl : nl = l.length) (hr : Sg.Row w w.heap.size L l) (hk : Keys w w.heap.size A ks) (hS : Ints w w.heap.size S (layI ks)) (hne : ne = t.xs.length) (he : Ints w w.heap.size E t.xs)
    (hw : Wf t.k) (hd : Dist ks) (hs : ∀ k ∈ ks, k.length ≤ 100000) (hl : ks.length ≤ 5000) (_ht : ks.flatten.length ≤ 50000) (hx : t.xs.length ≤ 4000) (hM : mayB l ks.length t = false) :
    Calls Tryz.prog 79 #[.slice L nl cl, .agg #[.slice A ks.length c, .slice S (layI ks).length d], .agg #[.int .i64 t.k, .int .i64 t.s, .int .i64 t.p, .slice E ne ce], .int .i64 limit] w (PutG ks (layI ks) 0 1 w) := by
  subst hnl
  have hx2 : t.xs.length ≤ maxLen := by unfold maxLen; omega
  have hz : (layI ks).length ≤ 100000 := by rw [layI_length]; have := sizeN_le ks.length; omega
  have Hz := Lib.hid hz
  have q0 := (((Q.refl w).alloc (Obj.cells #[Value.slice A ks.length c, Value.slice S (layI ks).length d] 26)).alloc (Obj.cells #[.int .i64 t.k, .int .i64 t.s, .int .i64 t.p, .slice E ne ce] 77)).alloc (Obj.cells #[Value.slice none 0 0, Value.slice none 0 0] 26)
  have Hr := Lib.hid ((hr.q (Nat.le_refl _) q0).more q0.size)
  have Hk := Lib.hid ((hk.q (Nat.le_refl _) q0).more q0.size)
  have HS := Lib.hid ((hS.q (Nat.le_refl _) q0).more q0.size)
  have He := Lib.hid ((he.q (Nat.le_refl _) q0).more q0.size)
  have HT := Lib.hid ((BoxT.new w (Value.slice A ks.length c) (Value.slice S (layI ks).length d) 26).q (((Q.refl _).alloc (Obj.cells #[.int .i64 t.k, .int .i64 t.s, .int .i64 t.p, .slice E ne ce] 77)).alloc (Obj.cells #[Value.slice none 0 0, Value.slice none 0 0] 26)))
  have X := (Box4.new (w.alloc (Obj.cells #[Value.slice A ks.length c, Value.slice S (layI ks).length d] 26)) (.int .i64 t.k) (.int .i64 t.s) (.int .i64 t.p) (.slice E ne ce) 77).q ((Q.refl _).alloc (Obj.cells #[Value.slice none 0 0, Value.slice none 0 0] 26))
  have R := BoxF.new ((w.alloc (Obj.cells #[Value.slice A ks.length c, Value.slice S (layI ks).length d] 26)).alloc (Obj.cells #[.int .i64 t.k, .int .i64 t.s, .int .i64 t.p, .slice E ne ce] 77)) 26
  simp only [World.size_alloc] at X R
  have HX := Lib.hid X
  have HR := Lib.hid R
  have HsM := Lib.hid hs
  have Hne := Lib.hid hne
  have Hd := Lib.hid hd
  clear hr hk hS he X R hs hne hz hd
  go_enter Tryz.func79, Tryz.ntmps79
  go_wp2_with fail
  generalize ((w.alloc (Obj.cells #[Value.slice A ks.length c, Value.slice S (layI ks).length d] 26)).alloc (Obj.cells #[.int .i64 t.k, .int .i64 t.s, .int .i64 t.p, .slice E ne ce] 77)).alloc (Obj.cells #[Value.slice none 0 0, Value.slice none 0 0] 26) = W0 at *
  refine (may_any _ _ _ _ _ _ _ _ _ _ _ _ l t _ rfl Hr.out Hne.out He.out hw hx2).mono ?_
  rintro e w1 ⟨rfl, q1⟩
  have HT1 := Lib.hid (HT.out.q q1)
  have HX1 := Lib.hid (HX.out.q q1)
  have HR1 := Lib.hid (HR.out.q q1)
  have Hk1 := Lib.hid ((Hk.out.q (Nat.le_refl _) q1).more q1.size)
  have HS1 := Lib.hid ((HS.out.q (Nat.le_refl _) q1).more q1.size)
  have He1 := Lib.hid ((He.out.q (Nat.le_refl _) q1).more q1.size)
  have q01 := q0.trans q1
  clear Hr Hk HS He HT HX HR q0 q1
  rw [hM]
  clear hM He1 Hne
  have b0 := HT1.out.c0
  have b1 := HT1.out.c1
  go_wp2_with fail
  refine (copyOf_any _ _ _ _ _ _ ks (layI ks) _ rfl rfl Hk1.out HS1.out hl HsM.out Hz.out).mono ?_
  rintro e w9 ⟨A9, c9, S9, d9, rfl, hF, q9, hcp⟩
  have Hcp := Lib.hid hcp
  clear hcp
  have HF := Lib.hid hF
  have HR9 := Lib.hid (HR1.out.q q9)
  have r0 := HR9.out.c0
  have r1 := HR9.out.c1
  have f0 := HR9.out.f0
  have f1 := HR9.out.f1
  have hRl := HR1.out.lt
  clear hF b0 b1
  go_wp2_with fail
  obtain ⟨y0, y1⟩ := HR9.out.two (.slice A9 ks.length c9) (.slice S9 (layI ks).length d9)
  obtain ⟨hK, hQ⟩ := putG_close (u := .slice A9 ks.length c9) (v := .slice S9 (layI ks).length d9) (w := w) HF.out hRl (Q.refl w9) (by omega) (q01.trans q9)
  exact bodyPost_ret (v := .tuple #[.agg #[.slice A9 ks.length c9, .slice S9 (layI ks).length d9], .int .i64 0, .int .i64 1]) (by simp [results, Tryz.f79, go_sem, y0, y1]) rfl ⟨A9, c9, S9, d9, rfl, hK, hQ, Hcp.out⟩

set_option maxRecDepth 100000 in
set_option maxHeartbeats 2000000 in
theorem put3_full (L A S E : Option Addr) (nl cl c d ne ce : Nat) (l : List Sg.Sig) (ks : List (List Int)) (t : Tm) (limit : Int) (w : World) (hnl : nl = l.length) (hr : Sg.Row w w.heap.size L l) (hk : Keys w w.heap.size A ks) (hS : Ints w w.heap.size S (layI ks)) (hne : ne = t.xs.length) (he : Ints w w.heap.size E t.xs)
    (hw : Wf t.k) (hd : Dist ks) (hs : ∀ k ∈ ks, k.length ≤ 100000) (hl : ks.length ≤ 5000) (_ht : ks.flatten.length ≤ 50000) (hx : t.xs.length ≤ 4000) (hM : mayB l ks.length t = true) (hlim : limit ≤ (ks.length : Int)) (hat : atI ks t.key = -1) :
    Calls Tryz.prog 79 #[.slice L nl cl, .agg #[.slice A ks.length c, .slice S (layI ks).length d], .agg #[.int .i64 t.k, .int .i64 t.s, .int .i64 t.p, .slice E ne ce], .int .i64 limit] w (PutG ks (layI ks) 0 7 w) := by
  subst hnl
  have hx2 : t.xs.length ≤ maxLen := by unfold maxLen; omega
  have hz : (layI ks).length ≤ 100000 := by rw [layI_length]; have := sizeN_le ks.length; omega
  have Hz := Lib.hid hz
  have q0 := (((Q.refl w).alloc (Obj.cells #[Value.slice A ks.length c, Value.slice S (layI ks).length d] 26)).alloc (Obj.cells #[.int .i64 t.k, .int .i64 t.s, .int .i64 t.p, .slice E ne ce] 77)).alloc (Obj.cells #[Value.slice none 0 0, Value.slice none 0 0] 26)
  have Hr := Lib.hid ((hr.q (Nat.le_refl _) q0).more q0.size)
  have Hk := Lib.hid ((hk.q (Nat.le_refl _) q0).more q0.size)
  have HS := Lib.hid ((hS.q (Nat.le_refl _) q0).more q0.size)
  have He := Lib.hid ((he.q (Nat.le_refl _) q0).more q0.size)
  have HT := Lib.hid ((BoxT.new w (Value.slice A ks.length c) (Value.slice S (layI ks).length d) 26).q (((Q.refl _).alloc (Obj.cells #[.int .i64 t.k, .int .i64 t.s, .int .i64 t.p, .slice E ne ce] 77)).alloc (Obj.cells #[Value.slice none 0 0, Value.slice none 0 0] 26)))
  have X := (Box4.new (w.alloc (Obj.cells #[Value.slice A ks.length c, Value.slice S (layI ks).length d] 26)) (.int .i64 t.k) (.int .i64 t.s) (.int .i64 t.p) (.slice E ne ce) 77).q ((Q.refl _).alloc (Obj.cells #[Value.slice none 0 0, Value.slice none 0 0] 26))
  have R := BoxF.new ((w.alloc (Obj.cells #[Value.slice A ks.length c, Value.slice S (layI ks).length d] 26)).alloc (Obj.cells #[.int .i64 t.k, .int .i64 t.s, .int .i64 t.p, .slice E ne ce] 77)) 26
  simp only [World.size_alloc] at X R
  have HX := Lib.hid X
  have HR := Lib.hid R
  have HsM := Lib.hid hs
  have Hne := Lib.hid hne
  have Hd := Lib.hid hd
  clear hr hk hS he X R hs hne hz hd
  go_enter Tryz.func79, Tryz.ntmps79
  go_wp2_with fail
  generalize ((w.alloc (Obj.cells #[Value.slice A ks.length c, Value.slice S (layI ks).length d] 26)).alloc (Obj.cells #[.int .i64 t.k, .int .i64 t.s, .int .i64 t.p, .slice E ne ce] 77)).alloc (Obj.cells #[Value.slice none 0 0, Value.slice none 0 0] 26) = W0 at *
  refine (may_any _ _ _ _ _ _ _ _ _ _ _ _ l t _ rfl Hr.out Hne.out He.out hw hx2).mono ?_
  rintro e w1 ⟨rfl, q1⟩
  have HT1 := Lib.hid (HT.out.q q1)
  have HX1 := Lib.hid (HX.out.q q1)
  have HR1 := Lib.hid (HR.out.q q1)
  have Hk1 := Lib.hid ((Hk.out.q (Nat.le_refl _) q1).more q1.size)
  have HS1 := Lib.hid ((HS.out.q (Nat.le_refl _) q1).more q1.size)
  have He1 := Lib.hid ((He.out.q (Nat.le_refl _) q1).more q1.size)
  have q01 := q0.trans q1
  clear Hr Hk HS He HT HX HR q0 q1
  rw [hM]
  clear hM
  have x0 := HX1.out.c0
  have x1 := HX1.out.c1
  have x2 := HX1.out.c2
  have x3 := HX1.out.c3
  go_wp2_with fail
  refine (key_any _ _ _ _ _ _ t.xs _ Hne.out He1.out (by omega)).mono ?_
  rintro e w2 ⟨gk, ck, rfl, hgk, hck, hO, q2⟩
  have hkl : (t.k :: t.s :: t.p :: t.xs).length = t.xs.length + 3 := by simp
  have HO := Lib.hid hO.ints
  have Hck := Lib.hid hck
  have HT2 := Lib.hid (HT1.out.q q2)
  have HR2 := Lib.hid (HR1.out.q q2)
  have Hk2 := Lib.hid ((Hk1.out.q (Nat.le_refl _) q2).more q2.size)
  have HS2 := Lib.hid ((HS1.out.q (Nat.le_refl _) q2).more q2.size)
  have q02 := q01.trans q2
  obtain ⟨key, hkey⟩ : ∃ key, t.k :: t.s :: t.p :: t.xs = key := ⟨_, rfl⟩
  have HKe : Hid (t.key = key) := hkey
  rw [hkey] at hkl HO Hck ⊢
  have Hkl := Lib.hid hkl
  clear x0 x1 x2 x3 hO hck HX1 He1 Hne HT1 HR1 Hk1 HS1 hkey hgk hkl
  rw [HKe.out] at hat
  have Hat := Lib.hid hat
  have dl : decide (limit ≤ (ks.length : Int)) = true := decide_eq_true hlim
  have b0 := HT2.out.c0
  have b1 := HT2.out.c1
  clear hat hlim
  go_wp2_with fail
  refine (findR_any _ _ _ _ _ _ _ _ _ ks key _ rfl rfl rfl Hk2.out HS2.out HO.out Hd.out (fun k hk => by have := HsM.out k hk; unfold maxLen; omega) (by have := Hkl.out; unfold maxLen; omega) hl).mono ?_
  rintro e w3 ⟨rfl, q3⟩
  rw [Hat.out]
  have HT3 := Lib.hid (HT2.out.q q3)
  have HR3 := Lib.hid (HR2.out.q q3)
  have Hk3 := Lib.hid ((Hk2.out.q (Nat.le_refl _) q3).more q3.size)
  have HS3 := Lib.hid ((HS2.out.q (Nat.le_refl _) q3).more q3.size)
  have q03 := q02.trans q3
  clear b0 b1 HO
  have b0 := HT3.out.c0
  have b1 := HT3.out.c1
  go_wp2_with fail
  refine (copyOf_any _ _ _ _ _ _ ks (layI ks) _ rfl rfl Hk3.out HS3.out hl HsM.out Hz.out).mono ?_
  rintro e w9 ⟨A9, c9, S9, d9, rfl, hF, q9, hcp⟩
  have Hcp := Lib.hid hcp
  clear hcp
  have HF := Lib.hid hF
  have HR9 := Lib.hid (HR3.out.q q9)
  have r0 := HR9.out.c0
  have r1 := HR9.out.c1
  have f0 := HR9.out.f0
  have f1 := HR9.out.f1
  have hRl := HR3.out.lt
  clear hF b0 b1
  go_wp2_with fail
  obtain ⟨y0, y1⟩ := HR9.out.two (.slice A9 ks.length c9) (.slice S9 (layI ks).length d9)
  obtain ⟨hK, hQ⟩ := putG_close (u := .slice A9 ks.length c9) (v := .slice S9 (layI ks).length d9) (w := w) HF.out hRl (Q.refl w9) (by omega) (q03.trans q9)
  exact bodyPost_ret (v := .tuple #[.agg #[.slice A9 ks.length c9, .slice S9 (layI ks).length d9], .int .i64 0, .int .i64 7]) (by simp [results, Tryz.f79, go_sem, y0, y1]) rfl ⟨A9, c9, S9, d9, rfl, hK, hQ, Hcp.out⟩

set_option maxRecDepth 100000 in
set_option maxHeartbeats 2000000 in
theorem put3_room (L A S E : Option Addr) (nl cl c d ne ce : Nat) (l : List Sg.Sig) (ks : List (List Int)) (t : Tm) (limit : Int) (w : World) (hnl : nl = l.length) (hr : Sg.Row w w.heap.size L l) (hk : Keys w w.heap.size A ks) (hS : Ints w w.heap.size S (layI ks)) (hne : ne = t.xs.length) (he : Ints w w.heap.size E t.xs)
    (hw : Wf t.k) (hd : Dist ks) (hs : ∀ k ∈ ks, k.length ≤ 100000) (hl : ks.length ≤ 5000) (ht : ks.flatten.length ≤ 50000) (hx : t.xs.length ≤ 4000) (hM : mayB l ks.length t = true) (hlim : (ks.length : Int) < limit) :
    Calls Tryz.prog 79 #[.slice L nl cl, .agg #[.slice A ks.length c, .slice S (layI ks).length d], .agg #[.int .i64 t.k, .int .i64 t.s, .int .i64 t.p, .slice E ne ce], .int .i64 limit] w (PutG (putL ks t.key) (layI (putL ks t.key)) (placeI ks t.key) 0 w) := by
  subst hnl
  have hx2 : t.xs.length ≤ maxLen := by unfold maxLen; omega
  have hz : (layI ks).length ≤ 100000 := by rw [layI_length]; have := sizeN_le ks.length; omega
  have Hz := Lib.hid hz
  have q0 := (((Q.refl w).alloc (Obj.cells #[Value.slice A ks.length c, Value.slice S (layI ks).length d] 26)).alloc (Obj.cells #[.int .i64 t.k, .int .i64 t.s, .int .i64 t.p, .slice E ne ce] 77)).alloc (Obj.cells #[Value.slice none 0 0, Value.slice none 0 0] 26)
  have Hr := Lib.hid ((hr.q (Nat.le_refl _) q0).more q0.size)
  have Hk := Lib.hid ((hk.q (Nat.le_refl _) q0).more q0.size)
  have HS := Lib.hid ((hS.q (Nat.le_refl _) q0).more q0.size)
  have He := Lib.hid ((he.q (Nat.le_refl _) q0).more q0.size)
  have HT := Lib.hid ((BoxT.new w (Value.slice A ks.length c) (Value.slice S (layI ks).length d) 26).q (((Q.refl _).alloc (Obj.cells #[.int .i64 t.k, .int .i64 t.s, .int .i64 t.p, .slice E ne ce] 77)).alloc (Obj.cells #[Value.slice none 0 0, Value.slice none 0 0] 26)))
  have X := (Box4.new (w.alloc (Obj.cells #[Value.slice A ks.length c, Value.slice S (layI ks).length d] 26)) (.int .i64 t.k) (.int .i64 t.s) (.int .i64 t.p) (.slice E ne ce) 77).q ((Q.refl _).alloc (Obj.cells #[Value.slice none 0 0, Value.slice none 0 0] 26))
  have R := BoxF.new ((w.alloc (Obj.cells #[Value.slice A ks.length c, Value.slice S (layI ks).length d] 26)).alloc (Obj.cells #[.int .i64 t.k, .int .i64 t.s, .int .i64 t.p, .slice E ne ce] 77)) 26
  simp only [World.size_alloc] at X R
  have HX := Lib.hid X
  have HR := Lib.hid R
  have HsM := Lib.hid hs
  have Hne := Lib.hid hne
  have Hd := Lib.hid hd
  clear hr hk hS he X R hs hne hz hd
  go_enter Tryz.func79, Tryz.ntmps79
  go_wp2_with fail
  generalize ((w.alloc (Obj.cells #[Value.slice A ks.length c, Value.slice S (layI ks).length d] 26)).alloc (Obj.cells #[.int .i64 t.k, .int .i64 t.s, .int .i64 t.p, .slice E ne ce] 77)).alloc (Obj.cells #[Value.slice none 0 0, Value.slice none 0 0] 26) = W0 at *
  refine (may_any _ _ _ _ _ _ _ _ _ _ _ _ l t _ rfl Hr.out Hne.out He.out hw hx2).mono ?_
  rintro e w1 ⟨rfl, q1⟩
  have HT1 := Lib.hid (HT.out.q q1)
  have HX1 := Lib.hid (HX.out.q q1)
  have HR1 := Lib.hid (HR.out.q q1)
  have Hk1 := Lib.hid ((Hk.out.q (Nat.le_refl _) q1).more q1.size)
  have HS1 := Lib.hid ((HS.out.q (Nat.le_refl _) q1).more q1.size)
  have He1 := Lib.hid ((He.out.q (Nat.le_refl _) q1).more q1.size)
  have q01 := q0.trans q1
  clear Hr Hk HS He HT HX HR q0 q1
  rw [hM]
  clear hM
  have x0 := HX1.out.c0
  have x1 := HX1.out.c1
  have x2 := HX1.out.c2
  have x3 := HX1.out.c3
  go_wp2_with fail
  refine (key_any _ _ _ _ _ _ t.xs _ Hne.out He1.out (by omega)).mono ?_
  rintro e w2 ⟨gk, ck, rfl, hgk, hck, hO, q2⟩
  have hkl : (t.k :: t.s :: t.p :: t.xs).length = t.xs.length + 3 := by simp
  have HO := Lib.hid hO.ints
  have Hck := Lib.hid hck
  have HT2 := Lib.hid (HT1.out.q q2)
  have HR2 := Lib.hid (HR1.out.q q2)
  have Hk2 := Lib.hid ((Hk1.out.q (Nat.le_refl _) q2).more q2.size)
  have HS2 := Lib.hid ((HS1.out.q (Nat.le_refl _) q2).more q2.size)
  have q02 := q01.trans q2
  obtain ⟨key, hkey⟩ : ∃ key, t.k :: t.s :: t.p :: t.xs = key := ⟨_, rfl⟩
  have HKe : Hid (t.key = key) := hkey
  rw [hkey] at hkl HO Hck ⊢
  have Hkl := Lib.hid hkl
  clear x0 x1 x2 x3 hO hck HX1 He1 Hne HT1 HR1 Hk1 HS1 hkey hgk hkl
  have dl : decide (limit ≤ (ks.length : Int)) = false := decide_eq_false (by omega)
  have b0 := HT2.out.c0
  have b1 := HT2.out.c1
  clear hlim
  have Hpl : Hid ((putL ks t.key) = putL ks key) := by unfold Hid; rw [HKe.out]
  have HPl : Hid (placeI ks t.key = placeI ks key) := by unfold Hid; rw [HKe.out]
  go_wp2_with fail
  refine (putF_any _ _ _ _ _ _ _ _ _ ks key _ rfl rfl rfl Hk2.out HS2.out HO.out Hd.out (fun k hk => by have := HsM.out k hk; unfold maxLen; omega) (by have := Hkl.out; omega) hl ht Hck.out).mono ?_
  rintro e w9 ⟨A9, c9, S9, d9, rfl, hF, q9, hcp⟩
  have Hcp := Lib.hid hcp
  clear hcp
  have HF := Lib.hid hF
  have hRl := HR2.out.lt
  have q9a := (Q.refl w9).alloc (Obj.cells #[.slice A9 (putL ks key).length c9, .slice S9 (layI (putL ks key)).length d9] 26)
  have HR9 := Lib.hid ((HR2.out.q q9).q q9a)
  have bb := BoxT.new w9 (.slice A9 (putL ks key).length c9) (.slice S9 (layI (putL ks key)).length d9) 26
  have r0 := HR9.out.c0
  have r1 := HR9.out.c1
  have f0 := HR9.out.f0
  have f1 := HR9.out.f1
  have b0' := bb.c0
  have b1' := bb.c1
  obtain ⟨PL, hPL⟩ : ∃ PL, putL ks key = PL := ⟨_, rfl⟩
  obtain ⟨pl, hpl⟩ : ∃ pl, placeI ks key = pl := ⟨_, rfl⟩
  have HPL : Hid (putL ks t.key = PL) := Hpl.out.trans hPL
  have HpL : Hid (placeI ks t.key = pl) := HPl.out.trans hpl
  rw [hPL] at Hcp HF q9a HR9 r0 r1 f0 f1 b0' b1' ⊢
  rw [hpl]
  have hq9 := q9.size
  clear hF b0 b1 bb hPL hpl
  go_wp2_with fail
  generalize w9.alloc (Obj.cells #[.slice A9 PL.length c9, .slice S9 (layI PL).length d9] 26) = W9 at *
  obtain ⟨y0, y1⟩ := HR9.out.two (.slice A9 PL.length c9) (.slice S9 (layI PL).length d9)
  obtain ⟨hK, hQ⟩ := putG_close (u := .slice A9 PL.length c9) (v := .slice S9 (layI PL).length d9) (w := w) HF.out hRl q9a (by omega) ((q02.trans q9).trans q9a)
  exact bodyPost_ret (v := .tuple #[.agg #[.slice A9 PL.length c9, .slice S9 (layI PL).length d9], .int .i64 pl, .int .i64 0]) (by simp [results, Tryz.f79, go_sem, y0, y1]) rfl ⟨A9, c9, S9, d9, by rw [HPL.out, HpL.out], by rw [HPL.out]; exact hK, hQ, by rw [HPL.out]; exact Hcp.out⟩

set_option maxRecDepth 100000 in
set_option maxHeartbeats 2000000 in
theorem put3_there (L A S E : Option Addr) (nl cl c d ne ce : Nat) (l : List Sg.Sig) (ks : List (List Int)) (t : Tm) (limit : Int) (w : World) (hnl : nl = l.length) (hr : Sg.Row w w.heap.size L l) (hk : Keys w w.heap.size A ks) (hS : Ints w w.heap.size S (layI ks)) (hne : ne = t.xs.length) (he : Ints w w.heap.size E t.xs)
    (hw : Wf t.k) (hd : Dist ks) (hs : ∀ k ∈ ks, k.length ≤ 100000) (hl : ks.length ≤ 5000) (ht : ks.flatten.length ≤ 50000) (hx : t.xs.length ≤ 4000) (hM : mayB l ks.length t = true) (hlim : limit ≤ (ks.length : Int)) (p : Nat) (hat : atI ks t.key = (p : Int)) :
    Calls Tryz.prog 79 #[.slice L nl cl, .agg #[.slice A ks.length c, .slice S (layI ks).length d], .agg #[.int .i64 t.k, .int .i64 t.s, .int .i64 t.p, .slice E ne ce], .int .i64 limit] w (PutG (putL ks t.key) (layI (putL ks t.key)) (placeI ks t.key) 0 w) := by
  subst hnl
  have hx2 : t.xs.length ≤ maxLen := by unfold maxLen; omega
  have hz : (layI ks).length ≤ 100000 := by rw [layI_length]; have := sizeN_le ks.length; omega
  have Hz := Lib.hid hz
  have q0 := (((Q.refl w).alloc (Obj.cells #[Value.slice A ks.length c, Value.slice S (layI ks).length d] 26)).alloc (Obj.cells #[.int .i64 t.k, .int .i64 t.s, .int .i64 t.p, .slice E ne ce] 77)).alloc (Obj.cells #[Value.slice none 0 0, Value.slice none 0 0] 26)
  have Hr := Lib.hid ((hr.q (Nat.le_refl _) q0).more q0.size)
  have Hk := Lib.hid ((hk.q (Nat.le_refl _) q0).more q0.size)
  have HS := Lib.hid ((hS.q (Nat.le_refl _) q0).more q0.size)
  have He := Lib.hid ((he.q (Nat.le_refl _) q0).more q0.size)
  have HT := Lib.hid ((BoxT.new w (Value.slice A ks.length c) (Value.slice S (layI ks).length d) 26).q (((Q.refl _).alloc (Obj.cells #[.int .i64 t.k, .int .i64 t.s, .int .i64 t.p, .slice E ne ce] 77)).alloc (Obj.cells #[Value.slice none 0 0, Value.slice none 0 0] 26)))
  have X := (Box4.new (w.alloc (Obj.cells #[Value.slice A ks.length c, Value.slice S (layI ks).length d] 26)) (.int .i64 t.k) (.int .i64 t.s) (.int .i64 t.p) (.slice E ne ce) 77).q ((Q.refl _).alloc (Obj.cells #[Value.slice none 0 0, Value.slice none 0 0] 26))
  have R := BoxF.new ((w.alloc (Obj.cells #[Value.slice A ks.length c, Value.slice S (layI ks).length d] 26)).alloc (Obj.cells #[.int .i64 t.k, .int .i64 t.s, .int .i64 t.p, .slice E ne ce] 77)) 26
  simp only [World.size_alloc] at X R
  have HX := Lib.hid X
  have HR := Lib.hid R
  have HsM := Lib.hid hs
  have Hne := Lib.hid hne
  have Hd := Lib.hid hd
  clear hr hk hS he X R hs hne hz hd
  go_enter Tryz.func79, Tryz.ntmps79
  go_wp2_with fail
  generalize ((w.alloc (Obj.cells #[Value.slice A ks.length c, Value.slice S (layI ks).length d] 26)).alloc (Obj.cells #[.int .i64 t.k, .int .i64 t.s, .int .i64 t.p, .slice E ne ce] 77)).alloc (Obj.cells #[Value.slice none 0 0, Value.slice none 0 0] 26) = W0 at *
  refine (may_any _ _ _ _ _ _ _ _ _ _ _ _ l t _ rfl Hr.out Hne.out He.out hw hx2).mono ?_
  rintro e w1 ⟨rfl, q1⟩
  have HT1 := Lib.hid (HT.out.q q1)
  have HX1 := Lib.hid (HX.out.q q1)
  have HR1 := Lib.hid (HR.out.q q1)
  have Hk1 := Lib.hid ((Hk.out.q (Nat.le_refl _) q1).more q1.size)
  have HS1 := Lib.hid ((HS.out.q (Nat.le_refl _) q1).more q1.size)
  have He1 := Lib.hid ((He.out.q (Nat.le_refl _) q1).more q1.size)
  have q01 := q0.trans q1
  clear Hr Hk HS He HT HX HR q0 q1
  rw [hM]
  clear hM
  have x0 := HX1.out.c0
  have x1 := HX1.out.c1
  have x2 := HX1.out.c2
  have x3 := HX1.out.c3
  go_wp2_with fail
  refine (key_any _ _ _ _ _ _ t.xs _ Hne.out He1.out (by omega)).mono ?_
  rintro e w2 ⟨gk, ck, rfl, hgk, hck, hO, q2⟩
  have hkl : (t.k :: t.s :: t.p :: t.xs).length = t.xs.length + 3 := by simp
  have HO := Lib.hid hO.ints
  have Hck := Lib.hid hck
  have HT2 := Lib.hid (HT1.out.q q2)
  have HR2 := Lib.hid (HR1.out.q q2)
  have Hk2 := Lib.hid ((Hk1.out.q (Nat.le_refl _) q2).more q2.size)
  have HS2 := Lib.hid ((HS1.out.q (Nat.le_refl _) q2).more q2.size)
  have q02 := q01.trans q2
  obtain ⟨key, hkey⟩ : ∃ key, t.k :: t.s :: t.p :: t.xs = key := ⟨_, rfl⟩
  have HKe : Hid (t.key = key) := hkey
  rw [hkey] at hkl HO Hck ⊢
  have Hkl := Lib.hid hkl
  clear x0 x1 x2 x3 hO hck HX1 He1 Hne HT1 HR1 Hk1 HS1 hkey hgk hkl
  rw [HKe.out] at hat
  have Hat := Lib.hid hat
  have dl : decide (limit ≤ (ks.length : Int)) = true := decide_eq_true hlim
  have b0 := HT2.out.c0
  have b1 := HT2.out.c1
  clear hat hlim
  go_wp2_with fail
  refine (findR_any _ _ _ _ _ _ _ _ _ ks key _ rfl rfl rfl Hk2.out HS2.out HO.out Hd.out (fun k hk => by have := HsM.out k hk; unfold maxLen; omega) (by have := Hkl.out; unfold maxLen; omega) hl).mono ?_
  rintro e w3 ⟨rfl, q3⟩
  rw [Hat.out]
  have HT3 := Lib.hid (HT2.out.q q3)
  have HR3 := Lib.hid (HR2.out.q q3)
  have Hk3 := Lib.hid ((Hk2.out.q (Nat.le_refl _) q3).more q3.size)
  have HS3 := Lib.hid ((HS2.out.q (Nat.le_refl _) q3).more q3.size)
  have HO3 := Lib.hid ((HO.out.q (Nat.le_refl _) q3).more q3.size)
  have q03 := q02.trans q3
  clear b0 b1 HO
  have b0 := HT3.out.c0
  have b1 := HT3.out.c1
  have Hpl : Hid ((putL ks t.key) = putL ks key) := by unfold Hid; rw [HKe.out]
  have HPl : Hid (placeI ks t.key = placeI ks key) := by unfold Hid; rw [HKe.out]
  go_wp2_with fail
  refine (putF_any _ _ _ _ _ _ _ _ _ ks key _ rfl rfl rfl Hk3.out HS3.out HO3.out Hd.out (fun k hk => by have := HsM.out k hk; unfold maxLen; omega) (by have := Hkl.out; omega) hl ht Hck.out).mono ?_
  rintro e w9 ⟨A9, c9, S9, d9, rfl, hF, q9, hcp⟩
  have Hcp := Lib.hid hcp
  clear hcp
  have HF := Lib.hid hF
  have hRl := HR3.out.lt
  have q9a := (Q.refl w9).alloc (Obj.cells #[.slice A9 (putL ks key).length c9, .slice S9 (layI (putL ks key)).length d9] 26)
  have HR9 := Lib.hid ((HR3.out.q q9).q q9a)
  have bb := BoxT.new w9 (.slice A9 (putL ks key).length c9) (.slice S9 (layI (putL ks key)).length d9) 26
  have r0 := HR9.out.c0
  have r1 := HR9.out.c1
  have f0 := HR9.out.f0
  have f1 := HR9.out.f1
  have b0' := bb.c0
  have b1' := bb.c1
  obtain ⟨PL, hPL⟩ : ∃ PL, putL ks key = PL := ⟨_, rfl⟩
  obtain ⟨pl, hpl⟩ : ∃ pl, placeI ks key = pl := ⟨_, rfl⟩
  have HPL : Hid (putL ks t.key = PL) := Hpl.out.trans hPL
  have HpL : Hid (placeI ks t.key = pl) := HPl.out.trans hpl
  rw [hPL] at Hcp HF q9a HR9 r0 r1 f0 f1 b0' b1' ⊢
  rw [hpl]
  have hq9 := q9.size
  clear hF b0 b1 bb hPL hpl
  go_wp2_with fail
  generalize w9.alloc (Obj.cells #[.slice A9 PL.length c9, .slice S9 (layI PL).length d9] 26) = W9 at *
  obtain ⟨y0, y1⟩ := HR9.out.two (.slice A9 PL.length c9) (.slice S9 (layI PL).length d9)
  obtain ⟨hK, hQ⟩ := putG_close (u := .slice A9 PL.length c9) (v := .slice S9 (layI PL).length d9) (w := w) HF.out hRl q9a (by omega) ((q03.trans q9).trans q9a)
  exact bodyPost_ret (v := .tuple #[.agg #[.slice A9 PL.length c9, .slice S9 (layI PL).length d9], .int .i64 pl, .int .i64 0]) (by simp [results, Tryz.f79, go_sem, y0, y1]) rfl ⟨A9, c9, S9, d9, by rw [HPL.out, HpL.out], by rw [HPL.out]; exact hK, hQ, by rw [HPL.out]; exact Hcp.out⟩

theorem put3G_any (L A S E : Option Addr) (nl cl n c m d ne ce : Nat) (l : List Sg.Sig) (ks : List (List Int)) (t : Tm) (limit : Int) (w : World) (hnl : nl = l.length) (hr : Sg.Row w w.heap.size L l) (hn : n = ks.length) (hm : m = (layI ks).length) (hk : Keys w w.heap.size A ks) (hS : Ints w w.heap.size S (layI ks)) (hne : ne = t.xs.length) (he : Ints w w.heap.size E t.xs)
    (hw : Wf t.k) (hd : Dist ks) (hs : ∀ k ∈ ks, k.length ≤ 100000) (hl : ks.length ≤ 5000) (ht : ks.flatten.length ≤ 50000) (hx : t.xs.length ≤ 4000) :
    Calls Tryz.prog 79 #[.slice L nl cl, .agg #[.slice A n c, .slice S m d], .agg #[.int .i64 t.k, .int .i64 t.s, .int .i64 t.p, .slice E ne ce], .int .i64 limit] w (PutG (put3L l ks t limit) (layI (put3L l ks t limit)) (put3I l ks t limit) (put3E l ks t limit) w) := by
  subst hn
  subst hm
  unfold put3L put3I put3E fullB newB
  cases hM : mayB l ks.length t
  · exact put3_arg L A S E nl cl c d ne ce l ks t limit w hnl hr hk hS hne he hw hd hs hl ht hx hM
  · by_cases hlim : limit ≤ (ks.length : Int)
    · rcases atI_cases ks t.key with ⟨h1, _⟩ | ⟨i, _, h2⟩
      · rw [decide_eq_true hlim, h1]
        exact put3_full L A S E nl cl c d ne ce l ks t limit w hnl hr hk hS hne he hw hd hs hl ht hx hM hlim h1
      · rw [decide_eq_true hlim, h2, decide_eq_false (by omega : ¬ (i : Int) < 0)]
        exact put3_there L A S E nl cl c d ne ce l ks t limit w hnl hr hk hS hne he hw hd hs hl ht hx hM hlim i h2
    · rw [decide_eq_false hlim]
      exact put3_room L A S E nl cl c d ne ce l ks t limit w hnl hr hk hS hne he hw hd hs hl ht hx hM (by omega)
end Go.Proofs.YtdmdcggmgipdbaaGreatDoor.Tm

namespace Go.Proofs.YtdmdcggmgipdbaaGreatDoor.Tm
open Go.RowKit Kit Hs

def LookB (B : Nat) (ks : List (List Int)) (id : Int) (w : World) (e : Ending) (w' : World) : Prop :=
  ∃ A n c, e = .returned (.tuple #[.agg #[.int .i64 ((termAt ks id).getD .none).k, .int .i64 ((termAt ks id).getD .none).s, .int .i64 ((termAt ks id).getD .none).p, .slice A n c], .bool (termAt ks id).isSome]) ∧ n = ((termAt ks id).getD .none).xs.length ∧ Ints w' B A ((termAt ks id).getD .none).xs ∧ Q w w'
theorem lookB_none {B : Nat} {ks : List (List Int)} {id : Int} {w w' : World} (h : termAt ks id = none) (q : Q w w') : LookB B ks id w (.returned (.tuple #[.agg #[.int .i64 0, .int .i64 0, .int .i64 0, .slice none 0 0], .bool false])) w' := by
  unfold LookB
  rw [h]
  exact ⟨none, 0, 0, rfl, rfl, fun h => absurd h (by simp [Tm.none]), q⟩
theorem lookB_some {B : Nat} {ks : List (List Int)} {id : Int} {w w' : World} {t : Tm} {A : Option Addr} {n c : Nat} (h : termAt ks id = some t) (hn : n = t.xs.length) (hA : Ints w' B A t.xs) (q : Q w w') : LookB B ks id w (.returned (.tuple #[.agg #[.int .i64 t.k, .int .i64 t.s, .int .i64 t.p, .slice A n c], .bool true])) w' := by
  unfold LookB
  rw [h]
  exact ⟨A, n, c, rfl, hn, hA, q⟩
theorem drop_intsB {w w' : World} {B : Nat} {ad : Addr} {key : List Int} (hc : ∀ (i : Nat) (x : Int), key[i]? = some x → w.cell? (ad.add i) = some (.int .i64 x)) (hb : ad.block < B) (hB : B ≤ w.heap.size) (q : Q w w') (n : Nat) : Ints w' B (some (ad.add n)) (key.drop n) := fun _ => by
  refine ⟨_, rfl, by rw [add_block]; exact hb, fun i x hx => ?_⟩
  rw [List.getElem?_drop] at hx
  rw [Addr.add_add, q.cell (by rw [add_block]; exact Nat.lt_of_lt_of_le hb hB)]
  exact hc _ x hx

set_option maxRecDepth 100000 in
set_option maxHeartbeats 1000000 in
theorem lookB_any (Bd : Nat) (A S : Option Addr) (n c m d : Nat) (ks : List (List Int)) (id : Int) (w : World) (hn : n = ks.length) (hk : Keys w Bd A ks) (hBd : Bd ≤ w.heap.size) :
    Calls Tryz.prog 65 #[.agg #[.slice A n c, .slice S m d], .int .i64 id] w (LookB Bd ks id w) := by
  subst hn
  have q0 := ((Q.refl w).alloc (Obj.cells #[Value.slice A ks.length c, Value.slice S m d] 26)).alloc (Obj.cells #[.int .i64 0, .int .i64 0, .int .i64 0, .slice none 0 0] 77)
  cases hp : isPl id ks.length
  · have HT := Lib.hid (termAt_out hp)
    clear hk
    go_enter Tryz.func65, Tryz.ntmps65
    go_wp2_with (go_at_call 64; refine (isPlace_any _ _ _).mono ?_; rintro e w' ⟨rfl, rfl⟩)
    refine bodyPost_ret (v := .tuple #[.agg #[.int .i64 0, .int .i64 0, .int .i64 0, .slice none 0 0], .bool false]) (by simp [results, Tryz.f65, go_sem]) rfl (lookB_none HT.out q0)
  · obtain ⟨h0, h1⟩ := (isPl_iff _ _).1 hp
    obtain ⟨i, rfl⟩ := Int.eq_ofNat_of_zero_le h0
    have hlt : i < ks.length := by omega
    obtain ⟨ad, rfl, hb, a, c1, hle, c0, hi⟩ := hk.at_ hlt
    by_cases h3 : 3 ≤ ks[i].length
    · have HT := Lib.hid (termAt_key hlt h3)
      obtain ⟨ad1, rfl, hb1, hc1⟩ := hi (by omega)
      have k0 := hc1 0 _ (List.getElem?_eq_getElem (show 0 < ks[i].length by omega))
      have k1 := hc1 1 _ (List.getElem?_eq_getElem (show 1 < ks[i].length by omega))
      have k2 := hc1 2 _ (List.getElem?_eq_getElem (show 2 < ks[i].length by omega))
      have hsl := slice_l (some ad1) ks[i].length c1 3 h3
      have d3 : decide (ks[i].length < 3) = false := decide_eq_false (by omega)
      have Hc := Lib.hid hc1
      have c0' := (q0.cell (p := ad.add i) (by rw [add_block]; exact Nat.lt_of_lt_of_le hb hBd)).trans c0
      have k0' : ((w.alloc (Obj.cells #[Value.slice (some ad) ks.length c, Value.slice S m d] 26)).alloc (Obj.cells #[.int .i64 0, .int .i64 0, .int .i64 0, .slice none 0 0] 77)).cell? ad1 = some (.int .i64 ks[i][0]) := (q0.cell (by exact Nat.lt_of_lt_of_le hb1 hBd)).trans (by simpa [Addr.add] using k0)
      have k1' : ((w.alloc (Obj.cells #[Value.slice (some ad) ks.length c, Value.slice S m d] 26)).alloc (Obj.cells #[.int .i64 0, .int .i64 0, .int .i64 0, .slice none 0 0] 77)).cell? ⟨ad1.block, ad1.off + 1, none⟩ = some (.int .i64 ks[i][1]) := (q0.cell (by exact Nat.lt_of_lt_of_le hb1 hBd)).trans (by simpa [Addr.add] using k1)
      have k2' : ((w.alloc (Obj.cells #[Value.slice (some ad) ks.length c, Value.slice S m d] 26)).alloc (Obj.cells #[.int .i64 0, .int .i64 0, .int .i64 0, .slice none 0 0] 77)).cell? ⟨ad1.block, ad1.off + 2, none⟩ = some (.int .i64 ks[i][2]) := (q0.cell (by exact Nat.lt_of_lt_of_le hb1 hBd)).trans (by simpa [Addr.add] using k2)
      clear hk hc1 hi c0 k0 k1 k2
      go_enter Tryz.func65, Tryz.ntmps65
      go_wp2_with (go_at_call 64; refine (isPlace_any _ _ _).mono ?_; rintro e w' ⟨rfl, rfl⟩)
      go_region
      all_goals go_wp2_with fail
      · rename_i h
        have qW : Q w (((w.alloc (Obj.cells #[Value.slice (some ad) ks.length c, Value.slice S m d] 26)).alloc (Obj.cells #[.int .i64 ks[i][0], .int .i64 ks[i][1], .int .i64 ks[i][2], .slice (some ad1) (ks[i].length - 3) 0] 77)).drew) := (((Q.refl w).alloc _).alloc _).drew
        refine bodyPost_ret (v := .tuple #[.agg #[.int .i64 ks[i][0], .int .i64 ks[i][1], .int .i64 ks[i][2], .slice (some ad1) (ks[i].length - 3) 0], .bool true]) (by simp [results, Tryz.f65, go_sem]) rfl (lookB_some HT.out (by simp) (fun h0 => ?_) qW)
        rw [List.length_drop] at h0
        omega
      · have qW : Q w (((w.alloc (Obj.cells #[Value.slice (some ad) ks.length c, Value.slice S m d] 26)).alloc (Obj.cells #[.int .i64 ks[i][0], .int .i64 ks[i][1], .int .i64 ks[i][2], .slice (some ⟨ad1.block, ad1.off + 3, none⟩) (ks[i].length - 3) (c1 - 3)] 77)).drew) := (((Q.refl w).alloc _).alloc _).drew
        refine bodyPost_ret (v := .tuple #[.agg #[.int .i64 ks[i][0], .int .i64 ks[i][1], .int .i64 ks[i][2], .slice (some ⟨ad1.block, ad1.off + 3, none⟩) (ks[i].length - 3) (c1 - 3)], .bool true]) (by simp [results, Tryz.f65, go_sem]) rfl (lookB_some HT.out (by simp) ?_ qW)
        exact drop_intsB Hc.out hb1 hBd qW 3
    · have HT := Lib.hid (termAt_short hlt (Nat.lt_of_not_le h3))
      have d3 : decide (ks[i].length < 3) = true := decide_eq_true (by omega)
      have c0' := (q0.cell (p := ad.add i) (by rw [add_block]; exact Nat.lt_of_lt_of_le hb hBd)).trans c0
      clear hk hi c0
      go_enter Tryz.func65, Tryz.ntmps65
      go_wp2_with (go_at_call 64; refine (isPlace_any _ _ _).mono ?_; rintro e w' ⟨rfl, rfl⟩)
      exact bodyPost_ret (v := .tuple #[.agg #[.int .i64 0, .int .i64 0, .int .i64 0, .slice none 0 0], .bool false]) (by simp [results, Tryz.f65, go_sem]) rfl (lookB_none HT.out q0)

/-- a row with its first k and its last k turned round -/
def rv (l : List Int) (k : Nat) : List Int := (List.range l.length).map fun p => if p < k ∨ l.length - k ≤ p then l[l.length - 1 - p]?.getD 0 else l[p]?.getD 0
theorem rv_length (l : List Int) (k : Nat) : (rv l k).length = l.length := by simp [rv]
theorem rv_at (l : List Int) (k p : Nat) (h : p < l.length) : (rv l k)[p]? = some (if p < k ∨ l.length - k ≤ p then l[l.length - 1 - p]?.getD 0 else l[p]?.getD 0) := by simp [rv, h]
theorem rv_zero (l : List Int) : rv l 0 = l := by
  apply List.ext_getElem?
  intro p
  by_cases h : p < l.length
  · rw [rv_at l 0 p h, if_neg (by omega), List.getElem?_eq_getElem h]; rfl
  · rw [List.getElem?_eq_none (by rw [rv_length]; omega), List.getElem?_eq_none (by omega)]
theorem rv_end (l : List Int) (k : Nat) (h : l.length ≤ 2 * k + 1) : rv l k = l.reverse := by
  apply List.ext_getElem?
  intro p
  by_cases hp : p < l.length
  · rw [rv_at l k p hp, List.getElem?_reverse hp]
    have hq : l.length - 1 - p < l.length := by omega
    split
    · rw [List.getElem?_eq_getElem hq]; rfl
    · have : p = l.length - 1 - p := by omega
      rw [← this, List.getElem?_eq_getElem hp]; rfl
  · rw [List.getElem?_eq_none (by rw [rv_length]; omega), List.getElem?_eq_none (by rw [List.length_reverse]; omega)]
theorem rv_step (l : List Int) (k : Nat) (h : 2 * k + 1 < l.length) : ((rv l k).set k (l[l.length - 1 - k]?.getD 0)).set (l.length - 1 - k) (l[k]?.getD 0) = rv l (k + 1) := by
  apply List.ext_getElem?
  intro p
  by_cases hp : p < l.length
  · rw [rv_at l (k + 1) p hp]
    by_cases e1 : l.length - 1 - k = p
    · rw [e1, List.getElem?_set_self (by rw [List.length_set, rv_length]; exact hp), if_pos (by omega), show l.length - 1 - p = k by omega]
    · rw [List.getElem?_set_ne e1]
      by_cases e2 : k = p
      · rw [e2, List.getElem?_set_self (by rw [rv_length]; exact hp), if_pos (by omega)]
      · rw [List.getElem?_set_ne e2, rv_at l k p hp]
        by_cases e3 : p < k ∨ l.length - k ≤ p
        · rw [if_pos e3, if_pos (by omega)]
        · rw [if_neg e3, if_neg (by omega)]
  · rw [List.getElem?_eq_none (by simp [rv_length]; omega), List.getElem?_eq_none (by rw [rv_length]; omega)]

set_option maxRecDepth 100000 in
set_option maxHeartbeats 1000000 in
theorem reverse_any (g n c : Nat) (l : List Int) (w : World) (hn : n = l.length) (hO : OwnI w g l) (hl : l.length ≤ 100000) :
    Calls Tryz.prog 66 #[.slice (some ⟨g, 0, none⟩) n c] w fun e w' => (∃ v, e = .returned v) ∧ OwnI w' g l.reverse ∧ w'.heap.size = w.heap.size ∧ Below g w w' ∧ ∀ p : Addr, p.block ≠ g → w'.cell? p = w.cell? p ∧ w'.frozen? p = w.frozen? p := by
  subst hn
  have HO := Lib.hid hO
  clear hO
  have h0 : (0 : Int) ≤ (l.length : Int) := by omega
  go_enter Tryz.func66, Tryz.ntmps66
  go_wp2_with fail
  go_loopw [2, 3] (fun i j wr => ∃ k : Nat, 2 * k ≤ l.length ∧ i = .int .i64 k ∧ j = .int .i64 ((l.length : Int) - 1 - (k : Int)) ∧ Hid (OwnI wr g (rv l k)) ∧ Hid (wr.heap.size = w.heap.size) ∧ Below g w wr ∧ Hid (∀ p : Addr, p.block ≠ g → wr.cell? p = w.cell? p ∧ wr.frozen? p = w.frozen? p)) (fun i _ _ => l.length - (intOf i).toNat)
  case atStart => exact ⟨0, by omega, rfl, by simp, by rw [rv_zero]; exact HO, Lib.hid rfl, Below.refl _ _, Lib.hid (fun _ _ => ⟨rfl, rfl⟩)⟩
  case round =>
    obtain ⟨k, hk, rfl, rfl, HR, HZ, hB, HE⟩ := hrel
    by_cases hlt : 2 * k + 1 < l.length
    · obtain ⟨j, hj⟩ : ∃ j : Nat, (l.length : Int) - 1 - (k : Int) = (j : Int) := ⟨l.length - 1 - k, by omega⟩
      have hjn : j = l.length - 1 - k := by omega
      have c1 := HR.out.2 k _ (rv_at l k k (by omega))
      have c2 := HR.out.2 j _ (rv_at l k j (by omega))
      rw [if_neg (by omega)] at c1 c2
      have Hst : Hid (((rv l k).set k (l[j]?.getD 0)).set j (l[k]?.getD 0) = rv l (k + 1)) := by unfold Hid; rw [hjn]; exact rv_step l k hlt
      have Hst2 : Hid (((rv l k).set j (l[k]?.getD 0)).set k (l[j]?.getD 0) = rv l (k + 1)) := by unfold Hid; rw [List.set_comm _ _ (by omega)]; exact Hst.out
      obtain ⟨a1, a2⟩ := c1
      obtain ⟨b1, b2⟩ := c2
      have hkj : k < j := by omega
      have hjl : j < l.length := by omega
      rw [hj]
      obtain ⟨x, hx⟩ : ∃ x, l[k]?.getD 0 = x := ⟨_, rfl⟩
      obtain ⟨y, hy⟩ : ∃ y, l[j]?.getD 0 = y := ⟨_, rfl⟩
      rw [hx] at a1 Hst Hst2
      rw [hy] at b1 Hst Hst2
      have Hj := Lib.hid hj
      have Hl1 : Hid (k < (rv l k).length) := by unfold Hid; rw [rv_length]; omega
      have Hl2 : Hid (j < (rv l k).length) := by unfold Hid; rw [rv_length]; omega
      have kj : (k : Int) < (j : Int) := by omega
      have kl : (k : Int) < (l.length : Int) := by omega
      have jl : (j : Int) < (l.length : Int) := by omega
      clear hx hy hj hjn
      go_wp2_with fail
      go_region
      all_goals go_wp2_with fail
      go_roundw
      case rel =>
        refine ⟨k + 1, by omega, by go_num, by have := Hj.out; congr 1; omega, Lib.hid ?_, Lib.hid ?_, ?_, Lib.hid ?_⟩
        · rw [← Hst.out]; exact (HR.out.set Hl1.out y).set (by rw [List.length_set]; exact Hl2.out) x
        · have := HZ.out; simpa [World.setCell] using this
        · exact ((hB.setCell (p := ⟨g, k, none⟩) (Nat.le_refl _) _).setCell (p := ⟨g, j, none⟩) (Nat.le_refl _) _).drew
        · intro p hp
          have := HE.out p hp
          refine ⟨((World.cell?_setCell_far _ _ _ _ (fun e => hp e.symm)).trans (World.cell?_setCell_far _ _ _ _ (fun e => hp e.symm))).trans this.1, ?_⟩
          show ((wr.setCell _ _).setCell _ _).frozen? p = _
          rw [World.frozen?_setCell, World.frozen?_setCell]
          exact this.2
      case measure => simp [intOf]; omega
    · have HEn := Lib.hid (rv_end l k (by omega))
      go_wp2_with fail
      go_end0
      exact ⟨⟨_, rfl⟩, by rw [← HEn.out]; exact HR.out, HZ.out, hB, HE.out⟩
end Go.Proofs.YtdmdcggmgipdbaaGreatDoor.Tm

namespace Go.Proofs.YtdmdcggmgipdbaaGreatDoor.Tm
open Go.RowKit Kit Hs

def argsOf (ks : List (List Int)) (y : Nat) : List Int := ((termAt ks (y : Int)).getD .none).xs
def markAll (at' : Nat) : List Int → List Bool → List Bool
  | [], mk => mk
  | x :: r, mk => markAll at' r (if isPl x at' then mk.set x.toNat true else mk)
def belF (ks : List (List Int)) : Nat → List Bool → List Int → List Int
  | 0, _, out => out
  | n + 1, mk, out => if mk[n]?.getD false then belF ks n (markAll n (argsOf ks n) mk) (out ++ [(n : Int)]) else belF ks n mk out
def belowL (ks : List (List Int)) (id : Nat) : List Int := (belF ks (id + 1) ((List.replicate (id + 1) false).set id true) []).reverse
theorem markAll_at (a : Nat) (xs : List Int) (mk : List Bool) (j : Nat) (h : j < xs.length) : markAll a (xs.drop j) mk = markAll a (xs.drop (j + 1)) (if isPl xs[j] a then mk.set xs[j].toNat true else mk) := by
  rw [List.drop_eq_getElem_cons h]; rfl
theorem markAll_end (a : Nat) (xs : List Int) (mk : List Bool) (j : Nat) (h : xs.length ≤ j) : markAll a (xs.drop j) mk = mk := by
  rw [List.drop_eq_nil_of_le h]; rfl
theorem markAll_length (a : Nat) : ∀ (xs : List Int) (mk : List Bool), (markAll a xs mk).length = mk.length
  | [], _ => rfl
  | x :: r, mk => by rw [markAll, markAll_length a r]; split <;> simp
theorem belF_yes {ks : List (List Int)} {n : Nat} {mk : List Bool} {out : List Int} (h : mk[n]? = some true) : belF ks (n + 1) mk out = belF ks n (markAll n (argsOf ks n) mk) (out ++ [(n : Int)]) := by rw [belF, h]; rfl
theorem belF_no {ks : List (List Int)} {n : Nat} {mk : List Bool} {out : List Int} (h : mk[n]? = some false) : belF ks (n + 1) mk out = belF ks n mk out := by rw [belF, h]; rfl

/-- block g holds these bools, from its head on, and may be written -/
def OwnB (w : World) (g : Nat) (mk : List Bool) : Prop := g < w.heap.size ∧ ∀ i b, mk[i]? = some b → w.cell? ⟨g, i, none⟩ = some (.bool b) ∧ w.frozen? ⟨g, i, none⟩ = false
theorem OwnB.q {w w' : World} {g : Nat} {mk : List Bool} (h : OwnB w g mk) (q : Q w w') : OwnB w' g mk :=
  ⟨Nat.lt_of_lt_of_le h.1 q.size, fun i x hx => ⟨(q.cell (p := ⟨g, i, none⟩) h.1).trans (h.2 i x hx).1, (q.frozen (p := ⟨g, i, none⟩) h.1).trans (h.2 i x hx).2⟩⟩
theorem OwnB.grown {w w' : World} {g : Nat} {mk : List Bool} {row : Option Nat} (h : OwnB w g mk) (hg : w.grownBy w' row) (hne : some g ≠ row) : OwnB w' g mk :=
  ⟨Nat.lt_of_lt_of_le h.1 hg.size, fun i x hx => ⟨(hg.cell_far ⟨g, i, none⟩ h.1 hne).trans (h.2 i x hx).1, (hg.frozen_far ⟨g, i, none⟩ h.1 hne).trans (h.2 i x hx).2⟩⟩
theorem OwnB.set {w : World} {g : Nat} {mk : List Bool} (h : OwnB w g mk) {s : Nat} (hs : s < mk.length) (v : Bool) : OwnB (w.setCell ⟨g, s, none⟩ (.bool v)) g (mk.set s v) := by
  refine ⟨by simp [World.setCell]; exact h.1, fun i x hx => ?_⟩
  rw [World.frozen?_setCell]
  have hc := h.2 s _ (List.getElem?_eq_getElem hs)
  by_cases hi : s = i
  · subst hi
    rw [List.getElem?_set_self hs] at hx
    obtain rfl : v = x := by simpa using hx
    exact ⟨setCell_eq hc.1, hc.2⟩
  · rw [List.getElem?_set_ne hi] at hx
    exact ⟨setCell_ne hi (h.2 i x hx).1, (h.2 i x hx).2⟩
theorem OwnB.made (w : World) (n : Nat) (t : TypeId) : OwnB (w.alloc (.cells (madeCells #[.bool false] n) t)) w.heap.size (List.replicate n false) := by
  refine ⟨by simp, fun i x hx => ?_⟩
  have hi : i < n := by have := (List.getElem?_eq_some_iff.1 hx).1; simpa using this
  have e : x = false := by rw [List.getElem?_replicate, if_pos hi] at hx; simpa using hx.symm
  subst e
  refine ⟨?_, World.frozen?_alloc_at _ _ _ _ rfl⟩
  rw [cell_of_row _ _ _ _ _ _ (heap_alloc_new w _)]
  simp [madeCells, hi, Nat.mod_one]
theorem boolInfo : (Tryz.prog.info? 4).map (fun i => (i.zero, i.size, i.bytes)) = some (some (.bool false), 1, 1) := by kernel_rfl
theorem make_bools (n : Nat) (hn : n ≤ 100000000) (u : World) : (Instr.makeSlice 106 (.int .i64 (n : Int)) (.int .i64 (n : Int))).run Tryz.prog u = .ok (.slice (some ⟨u.heap.size, 0, none⟩) n n) (u.alloc (.cells (madeCells #[.bool false] n) 4)) := by
  obtain ⟨i0, hi, hz0, hz1, hz2⟩ := info_parts boolInfo
  have h := run_make (P := Tryz.prog) u 106 4 i0 _ Tryz.underlying106 hi hz0 .i64 .i64 (n : Int) (n : Int) (by omega) (by omega) (by rw [hz2]; omega) (by omega)
  rw [hz1, Nat.mul_one] at h
  exact h
theorem grown_set (w : World) (b i : Nat) (v : Value) : w.grownBy (w.setCell ⟨b, i, none⟩ v) (some b) :=
  ⟨rfl, rfl, rfl, by simp [World.setCell], fun k _ hk => Below.heap_setCell _ _ _ _ (fun e => hk (by simp [e]))⟩
end Go.Proofs.YtdmdcggmgipdbaaGreatDoor.Tm
