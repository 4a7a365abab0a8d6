/-
  Contract of term.Put.
-/
import Derived.Test.YtgnbempkobgeiaaTermT
import Derived.Test.YtgnbempkobgeiaaHashHF
namespace Go.Proofs.Ytgnbempkobgeiaa.Tm
open Go.RowKit Kit Hs

def PutE (ks : List (List Int)) (sl : List Int) (place err : Int) (w : World) (e : Ending) (w' : World) : Prop :=
  ∃ A c S d, e = .returned (.tuple #[.agg #[.slice A ks.length c, .slice S sl.length d], .int .i64 place, .int .i64 err]) ∧ Keys w' w'.heap.size A ks ∧ Ints w' w'.heap.size S sl ∧ Q w w' ∧ ks.length ≤ c
def fullB (ks : List (List Int)) (t : Tm) (limit : Int) : Bool := decide (limit ≤ (ks.length : Int)) && newB ks t.key
def put3L (l : List Sg.Sig) (ks : List (List Int)) (t : Tm) (limit : Int) : List (List Int) := if mayB l ks.length t then if fullB ks t limit then ks else putL ks t.key else ks
def put3I (l : List Sg.Sig) (ks : List (List Int)) (t : Tm) (limit : Int) : Int := if mayB l ks.length t then if fullB ks t limit then 0 else placeI ks t.key else 0
def put3E (l : List Sg.Sig) (ks : List (List Int)) (t : Tm) (limit : Int) : Int := if mayB l ks.length t then if fullB ks t limit then 7 else 0 else 1

theorem putE_close {w w4 w5 w6 : World} {A S : Option Addr} {K : List (List Int)} {SL : List Int} {R : Nat} {u v : Value}
    (hF : ∀ W' : World, (∀ p : Addr, w4.heap.size ≤ p.block → p.block < w5.heap.size → W'.cell? p = w5.cell? p) → Keys W' w5.heap.size A K ∧ Ints W' w5.heap.size S SL) (hR : R < w4.heap.size) (q56 : Q w5 w6) (hwR : w.heap.size ≤ R) (q6 : Q w w6) :
    Keys ((w6.setCell ⟨R, 0, none⟩ u).setCell ⟨R, 1, none⟩ v) ((w6.setCell ⟨R, 0, none⟩ u).setCell ⟨R, 1, none⟩ v).heap.size A K ∧ Ints ((w6.setCell ⟨R, 0, none⟩ u).setCell ⟨R, 1, none⟩ v) ((w6.setCell ⟨R, 0, none⟩ u).setCell ⟨R, 1, none⟩ v).heap.size S SL ∧ Q w ((w6.setCell ⟨R, 0, none⟩ u).setCell ⟨R, 1, none⟩ v) := by
  have hz : ((w6.setCell ⟨R, 0, none⟩ u).setCell ⟨R, 1, none⟩ v).heap.size = w6.heap.size := by simp [World.setCell]
  obtain ⟨hK, hI⟩ := hF ((w6.setCell ⟨R, 0, none⟩ u).setCell ⟨R, 1, none⟩ v) fun p h1 h2 => (set_two_other _ _ _ _ _ (by omega)).trans (q56.cell h2)
  exact ⟨hK.more (by rw [hz]; exact q56.size), hI.more (by rw [hz]; exact q56.size), (q6.setCell (p := ⟨R, 0, none⟩) hwR _).setCell (p := ⟨R, 1, none⟩) hwR _⟩
theorem BoxF.two {W : World} {B : Nat} (h : BoxF W B) (u v : Value) : ((W.setCell ⟨B, 0, none⟩ u).setCell ⟨B, 1, none⟩ v).cell? ⟨B, 0, none⟩ = some u ∧ ((W.setCell ⟨B, 0, none⟩ u).setCell ⟨B, 1, none⟩ v).cell? ⟨B, 1, none⟩ = some v :=
  ⟨setCell_ne (by omega) (setCell_eq h.c0), setCell_eq (setCell_ne (by omega) h.c1)⟩
theorem key_len (t : Tm) : t.key.length = t.xs.length + 3 := by simp [Tm.key]

set_option maxRecDepth 100000 in
set_option maxHeartbeats 2000000 in
theorem put3_arg (L A S E : Option Addr) (nl cl c d ne ce : Nat) (l : List Sg.Sig) (ks : List (List Int)) (t : Tm) (limit : Int) (w : World) (hnl : nl = l.length) (hr : Sg.Row w w.heap.size L l) (hk : Keys w w.heap.size A ks) (hS : Ints w w.heap.size S (layI ks)) (hne : ne = t.xs.length) (he : Ints w w.heap.size E t.xs)
    (hw : Wf t.k) (hd : Dist ks) (hs : ∀ k ∈ ks, k.length ≤ 100000) (hl : ks.length ≤ 5000) (_ht : ks.flatten.length ≤ 50000) (hx : t.xs.length ≤ 4000) (hM : mayB l ks.length t = false) :
    Calls Try.prog 11 #[.slice L nl cl, .agg #[.slice A ks.length c, .slice S (layI ks).length d], .agg #[.int .i64 t.k, .int .i64 t.s, .int .i64 t.p, .slice E ne ce], .int .i64 limit] w (PutE ks (layI ks) 0 1 w) := by
  subst hnl
  have hx2 : t.xs.length ≤ maxLen := by unfold maxLen; omega
  have hz : (layI ks).length ≤ 100000 := by rw [layI_length]; have := sizeN_le ks.length; omega
  have Hz := Lib.hid hz
  have q0 := (((Q.refl w).alloc (Obj.cells #[Value.slice A ks.length c, Value.slice S (layI ks).length d] 26)).alloc (Obj.cells #[.int .i64 t.k, .int .i64 t.s, .int .i64 t.p, .slice E ne ce] 28)).alloc (Obj.cells #[Value.slice none 0 0, Value.slice none 0 0] 26)
  have Hr := Lib.hid ((hr.q (Nat.le_refl _) q0).more q0.size)
  have Hk := Lib.hid ((hk.q (Nat.le_refl _) q0).more q0.size)
  have HS := Lib.hid ((hS.q (Nat.le_refl _) q0).more q0.size)
  have He := Lib.hid ((he.q (Nat.le_refl _) q0).more q0.size)
  have HT := Lib.hid ((BoxT.new w (Value.slice A ks.length c) (Value.slice S (layI ks).length d) 26).q (((Q.refl _).alloc (Obj.cells #[.int .i64 t.k, .int .i64 t.s, .int .i64 t.p, .slice E ne ce] 28)).alloc (Obj.cells #[Value.slice none 0 0, Value.slice none 0 0] 26)))
  have X := (Box4.new (w.alloc (Obj.cells #[Value.slice A ks.length c, Value.slice S (layI ks).length d] 26)) (.int .i64 t.k) (.int .i64 t.s) (.int .i64 t.p) (.slice E ne ce) 28).q ((Q.refl _).alloc (Obj.cells #[Value.slice none 0 0, Value.slice none 0 0] 26))
  have R := BoxF.new ((w.alloc (Obj.cells #[Value.slice A ks.length c, Value.slice S (layI ks).length d] 26)).alloc (Obj.cells #[.int .i64 t.k, .int .i64 t.s, .int .i64 t.p, .slice E ne ce] 28)) 26
  simp only [World.size_alloc] at X R
  have HX := Lib.hid X
  have HR := Lib.hid R
  have HsM := Lib.hid hs
  have Hne := Lib.hid hne
  have Hd := Lib.hid hd
  clear hr hk hS he X R hs hne hz hd
  go_enter Try.func11, Try.ntmps11
  go_wp2_with fail
  generalize ((w.alloc (Obj.cells #[Value.slice A ks.length c, Value.slice S (layI ks).length d] 26)).alloc (Obj.cells #[.int .i64 t.k, .int .i64 t.s, .int .i64 t.p, .slice E ne ce] 28)).alloc (Obj.cells #[Value.slice none 0 0, Value.slice none 0 0] 26) = W0 at *
  refine (may_any _ _ _ _ _ _ _ _ _ _ _ _ l t _ rfl Hr.out Hne.out He.out hw hx2).mono ?_
  rintro e w1 ⟨rfl, q1⟩
  have HT1 := Lib.hid (HT.out.q q1)
  have HX1 := Lib.hid (HX.out.q q1)
  have HR1 := Lib.hid (HR.out.q q1)
  have Hk1 := Lib.hid ((Hk.out.q (Nat.le_refl _) q1).more q1.size)
  have HS1 := Lib.hid ((HS.out.q (Nat.le_refl _) q1).more q1.size)
  have He1 := Lib.hid ((He.out.q (Nat.le_refl _) q1).more q1.size)
  have q01 := q0.trans q1
  clear Hr Hk HS He HT HX HR q0 q1
  rw [hM]
  clear hM He1 Hne
  have b0 := HT1.out.c0
  have b1 := HT1.out.c1
  go_wp2_with fail
  refine (copyOf_any _ _ _ _ _ _ ks (layI ks) _ rfl rfl Hk1.out HS1.out hl HsM.out Hz.out).mono ?_
  rintro e w9 ⟨A9, c9, S9, d9, rfl, hF, q9, hcp⟩
  have Hcp := Lib.hid hcp
  clear hcp
  have HF := Lib.hid hF
  have HR9 := Lib.hid (HR1.out.q q9)
  have r0 := HR9.out.c0
  have r1 := HR9.out.c1
  have f0 := HR9.out.f0
  have f1 := HR9.out.f1
  have hRl := HR1.out.lt
  clear hF b0 b1
  go_wp2_with fail
  obtain ⟨y0, y1⟩ := HR9.out.two (.slice A9 ks.length c9) (.slice S9 (layI ks).length d9)
  obtain ⟨hK, hI, hQ⟩ := putE_close (u := .slice A9 ks.length c9) (v := .slice S9 (layI ks).length d9) (w := w) HF.out hRl (Q.refl w9) (by omega) (q01.trans q9)
  exact bodyPost_ret (v := .tuple #[.agg #[.slice A9 ks.length c9, .slice S9 (layI ks).length d9], .int .i64 0, .int .i64 1]) (by simp [results, Try.f11, go_sem, y0, y1]) rfl ⟨A9, c9, S9, d9, rfl, hK, hI, hQ, Hcp.out⟩

set_option maxRecDepth 100000 in
set_option maxHeartbeats 2000000 in
theorem put3_full (L A S E : Option Addr) (nl cl c d ne ce : Nat) (l : List Sg.Sig) (ks : List (List Int)) (t : Tm) (limit : Int) (w : World) (hnl : nl = l.length) (hr : Sg.Row w w.heap.size L l) (hk : Keys w w.heap.size A ks) (hS : Ints w w.heap.size S (layI ks)) (hne : ne = t.xs.length) (he : Ints w w.heap.size E t.xs)
    (hw : Wf t.k) (hd : Dist ks) (hs : ∀ k ∈ ks, k.length ≤ 100000) (hl : ks.length ≤ 5000) (_ht : ks.flatten.length ≤ 50000) (hx : t.xs.length ≤ 4000) (hM : mayB l ks.length t = true) (hlim : limit ≤ (ks.length : Int)) (hat : atI ks t.key = -1) :
    Calls Try.prog 11 #[.slice L nl cl, .agg #[.slice A ks.length c, .slice S (layI ks).length d], .agg #[.int .i64 t.k, .int .i64 t.s, .int .i64 t.p, .slice E ne ce], .int .i64 limit] w (PutE ks (layI ks) 0 7 w) := by
  subst hnl
  have hx2 : t.xs.length ≤ maxLen := by unfold maxLen; omega
  have hz : (layI ks).length ≤ 100000 := by rw [layI_length]; have := sizeN_le ks.length; omega
  have Hz := Lib.hid hz
  have q0 := (((Q.refl w).alloc (Obj.cells #[Value.slice A ks.length c, Value.slice S (layI ks).length d] 26)).alloc (Obj.cells #[.int .i64 t.k, .int .i64 t.s, .int .i64 t.p, .slice E ne ce] 28)).alloc (Obj.cells #[Value.slice none 0 0, Value.slice none 0 0] 26)
  have Hr := Lib.hid ((hr.q (Nat.le_refl _) q0).more q0.size)
  have Hk := Lib.hid ((hk.q (Nat.le_refl _) q0).more q0.size)
  have HS := Lib.hid ((hS.q (Nat.le_refl _) q0).more q0.size)
  have He := Lib.hid ((he.q (Nat.le_refl _) q0).more q0.size)
  have HT := Lib.hid ((BoxT.new w (Value.slice A ks.length c) (Value.slice S (layI ks).length d) 26).q (((Q.refl _).alloc (Obj.cells #[.int .i64 t.k, .int .i64 t.s, .int .i64 t.p, .slice E ne ce] 28)).alloc (Obj.cells #[Value.slice none 0 0, Value.slice none 0 0] 26)))
  have X := (Box4.new (w.alloc (Obj.cells #[Value.slice A ks.length c, Value.slice S (layI ks).length d] 26)) (.int .i64 t.k) (.int .i64 t.s) (.int .i64 t.p) (.slice E ne ce) 28).q ((Q.refl _).alloc (Obj.cells #[Value.slice none 0 0, Value.slice none 0 0] 26))
  have R := BoxF.new ((w.alloc (Obj.cells #[Value.slice A ks.length c, Value.slice S (layI ks).length d] 26)).alloc (Obj.cells #[.int .i64 t.k, .int .i64 t.s, .int .i64 t.p, .slice E ne ce] 28)) 26
  simp only [World.size_alloc] at X R
  have HX := Lib.hid X
  have HR := Lib.hid R
  have HsM := Lib.hid hs
  have Hne := Lib.hid hne
  have Hd := Lib.hid hd
  clear hr hk hS he X R hs hne hz hd
  go_enter Try.func11, Try.ntmps11
  go_wp2_with fail
  generalize ((w.alloc (Obj.cells #[Value.slice A ks.length c, Value.slice S (layI ks).length d] 26)).alloc (Obj.cells #[.int .i64 t.k, .int .i64 t.s, .int .i64 t.p, .slice E ne ce] 28)).alloc (Obj.cells #[Value.slice none 0 0, Value.slice none 0 0] 26) = W0 at *
  refine (may_any _ _ _ _ _ _ _ _ _ _ _ _ l t _ rfl Hr.out Hne.out He.out hw hx2).mono ?_
  rintro e w1 ⟨rfl, q1⟩
  have HT1 := Lib.hid (HT.out.q q1)
  have HX1 := Lib.hid (HX.out.q q1)
  have HR1 := Lib.hid (HR.out.q q1)
  have Hk1 := Lib.hid ((Hk.out.q (Nat.le_refl _) q1).more q1.size)
  have HS1 := Lib.hid ((HS.out.q (Nat.le_refl _) q1).more q1.size)
  have He1 := Lib.hid ((He.out.q (Nat.le_refl _) q1).more q1.size)
  have q01 := q0.trans q1
  clear Hr Hk HS He HT HX HR q0 q1
  rw [hM]
  clear hM
  have x0 := HX1.out.c0
  have x1 := HX1.out.c1
  have x2 := HX1.out.c2
  have x3 := HX1.out.c3
  go_wp2_with fail
  refine (key_any _ _ _ _ _ _ t.xs _ Hne.out He1.out (by omega)).mono ?_
  rintro e w2 ⟨gk, ck, rfl, hgk, hck, hO, q2⟩
  have hkl : (t.k :: t.s :: t.p :: t.xs).length = t.xs.length + 3 := by simp
  have HO := Lib.hid hO.ints
  have Hck := Lib.hid hck
  have HT2 := Lib.hid (HT1.out.q q2)
  have HR2 := Lib.hid (HR1.out.q q2)
  have Hk2 := Lib.hid ((Hk1.out.q (Nat.le_refl _) q2).more q2.size)
  have HS2 := Lib.hid ((HS1.out.q (Nat.le_refl _) q2).more q2.size)
  have q02 := q01.trans q2
  obtain ⟨key, hkey⟩ : ∃ key, t.k :: t.s :: t.p :: t.xs = key := ⟨_, rfl⟩
  have HKe : Hid (t.key = key) := hkey
  rw [hkey] at hkl HO Hck ⊢
  have Hkl := Lib.hid hkl
  clear x0 x1 x2 x3 hO hck HX1 He1 Hne HT1 HR1 Hk1 HS1 hkey hgk hkl
  rw [HKe.out] at hat
  have Hat := Lib.hid hat
  have dl : decide (limit ≤ (ks.length : Int)) = true := decide_eq_true hlim
  have b0 := HT2.out.c0
  have b1 := HT2.out.c1
  clear hat hlim
  go_wp2_with fail
  refine (findR_any _ _ _ _ _ _ _ _ _ ks key _ rfl rfl rfl Hk2.out HS2.out HO.out Hd.out (fun k hk => by have := HsM.out k hk; unfold maxLen; omega) (by have := Hkl.out; unfold maxLen; omega) hl).mono ?_
  rintro e w3 ⟨rfl, q3⟩
  rw [Hat.out]
  have HT3 := Lib.hid (HT2.out.q q3)
  have HR3 := Lib.hid (HR2.out.q q3)
  have Hk3 := Lib.hid ((Hk2.out.q (Nat.le_refl _) q3).more q3.size)
  have HS3 := Lib.hid ((HS2.out.q (Nat.le_refl _) q3).more q3.size)
  have q03 := q02.trans q3
  clear b0 b1 HO
  have b0 := HT3.out.c0
  have b1 := HT3.out.c1
  go_wp2_with fail
  refine (copyOf_any _ _ _ _ _ _ ks (layI ks) _ rfl rfl Hk3.out HS3.out hl HsM.out Hz.out).mono ?_
  rintro e w9 ⟨A9, c9, S9, d9, rfl, hF, q9, hcp⟩
  have Hcp := Lib.hid hcp
  clear hcp
  have HF := Lib.hid hF
  have HR9 := Lib.hid (HR3.out.q q9)
  have r0 := HR9.out.c0
  have r1 := HR9.out.c1
  have f0 := HR9.out.f0
  have f1 := HR9.out.f1
  have hRl := HR3.out.lt
  clear hF b0 b1
  go_wp2_with fail
  obtain ⟨y0, y1⟩ := HR9.out.two (.slice A9 ks.length c9) (.slice S9 (layI ks).length d9)
  obtain ⟨hK, hI, hQ⟩ := putE_close (u := .slice A9 ks.length c9) (v := .slice S9 (layI ks).length d9) (w := w) HF.out hRl (Q.refl w9) (by omega) (q03.trans q9)
  exact bodyPost_ret (v := .tuple #[.agg #[.slice A9 ks.length c9, .slice S9 (layI ks).length d9], .int .i64 0, .int .i64 7]) (by simp [results, Try.f11, go_sem, y0, y1]) rfl ⟨A9, c9, S9, d9, rfl, hK, hI, hQ, Hcp.out⟩

set_option maxRecDepth 100000 in
set_option maxHeartbeats 2000000 in
theorem put3_room (L A S E : Option Addr) (nl cl c d ne ce : Nat) (l : List Sg.Sig) (ks : List (List Int)) (t : Tm) (limit : Int) (w : World) (hnl : nl = l.length) (hr : Sg.Row w w.heap.size L l) (hk : Keys w w.heap.size A ks) (hS : Ints w w.heap.size S (layI ks)) (hne : ne = t.xs.length) (he : Ints w w.heap.size E t.xs)
    (hw : Wf t.k) (hd : Dist ks) (hs : ∀ k ∈ ks, k.length ≤ 100000) (hl : ks.length ≤ 5000) (ht : ks.flatten.length ≤ 50000) (hx : t.xs.length ≤ 4000) (hM : mayB l ks.length t = true) (hlim : (ks.length : Int) < limit) :
    Calls Try.prog 11 #[.slice L nl cl, .agg #[.slice A ks.length c, .slice S (layI ks).length d], .agg #[.int .i64 t.k, .int .i64 t.s, .int .i64 t.p, .slice E ne ce], .int .i64 limit] w (PutE (putL ks t.key) (layI (putL ks t.key)) (placeI ks t.key) 0 w) := by
  subst hnl
  have hx2 : t.xs.length ≤ maxLen := by unfold maxLen; omega
  have hz : (layI ks).length ≤ 100000 := by rw [layI_length]; have := sizeN_le ks.length; omega
  have Hz := Lib.hid hz
  have q0 := (((Q.refl w).alloc (Obj.cells #[Value.slice A ks.length c, Value.slice S (layI ks).length d] 26)).alloc (Obj.cells #[.int .i64 t.k, .int .i64 t.s, .int .i64 t.p, .slice E ne ce] 28)).alloc (Obj.cells #[Value.slice none 0 0, Value.slice none 0 0] 26)
  have Hr := Lib.hid ((hr.q (Nat.le_refl _) q0).more q0.size)
  have Hk := Lib.hid ((hk.q (Nat.le_refl _) q0).more q0.size)
  have HS := Lib.hid ((hS.q (Nat.le_refl _) q0).more q0.size)
  have He := Lib.hid ((he.q (Nat.le_refl _) q0).more q0.size)
  have HT := Lib.hid ((BoxT.new w (Value.slice A ks.length c) (Value.slice S (layI ks).length d) 26).q (((Q.refl _).alloc (Obj.cells #[.int .i64 t.k, .int .i64 t.s, .int .i64 t.p, .slice E ne ce] 28)).alloc (Obj.cells #[Value.slice none 0 0, Value.slice none 0 0] 26)))
  have X := (Box4.new (w.alloc (Obj.cells #[Value.slice A ks.length c, Value.slice S (layI ks).length d] 26)) (.int .i64 t.k) (.int .i64 t.s) (.int .i64 t.p) (.slice E ne ce) 28).q ((Q.refl _).alloc (Obj.cells #[Value.slice none 0 0, Value.slice none 0 0] 26))
  have R := BoxF.new ((w.alloc (Obj.cells #[Value.slice A ks.length c, Value.slice S (layI ks).length d] 26)).alloc (Obj.cells #[.int .i64 t.k, .int .i64 t.s, .int .i64 t.p, .slice E ne ce] 28)) 26
  simp only [World.size_alloc] at X R
  have HX := Lib.hid X
  have HR := Lib.hid R
  have HsM := Lib.hid hs
  have Hne := Lib.hid hne
  have Hd := Lib.hid hd
  clear hr hk hS he X R hs hne hz hd
  go_enter Try.func11, Try.ntmps11
  go_wp2_with fail
  generalize ((w.alloc (Obj.cells #[Value.slice A ks.length c, Value.slice S (layI ks).length d] 26)).alloc (Obj.cells #[.int .i64 t.k, .int .i64 t.s, .int .i64 t.p, .slice E ne ce] 28)).alloc (Obj.cells #[Value.slice none 0 0, Value.slice none 0 0] 26) = W0 at *
  refine (may_any _ _ _ _ _ _ _ _ _ _ _ _ l t _ rfl Hr.out Hne.out He.out hw hx2).mono ?_
  rintro e w1 ⟨rfl, q1⟩
  have HT1 := Lib.hid (HT.out.q q1)
  have HX1 := Lib.hid (HX.out.q q1)
  have HR1 := Lib.hid (HR.out.q q1)
  have Hk1 := Lib.hid ((Hk.out.q (Nat.le_refl _) q1).more q1.size)
  have HS1 := Lib.hid ((HS.out.q (Nat.le_refl _) q1).more q1.size)
  have He1 := Lib.hid ((He.out.q (Nat.le_refl _) q1).more q1.size)
  have q01 := q0.trans q1
  clear Hr Hk HS He HT HX HR q0 q1
  rw [hM]
  clear hM
  have x0 := HX1.out.c0
  have x1 := HX1.out.c1
  have x2 := HX1.out.c2
  have x3 := HX1.out.c3
  go_wp2_with fail
  refine (key_any _ _ _ _ _ _ t.xs _ Hne.out He1.out (by omega)).mono ?_
  rintro e w2 ⟨gk, ck, rfl, hgk, hck, hO, q2⟩
  have hkl : (t.k :: t.s :: t.p :: t.xs).length = t.xs.length + 3 := by simp
  have HO := Lib.hid hO.ints
  have Hck := Lib.hid hck
  have HT2 := Lib.hid (HT1.out.q q2)
  have HR2 := Lib.hid (HR1.out.q q2)
  have Hk2 := Lib.hid ((Hk1.out.q (Nat.le_refl _) q2).more q2.size)
  have HS2 := Lib.hid ((HS1.out.q (Nat.le_refl _) q2).more q2.size)
  have q02 := q01.trans q2
  obtain ⟨key, hkey⟩ : ∃ key, t.k :: t.s :: t.p :: t.xs = key := ⟨_, rfl⟩
  have HKe : Hid (t.key = key) := hkey
  rw [hkey] at hkl HO Hck ⊢
  have Hkl := Lib.hid hkl
  clear x0 x1 x2 x3 hO hck HX1 He1 Hne HT1 HR1 Hk1 HS1 hkey hgk hkl
  have dl : decide (limit ≤ (ks.length : Int)) = false := decide_eq_false (by omega)
  have b0 := HT2.out.c0
  have b1 := HT2.out.c1
  clear hlim
  have Hpl : Hid ((putL ks t.key) = putL ks key) := by unfold Hid; rw [HKe.out]
  have HPl : Hid (placeI ks t.key = placeI ks key) := by unfold Hid; rw [HKe.out]
  go_wp2_with fail
  refine (putF_any _ _ _ _ _ _ _ _ _ ks key _ rfl rfl rfl Hk2.out HS2.out HO.out Hd.out (fun k hk => by have := HsM.out k hk; unfold maxLen; omega) (by have := Hkl.out; omega) hl ht Hck.out).mono ?_
  rintro e w9 ⟨A9, c9, S9, d9, rfl, hF, q9, hcp⟩
  have Hcp := Lib.hid hcp
  clear hcp
  have HF := Lib.hid hF
  have hRl := HR2.out.lt
  have q9a := (Q.refl w9).alloc (Obj.cells #[.slice A9 (putL ks key).length c9, .slice S9 (layI (putL ks key)).length d9] 26)
  have HR9 := Lib.hid ((HR2.out.q q9).q q9a)
  have bb := BoxT.new w9 (.slice A9 (putL ks key).length c9) (.slice S9 (layI (putL ks key)).length d9) 26
  have r0 := HR9.out.c0
  have r1 := HR9.out.c1
  have f0 := HR9.out.f0
  have f1 := HR9.out.f1
  have b0' := bb.c0
  have b1' := bb.c1
  obtain ⟨PL, hPL⟩ : ∃ PL, putL ks key = PL := ⟨_, rfl⟩
  obtain ⟨pl, hpl⟩ : ∃ pl, placeI ks key = pl := ⟨_, rfl⟩
  have HPL : Hid (putL ks t.key = PL) := Hpl.out.trans hPL
  have HpL : Hid (placeI ks t.key = pl) := HPl.out.trans hpl
  rw [hPL] at Hcp HF q9a HR9 r0 r1 f0 f1 b0' b1' ⊢
  rw [hpl]
  have hq9 := q9.size
  clear hF b0 b1 bb hPL hpl
  go_wp2_with fail
  generalize w9.alloc (Obj.cells #[.slice A9 PL.length c9, .slice S9 (layI PL).length d9] 26) = W9 at *
  obtain ⟨y0, y1⟩ := HR9.out.two (.slice A9 PL.length c9) (.slice S9 (layI PL).length d9)
  obtain ⟨hK, hI, hQ⟩ := putE_close (u := .slice A9 PL.length c9) (v := .slice S9 (layI PL).length d9) (w := w) HF.out hRl q9a (by omega) ((q02.trans q9).trans q9a)
  exact bodyPost_ret (v := .tuple #[.agg #[.slice A9 PL.length c9, .slice S9 (layI PL).length d9], .int .i64 pl, .int .i64 0]) (by simp [results, Try.f11, go_sem, y0, y1]) rfl ⟨A9, c9, S9, d9, by rw [HPL.out, HpL.out], by rw [HPL.out]; exact hK, by rw [HPL.out]; exact hI, hQ, by rw [HPL.out]; exact Hcp.out⟩

set_option maxRecDepth 100000 in
set_option maxHeartbeats 2000000 in
theorem put3_there (L A S E : Option Addr) (nl cl c d ne ce : Nat) (l : List Sg.Sig) (ks : List (List Int)) (t : Tm) (limit : Int) (w : World) (hnl : nl = l.length) (hr : Sg.Row w w.heap.size L l) (hk : Keys w w.heap.size A ks) (hS : Ints w w.heap.size S (layI ks)) (hne : ne = t.xs.length) (he : Ints w w.heap.size E t.xs)
    (hw : Wf t.k) (hd : Dist ks) (hs : ∀ k ∈ ks, k.length ≤ 100000) (hl : ks.length ≤ 5000) (ht : ks.flatten.length ≤ 50000) (hx : t.xs.length ≤ 4000) (hM : mayB l ks.length t = true) (hlim : limit ≤ (ks.length : Int)) (p : Nat) (hat : atI ks t.key = (p : Int)) :
    Calls Try.prog 11 #[.slice L nl cl, .agg #[.slice A ks.length c, .slice S (layI ks).length d], .agg #[.int .i64 t.k, .int .i64 t.s, .int .i64 t.p, .slice E ne ce], .int .i64 limit] w (PutE (putL ks t.key) (layI (putL ks t.key)) (placeI ks t.key) 0 w) := by
  subst hnl
  have hx2 : t.xs.length ≤ maxLen := by unfold maxLen; omega
  have hz : (layI ks).length ≤ 100000 := by rw [layI_length]; have := sizeN_le ks.length; omega
  have Hz := Lib.hid hz
  have q0 := (((Q.refl w).alloc (Obj.cells #[Value.slice A ks.length c, Value.slice S (layI ks).length d] 26)).alloc (Obj.cells #[.int .i64 t.k, .int .i64 t.s, .int .i64 t.p, .slice E ne ce] 28)).alloc (Obj.cells #[Value.slice none 0 0, Value.slice none 0 0] 26)
  have Hr := Lib.hid ((hr.q (Nat.le_refl _) q0).more q0.size)
  have Hk := Lib.hid ((hk.q (Nat.le_refl _) q0).more q0.size)
  have HS := Lib.hid ((hS.q (Nat.le_refl _) q0).more q0.size)
  have He := Lib.hid ((he.q (Nat.le_refl _) q0).more q0.size)
  have HT := Lib.hid ((BoxT.new w (Value.slice A ks.length c) (Value.slice S (layI ks).length d) 26).q (((Q.refl _).alloc (Obj.cells #[.int .i64 t.k, .int .i64 t.s, .int .i64 t.p, .slice E ne ce] 28)).alloc (Obj.cells #[Value.slice none 0 0, Value.slice none 0 0] 26)))
  have X := (Box4.new (w.alloc (Obj.cells #[Value.slice A ks.length c, Value.slice S (layI ks).length d] 26)) (.int .i64 t.k) (.int .i64 t.s) (.int .i64 t.p) (.slice E ne ce) 28).q ((Q.refl _).alloc (Obj.cells #[Value.slice none 0 0, Value.slice none 0 0] 26))
  have R := BoxF.new ((w.alloc (Obj.cells #[Value.slice A ks.length c, Value.slice S (layI ks).length d] 26)).alloc (Obj.cells #[.int .i64 t.k, .int .i64 t.s, .int .i64 t.p, .slice E ne ce] 28)) 26
  simp only [World.size_alloc] at X R
  have HX := Lib.hid X
  have HR := Lib.hid R
  have HsM := Lib.hid hs
  have Hne := Lib.hid hne
  have Hd := Lib.hid hd
  clear hr hk hS he X R hs hne hz hd
  go_enter Try.func11, Try.ntmps11
  go_wp2_with fail
  generalize ((w.alloc (Obj.cells #[Value.slice A ks.length c, Value.slice S (layI ks).length d] 26)).alloc (Obj.cells #[.int .i64 t.k, .int .i64 t.s, .int .i64 t.p, .slice E ne ce] 28)).alloc (Obj.cells #[Value.slice none 0 0, Value.slice none 0 0] 26) = W0 at *
  refine (may_any _ _ _ _ _ _ _ _ _ _ _ _ l t _ rfl Hr.out Hne.out He.out hw hx2).mono ?_
  rintro e w1 ⟨rfl, q1⟩
  have HT1 := Lib.hid (HT.out.q q1)
  have HX1 := Lib.hid (HX.out.q q1)
  have HR1 := Lib.hid (HR.out.q q1)
  have Hk1 := Lib.hid ((Hk.out.q (Nat.le_refl _) q1).more q1.size)
  have HS1 := Lib.hid ((HS.out.q (Nat.le_refl _) q1).more q1.size)
  have He1 := Lib.hid ((He.out.q (Nat.le_refl _) q1).more q1.size)
  have q01 := q0.trans q1
  clear Hr Hk HS He HT HX HR q0 q1
  rw [hM]
  clear hM
  have x0 := HX1.out.c0
  have x1 := HX1.out.c1
  have x2 := HX1.out.c2
  have x3 := HX1.out.c3
  go_wp2_with fail
  refine (key_any _ _ _ _ _ _ t.xs _ Hne.out He1.out (by omega)).mono ?_
  rintro e w2 ⟨gk, ck, rfl, hgk, hck, hO, q2⟩
  have hkl : (t.k :: t.s :: t.p :: t.xs).length = t.xs.length + 3 := by simp
  have HO := Lib.hid hO.ints
  have Hck := Lib.hid hck
  have HT2 := Lib.hid (HT1.out.q q2)
  have HR2 := Lib.hid (HR1.out.q q2)
  have Hk2 := Lib.hid ((Hk1.out.q (Nat.le_refl _) q2).more q2.size)
  have HS2 := Lib.hid ((HS1.out.q (Nat.le_refl _) q2).more q2.size)
  have q02 := q01.trans q2
  obtain ⟨key, hkey⟩ : ∃ key, t.k :: t.s :: t.p :: t.xs = key := ⟨_, rfl⟩
  have HKe : Hid (t.key = key) := hkey
  rw [hkey] at hkl HO Hck ⊢
  have Hkl := Lib.hid hkl
  clear x0 x1 x2 x3 hO hck HX1 He1 Hne HT1 HR1 Hk1 HS1 hkey hgk hkl
  rw [HKe.out] at hat
  have Hat := Lib.hid hat
  have dl : decide (limit ≤ (ks.length : Int)) = true := decide_eq_true hlim
  have b0 := HT2.out.c0
  have b1 := HT2.out.c1
  clear hat hlim
  go_wp2_with fail
  refine (findR_any _ _ _ _ _ _ _ _ _ ks key _ rfl rfl rfl Hk2.out HS2.out HO.out Hd.out (fun k hk => by have := HsM.out k hk; unfold maxLen; omega) (by have := Hkl.out; unfold maxLen; omega) hl).mono ?_
  rintro e w3 ⟨rfl, q3⟩
  rw [Hat.out]
  have HT3 := Lib.hid (HT2.out.q q3)
  have HR3 := Lib.hid (HR2.out.q q3)
  have Hk3 := Lib.hid ((Hk2.out.q (Nat.le_refl _) q3).more q3.size)
  have HS3 := Lib.hid ((HS2.out.q (Nat.le_refl _) q3).more q3.size)
  have HO3 := Lib.hid ((HO.out.q (Nat.le_refl _) q3).more q3.size)
  have q03 := q02.trans q3
  clear b0 b1 HO
  have b0 := HT3.out.c0
  have b1 := HT3.out.c1
  have Hpl : Hid ((putL ks t.key) = putL ks key) := by unfold Hid; rw [HKe.out]
  have HPl : Hid (placeI ks t.key = placeI ks key) := by unfold Hid; rw [HKe.out]
  go_wp2_with fail
  refine (putF_any _ _ _ _ _ _ _ _ _ ks key _ rfl rfl rfl Hk3.out HS3.out HO3.out Hd.out (fun k hk => by have := HsM.out k hk; unfold maxLen; omega) (by have := Hkl.out; omega) hl ht Hck.out).mono ?_
  rintro e w9 ⟨A9, c9, S9, d9, rfl, hF, q9, hcp⟩
  have Hcp := Lib.hid hcp
  clear hcp
  have HF := Lib.hid hF
  have hRl := HR3.out.lt
  have q9a := (Q.refl w9).alloc (Obj.cells #[.slice A9 (putL ks key).length c9, .slice S9 (layI (putL ks key)).length d9] 26)
  have HR9 := Lib.hid ((HR3.out.q q9).q q9a)
  have bb := BoxT.new w9 (.slice A9 (putL ks key).length c9) (.slice S9 (layI (putL ks key)).length d9) 26
  have r0 := HR9.out.c0
  have r1 := HR9.out.c1
  have f0 := HR9.out.f0
  have f1 := HR9.out.f1
  have b0' := bb.c0
  have b1' := bb.c1
  obtain ⟨PL, hPL⟩ : ∃ PL, putL ks key = PL := ⟨_, rfl⟩
  obtain ⟨pl, hpl⟩ : ∃ pl, placeI ks key = pl := ⟨_, rfl⟩
  have HPL : Hid (putL ks t.key = PL) := Hpl.out.trans hPL
  have HpL : Hid (placeI ks t.key = pl) := HPl.out.trans hpl
  rw [hPL] at Hcp HF q9a HR9 r0 r1 f0 f1 b0' b1' ⊢
  rw [hpl]
  have hq9 := q9.size
  clear hF b0 b1 bb hPL hpl
  go_wp2_with fail
  generalize w9.alloc (Obj.cells #[.slice A9 PL.length c9, .slice S9 (layI PL).length d9] 26) = W9 at *
  obtain ⟨y0, y1⟩ := HR9.out.two (.slice A9 PL.length c9) (.slice S9 (layI PL).length d9)
  obtain ⟨hK, hI, hQ⟩ := putE_close (u := .slice A9 PL.length c9) (v := .slice S9 (layI PL).length d9) (w := w) HF.out hRl q9a (by omega) ((q03.trans q9).trans q9a)
  exact bodyPost_ret (v := .tuple #[.agg #[.slice A9 PL.length c9, .slice S9 (layI PL).length d9], .int .i64 pl, .int .i64 0]) (by simp [results, Try.f11, go_sem, y0, y1]) rfl ⟨A9, c9, S9, d9, by rw [HPL.out, HpL.out], by rw [HPL.out]; exact hK, by rw [HPL.out]; exact hI, hQ, by rw [HPL.out]; exact Hcp.out⟩

theorem put3_any (L A S E : Option Addr) (nl cl n c m d ne ce : Nat) (l : List Sg.Sig) (ks : List (List Int)) (t : Tm) (limit : Int) (w : World) (hnl : nl = l.length) (hr : Sg.Row w w.heap.size L l) (hn : n = ks.length) (hm : m = (layI ks).length) (hk : Keys w w.heap.size A ks) (hS : Ints w w.heap.size S (layI ks)) (hne : ne = t.xs.length) (he : Ints w w.heap.size E t.xs)
    (hw : Wf t.k) (hd : Dist ks) (hs : ∀ k ∈ ks, k.length ≤ 100000) (hl : ks.length ≤ 5000) (ht : ks.flatten.length ≤ 50000) (hx : t.xs.length ≤ 4000) :
    Calls Try.prog 11 #[.slice L nl cl, .agg #[.slice A n c, .slice S m d], .agg #[.int .i64 t.k, .int .i64 t.s, .int .i64 t.p, .slice E ne ce], .int .i64 limit] w (PutE (put3L l ks t limit) (layI (put3L l ks t limit)) (put3I l ks t limit) (put3E l ks t limit) w) := by
  subst hn
  subst hm
  unfold put3L put3I put3E fullB newB
  cases hM : mayB l ks.length t
  · exact put3_arg L A S E nl cl c d ne ce l ks t limit w hnl hr hk hS hne he hw hd hs hl ht hx hM
  · by_cases hlim : limit ≤ (ks.length : Int)
    · rcases atI_cases ks t.key with ⟨h1, _⟩ | ⟨i, _, h2⟩
      · rw [decide_eq_true hlim, h1]
        exact put3_full L A S E nl cl c d ne ce l ks t limit w hnl hr hk hS hne he hw hd hs hl ht hx hM hlim h1
      · rw [decide_eq_true hlim, h2, decide_eq_false (by omega : ¬ (i : Int) < 0)]
        exact put3_there L A S E nl cl c d ne ce l ks t limit w hnl hr hk hS hne he hw hd hs hl ht hx hM hlim i h2
    · rw [decide_eq_false hlim]
      exact put3_room L A S E nl cl c d ne ce l ks t limit w hnl hr hk hS hne he hw hd hs hl ht hx hM (by omega)
end Go.Proofs.Ytgnbempkobgeiaa.Tm
