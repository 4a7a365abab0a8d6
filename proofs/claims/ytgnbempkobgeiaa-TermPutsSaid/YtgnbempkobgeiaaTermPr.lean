/-
  Contract of the document's Put of layer 3.
-/
import Derived.Test.YtgnbempkobgeiaaTermU
import Derived.Test.YtgnbempkobgeiaaTermQ
import Derived.Test.YtgnbempkobgeiaaTermA
import Derived.Test.YtgnbempkobgeiaaHashZP
namespace Go.Proofs.Ytgnbempkobgeiaa.Tm
open Go.RowKit Kit Hs

def PutR (ks : List (List Int)) (sl : List Int) (place err : Int) (w : World) (e : Ending) (w' : World) : Prop :=
  ∃ A c S d, e = .returned (.tuple #[.agg #[.slice A ks.length c, .slice S sl.length d], .int .i64 place, .int .i64 err]) ∧ Keys w' w'.heap.size A ks ∧ Ints w' w'.heap.size S sl ∧ Q w w'
theorem putR_old {w w6 : World} {A S : Option Addr} {K : List (List Int)} {SL : List Int} {R : Nat} {u v : Value} (hk : Keys w w.heap.size A K) (hS : Ints w w.heap.size S SL) (hwR : w.heap.size ≤ R) (q6 : Q w w6) :
    Keys ((w6.setCell ⟨R, 0, none⟩ u).setCell ⟨R, 1, none⟩ v) ((w6.setCell ⟨R, 0, none⟩ u).setCell ⟨R, 1, none⟩ v).heap.size A K ∧ Ints ((w6.setCell ⟨R, 0, none⟩ u).setCell ⟨R, 1, none⟩ v) ((w6.setCell ⟨R, 0, none⟩ u).setCell ⟨R, 1, none⟩ v).heap.size S SL ∧ Q w ((w6.setCell ⟨R, 0, none⟩ u).setCell ⟨R, 1, none⟩ v) := by
  have q := (q6.setCell (p := ⟨R, 0, none⟩) hwR u).setCell (p := ⟨R, 1, none⟩) hwR v
  exact ⟨(hk.q (Nat.le_refl _) q).more q.size, (hS.q (Nat.le_refl _) q).more q.size, q⟩
/-- behind region 6: b in its box -/
def CutQ (w : World) (R : Nat) (PL : List (List Int)) (pl : Int) (b id : Value) (W : World) : Prop :=
  ∃ B A c S d, b = .pointer (some ⟨B, 0, none⟩) ∧ id = .int .i64 pl ∧ W.cell? ⟨B, 0, none⟩ = some (.slice A PL.length c) ∧ W.cell? ⟨B, 1, none⟩ = some (.slice S (layI PL).length d) ∧ BoxF W R ∧ KeysP W (· ≠ R) A PL ∧ IntsP W (· ≠ R) S (layI PL) ∧ Q w W
theorem cutQ_mk {w u w6 W : World} {R gk B : Nat} {PL : List (List Int)} {pl : Int} {A S : Option Addr} {c d : Nat} (hK : KeysP w6 (Kind w.heap.size gk u.heap.size) A PL) (hI : IntsP w6 (Kind w.heap.size gk u.heap.size) S (layI PL))
    (hR1 : w.heap.size ≤ R) (hR2 : R < u.heap.size) (hRk : R ≠ gk) (hs : w6.heap.size ≤ W.heap.size) (hW : ∀ p : Addr, Kind w.heap.size gk u.heap.size p.block → p.block < w6.heap.size → W.cell? p = w6.cell? p)
    (c0 : W.cell? ⟨B, 0, none⟩ = some (.slice A PL.length c)) (c1 : W.cell? ⟨B, 1, none⟩ = some (.slice S (layI PL).length d)) (hF : BoxF W R) (q : Q w W) : CutQ w R PL pl (.pointer (some ⟨B, 0, none⟩)) (.int .i64 pl) W := by
  have hP : ∀ b, Kind w.heap.size gk u.heap.size b → b < w6.heap.size → b ≠ R := fun b hb _ => by
    rcases hb with h | h | h <;> omega
  exact ⟨B, A, c, S, d, rfl, rfl, c0, c1, hF, hK.toP hs hW hP, hI.toP hs hW hP, q⟩
theorem size_two (W : World) (R S : Nat) (u v : Value) : ((W.setCell ⟨R, 0, none⟩ u).setCell ⟨S, 1, none⟩ v).heap.size = W.heap.size := by simp [World.setCell]
theorem BoxF.far {W : World} {B : Nat} (h : BoxF W B) {g : Nat} (hg : g ≠ B) (u v : Value) : BoxF ((W.setCell ⟨g, 0, none⟩ u).setCell ⟨g, 1, none⟩ v) B :=
  ⟨(World.cell?_setCell_far _ _ _ _ hg).trans ((World.cell?_setCell_far _ _ _ _ hg).trans h.c0), (World.cell?_setCell_far _ _ _ _ hg).trans ((World.cell?_setCell_far _ _ _ _ hg).trans h.c1), by simp only [World.frozen?_setCell]; exact h.f0, by simp only [World.frozen?_setCell]; exact h.f1, by have := h.lt; simpa [World.setCell] using this⟩

set_option maxRecDepth 100000 in
set_option maxHeartbeats 2000000 in
theorem refPut3_arg (L A S E : Option Addr) (nl cl c d ne ce : Nat) (l : List Sg.Sig) (ks : List (List Int)) (t : Tm) (limit : Int) (w : World) (hnl : nl = l.length) (hr : Sg.Row w w.heap.size L l) (hk : Keys w w.heap.size A ks) (hS : Ints w w.heap.size S (layI ks)) (hne : ne = t.xs.length) (he : Ints w w.heap.size E t.xs)
    (hs : ∀ k ∈ ks, k.length ≤ 100000) (_hl : ks.length ≤ 5000) (hx : t.xs.length ≤ 900) (hM : mayB l ks.length t = false) :
    Calls Try.prog 12 #[.slice L nl cl, .agg #[.slice A ks.length c, .slice S (layI ks).length d], .agg #[.int .i64 t.k, .int .i64 t.s, .int .i64 t.p, .slice E ne ce], .int .i64 limit] w (PutR ks (layI ks) 0 1 w) := by
  subst hnl
  have hx2 : t.xs.length ≤ maxLen := by unfold maxLen; omega
  have q0 := (((Q.refl w).alloc (Obj.cells #[Value.slice A ks.length c, Value.slice S (layI ks).length d] 26)).alloc (Obj.cells #[.int .i64 t.k, .int .i64 t.s, .int .i64 t.p, .slice E ne ce] 28)).alloc (Obj.cells #[Value.slice none 0 0, Value.slice none 0 0] 26)
  have Hr := Lib.hid ((hr.q (Nat.le_refl _) q0).more q0.size)
  have Hkw := Lib.hid hk
  have HSw := Lib.hid hS
  have He := Lib.hid ((he.q (Nat.le_refl _) q0).more q0.size)
  have HT := Lib.hid ((BoxT.new w (Value.slice A ks.length c) (Value.slice S (layI ks).length d) 26).q (((Q.refl _).alloc (Obj.cells #[.int .i64 t.k, .int .i64 t.s, .int .i64 t.p, .slice E ne ce] 28)).alloc (Obj.cells #[Value.slice none 0 0, Value.slice none 0 0] 26)))
  have X := (Box4.new (w.alloc (Obj.cells #[Value.slice A ks.length c, Value.slice S (layI ks).length d] 26)) (.int .i64 t.k) (.int .i64 t.s) (.int .i64 t.p) (.slice E ne ce) 28).q ((Q.refl _).alloc (Obj.cells #[Value.slice none 0 0, Value.slice none 0 0] 26))
  have R := BoxF.new ((w.alloc (Obj.cells #[Value.slice A ks.length c, Value.slice S (layI ks).length d] 26)).alloc (Obj.cells #[.int .i64 t.k, .int .i64 t.s, .int .i64 t.p, .slice E ne ce] 28)) 26
  simp only [World.size_alloc] at X R
  have HX := Lib.hid X
  have HR := Lib.hid R
  have HsM := Lib.hid hs
  have Hne := Lib.hid hne
  clear hr hk hS he X R hs hne
  go_enter Try.func12, Try.ntmps12
  go_wp2_with fail
  generalize ((w.alloc (Obj.cells #[Value.slice A ks.length c, Value.slice S (layI ks).length d] 26)).alloc (Obj.cells #[.int .i64 t.k, .int .i64 t.s, .int .i64 t.p, .slice E ne ce] 28)).alloc (Obj.cells #[Value.slice none 0 0, Value.slice none 0 0] 26) = W0 at *
  refine (refMay_any _ _ _ _ _ _ _ _ _ _ _ _ l t _ rfl Hr.out Hne.out He.out hx2).mono ?_
  rintro e w1 ⟨rfl, q1⟩
  rw [hM]
  have HT1 := Lib.hid (HT.out.q q1)
  have HX1 := Lib.hid (HX.out.q q1)
  have HR1 := Lib.hid (HR.out.q q1)
  have He1 := Lib.hid ((He.out.q (Nat.le_refl _) q1).more q1.size)
  have q01 := q0.trans q1
  clear hM Hr He HT HX HR q0 q1
  have b0 := HT1.out.c0
  have b1 := HT1.out.c1
  have r0 := HR1.out.c0
  have r1 := HR1.out.c1
  have f0 := HR1.out.f0
  have f1 := HR1.out.f1
  go_wp2_with fail
  obtain ⟨y0, y1⟩ := HR1.out.two (.slice A ks.length c) (.slice S (layI ks).length d)
  obtain ⟨hK, hI, hQ⟩ := putR_old (R := w.heap.size + 1 + 1) (u := .slice A ks.length c) (v := .slice S (layI ks).length d) Hkw.out HSw.out (by omega) q01
  exact bodyPost_ret (v := .tuple #[.agg #[.slice A ks.length c, .slice S (layI ks).length d], .int .i64 0, .int .i64 1]) (by simp [results, Try.f12, go_sem, y0, y1]) rfl ⟨A, c, S, d, rfl, hK, hI, hQ⟩

set_option maxRecDepth 100000 in
set_option maxHeartbeats 2000000 in
theorem refPut3_full (L A S E : Option Addr) (nl cl c d ne ce : Nat) (l : List Sg.Sig) (ks : List (List Int)) (t : Tm) (limit : Int) (w : World) (hnl : nl = l.length) (hr : Sg.Row w w.heap.size L l) (hk : Keys w w.heap.size A ks) (hS : Ints w w.heap.size S (layI ks)) (hne : ne = t.xs.length) (he : Ints w w.heap.size E t.xs)
    (hs : ∀ k ∈ ks, k.length ≤ 100000) (hl : ks.length ≤ 5000) (hx : t.xs.length ≤ 900) (hM : mayB l ks.length t = true) (hlim : limit ≤ (ks.length : Int)) (hat : atI ks t.key = -1) :
    Calls Try.prog 12 #[.slice L nl cl, .agg #[.slice A ks.length c, .slice S (layI ks).length d], .agg #[.int .i64 t.k, .int .i64 t.s, .int .i64 t.p, .slice E ne ce], .int .i64 limit] w (PutR ks (layI ks) 0 7 w) := by
  subst hnl
  have hx2 : t.xs.length ≤ maxLen := by unfold maxLen; omega
  have q0 := (((Q.refl w).alloc (Obj.cells #[Value.slice A ks.length c, Value.slice S (layI ks).length d] 26)).alloc (Obj.cells #[.int .i64 t.k, .int .i64 t.s, .int .i64 t.p, .slice E ne ce] 28)).alloc (Obj.cells #[Value.slice none 0 0, Value.slice none 0 0] 26)
  have Hr := Lib.hid ((hr.q (Nat.le_refl _) q0).more q0.size)
  have Hkw := Lib.hid hk
  have HSw := Lib.hid hS
  have He := Lib.hid ((he.q (Nat.le_refl _) q0).more q0.size)
  have HT := Lib.hid ((BoxT.new w (Value.slice A ks.length c) (Value.slice S (layI ks).length d) 26).q (((Q.refl _).alloc (Obj.cells #[.int .i64 t.k, .int .i64 t.s, .int .i64 t.p, .slice E ne ce] 28)).alloc (Obj.cells #[Value.slice none 0 0, Value.slice none 0 0] 26)))
  have X := (Box4.new (w.alloc (Obj.cells #[Value.slice A ks.length c, Value.slice S (layI ks).length d] 26)) (.int .i64 t.k) (.int .i64 t.s) (.int .i64 t.p) (.slice E ne ce) 28).q ((Q.refl _).alloc (Obj.cells #[Value.slice none 0 0, Value.slice none 0 0] 26))
  have R := BoxF.new ((w.alloc (Obj.cells #[Value.slice A ks.length c, Value.slice S (layI ks).length d] 26)).alloc (Obj.cells #[.int .i64 t.k, .int .i64 t.s, .int .i64 t.p, .slice E ne ce] 28)) 26
  simp only [World.size_alloc] at X R
  have HX := Lib.hid X
  have HR := Lib.hid R
  have HsM := Lib.hid hs
  have Hne := Lib.hid hne
  clear hr hk hS he X R hs hne
  go_enter Try.func12, Try.ntmps12
  go_wp2_with fail
  generalize ((w.alloc (Obj.cells #[Value.slice A ks.length c, Value.slice S (layI ks).length d] 26)).alloc (Obj.cells #[.int .i64 t.k, .int .i64 t.s, .int .i64 t.p, .slice E ne ce] 28)).alloc (Obj.cells #[Value.slice none 0 0, Value.slice none 0 0] 26) = W0 at *
  refine (refMay_any _ _ _ _ _ _ _ _ _ _ _ _ l t _ rfl Hr.out Hne.out He.out hx2).mono ?_
  rintro e w1 ⟨rfl, q1⟩
  rw [hM]
  have HT1 := Lib.hid (HT.out.q q1)
  have HX1 := Lib.hid (HX.out.q q1)
  have HR1 := Lib.hid (HR.out.q q1)
  have He1 := Lib.hid ((He.out.q (Nat.le_refl _) q1).more q1.size)
  have q01 := q0.trans q1
  clear hM Hr He HT HX HR q0 q1
  have Hat : Hid (atI ks (t.k :: t.s :: t.p :: t.xs) = -1) := hat
  have dl : decide (limit ≤ (ks.length : Int)) = true := decide_eq_true hlim
  clear hat hlim
  have b0 := HT1.out.c0
  have b1 := HT1.out.c1
  have x0 := HX1.out.c0
  have x1 := HX1.out.c1
  have x2 := HX1.out.c2
  have x3 := HX1.out.c3
  have HKp : Hid (∀ w', Q w1 w' → w'.cell? ⟨w.heap.size, 0, none⟩ = some (.slice A ks.length c) ∧ w'.cell? ⟨w.heap.size, 1, none⟩ = some (.slice S (layI ks).length d) ∧ w'.cell? ⟨w.heap.size + 1, 0, none⟩ = some (.int .i64 t.k) ∧ w'.cell? ⟨w.heap.size + 1, 1, none⟩ = some (.int .i64 t.s) ∧ w'.cell? ⟨w.heap.size + 1, 2, none⟩ = some (.int .i64 t.p) ∧ w'.cell? ⟨w.heap.size + 1, 3, none⟩ = some (.slice E ne ce)) :=
    fun w' q => ⟨(HT1.out.q q).c0, (HT1.out.q q).c1, (HX1.out.q q).c0, (HX1.out.q q).c1, (HX1.out.q q).c2, (HX1.out.q q).c3⟩
  go_wp2_with fail
  go_region_held3 (fun w' => w'.cell? ⟨w.heap.size, 0, none⟩ = some (.slice A ks.length c) ∧ w'.cell? ⟨w.heap.size, 1, none⟩ = some (.slice S (layI ks).length d) ∧ w'.cell? ⟨w.heap.size + 1, 0, none⟩ = some (.int .i64 t.k) ∧ w'.cell? ⟨w.heap.size + 1, 1, none⟩ = some (.int .i64 t.s) ∧ w'.cell? ⟨w.heap.size + 1, 2, none⟩ = some (.int .i64 t.p) ∧ w'.cell? ⟨w.heap.size + 1, 3, none⟩ = some (.slice E ne ce))
    (first
      | go_keep
      | exact HKp.out _ p9
      | exact HKp.out _ p8
      | exact HKp.out _ (Q.refl w1))
    (first
      | (go_at_call 32; refine (refKey_any _ _ _ _ _ _ t.xs _ Hne.out (by exact He1.out) (by omega)).mono ?_; rintro e w8 ⟨g8, c8, rfl, _, _, hO8, q8⟩; have HO8 := Lib.hid hO8.ints; clear hO8; have p8 : Q w1 w8 := (Q.refl w1).drew.trans q8)
      | (go_at_call 21; refine (refAt_any _ _ _ _ _ _ ks (t.k :: t.s :: t.p :: t.xs) _ rfl rfl (by exact ((Hkw.out.q (Nat.le_refl _) (q01.trans p8)).more (q01.trans p8).size)) (by exact HO8.out) (by unfold maxLen; omega) (fun k hk => by have := HsM.out k hk; unfold maxLen; omega)).mono ?_; rintro e w9 ⟨rfl, hd9⟩; rw [Hat.out]; have p9 : Q w1 w9 := p8.trans (Q.of_drewN hd9); clear hd9))
  have q09 := q01.trans p9
  have HT9 := Lib.hid (HT1.out.q p9)
  have HR9 := Lib.hid (HR1.out.q p9)
  clear b0 b1 x0 x1 x2 x3
  have b0 := HT9.out.c0
  have b1 := HT9.out.c1
  have r0 := HR9.out.c0
  have r1 := HR9.out.c1
  have f0 := HR9.out.f0
  have f1 := HR9.out.f1
  go_wp2_with fail
  obtain ⟨y0, y1⟩ := HR9.out.two (.slice A ks.length c) (.slice S (layI ks).length d)
  obtain ⟨hK, hI, hQ⟩ := putR_old (R := w.heap.size + 1 + 1) (u := .slice A ks.length c) (v := .slice S (layI ks).length d) Hkw.out HSw.out (by omega) q09
  exact bodyPost_ret (v := .tuple #[.agg #[.slice A ks.length c, .slice S (layI ks).length d], .int .i64 0, .int .i64 7]) (by simp [results, Try.f12, go_sem, y0, y1]) rfl ⟨A, c, S, d, rfl, hK, hI, hQ⟩

set_option maxRecDepth 100000 in
set_option maxHeartbeats 2000000 in
theorem refPut3_room (L A S E : Option Addr) (nl cl c d ne ce : Nat) (l : List Sg.Sig) (ks : List (List Int)) (t : Tm) (limit : Int) (w : World) (hnl : nl = l.length) (hr : Sg.Row w w.heap.size L l) (hk : Keys w w.heap.size A ks) (hS : Ints w w.heap.size S (layI ks)) (hne : ne = t.xs.length) (he : Ints w w.heap.size E t.xs)
    (hs : ∀ k ∈ ks, k.length ≤ 100000) (hl : ks.length ≤ 5000) (hx : t.xs.length ≤ 900) (hM : mayB l ks.length t = true) (hlim : (ks.length : Int) < limit) (hat : atI ks t.key = -1) :
    Calls Try.prog 12 #[.slice L nl cl, .agg #[.slice A ks.length c, .slice S (layI ks).length d], .agg #[.int .i64 t.k, .int .i64 t.s, .int .i64 t.p, .slice E ne ce], .int .i64 limit] w (PutR (putL ks t.key) (layI (putL ks t.key)) (placeI ks t.key) 0 w) := by
  subst hnl
  have hx2 : t.xs.length ≤ maxLen := by unfold maxLen; omega
  have q0 := (((Q.refl w).alloc (Obj.cells #[Value.slice A ks.length c, Value.slice S (layI ks).length d] 26)).alloc (Obj.cells #[.int .i64 t.k, .int .i64 t.s, .int .i64 t.p, .slice E ne ce] 28)).alloc (Obj.cells #[Value.slice none 0 0, Value.slice none 0 0] 26)
  have Hr := Lib.hid ((hr.q (Nat.le_refl _) q0).more q0.size)
  have Hkw := Lib.hid hk
  have HSw := Lib.hid hS
  have He := Lib.hid ((he.q (Nat.le_refl _) q0).more q0.size)
  have HT := Lib.hid ((BoxT.new w (Value.slice A ks.length c) (Value.slice S (layI ks).length d) 26).q (((Q.refl _).alloc (Obj.cells #[.int .i64 t.k, .int .i64 t.s, .int .i64 t.p, .slice E ne ce] 28)).alloc (Obj.cells #[Value.slice none 0 0, Value.slice none 0 0] 26)))
  have X := (Box4.new (w.alloc (Obj.cells #[Value.slice A ks.length c, Value.slice S (layI ks).length d] 26)) (.int .i64 t.k) (.int .i64 t.s) (.int .i64 t.p) (.slice E ne ce) 28).q ((Q.refl _).alloc (Obj.cells #[Value.slice none 0 0, Value.slice none 0 0] 26))
  have R := BoxF.new ((w.alloc (Obj.cells #[Value.slice A ks.length c, Value.slice S (layI ks).length d] 26)).alloc (Obj.cells #[.int .i64 t.k, .int .i64 t.s, .int .i64 t.p, .slice E ne ce] 28)) 26
  simp only [World.size_alloc] at X R
  have HX := Lib.hid X
  have HR := Lib.hid R
  have HsM := Lib.hid hs
  have Hne := Lib.hid hne
  clear hr hk hS he X R hs hne
  go_enter Try.func12, Try.ntmps12
  go_wp2_with fail
  generalize ((w.alloc (Obj.cells #[Value.slice A ks.length c, Value.slice S (layI ks).length d] 26)).alloc (Obj.cells #[.int .i64 t.k, .int .i64 t.s, .int .i64 t.p, .slice E ne ce] 28)).alloc (Obj.cells #[Value.slice none 0 0, Value.slice none 0 0] 26) = W0 at *
  refine (refMay_any _ _ _ _ _ _ _ _ _ _ _ _ l t _ rfl Hr.out Hne.out He.out hx2).mono ?_
  rintro e w1 ⟨rfl, q1⟩
  rw [hM]
  have HT1 := Lib.hid (HT.out.q q1)
  have HX1 := Lib.hid (HX.out.q q1)
  have HR1 := Lib.hid (HR.out.q q1)
  have He1 := Lib.hid ((He.out.q (Nat.le_refl _) q1).more q1.size)
  have q01 := q0.trans q1
  clear hM Hr He HT HX HR q0 q1
  have Hat : Hid (atI ks (t.k :: t.s :: t.p :: t.xs) = -1) := hat
  have dl : decide (limit ≤ (ks.length : Int)) = false := decide_eq_false (by omega)
  clear hat hlim
  have b0 := HT1.out.c0
  have b1 := HT1.out.c1
  have x0 := HX1.out.c0
  have x1 := HX1.out.c1
  have x2 := HX1.out.c2
  have x3 := HX1.out.c3
  have HKp : Hid (∀ w', Q w1 w' → w'.cell? ⟨w.heap.size, 0, none⟩ = some (.slice A ks.length c) ∧ w'.cell? ⟨w.heap.size, 1, none⟩ = some (.slice S (layI ks).length d) ∧ w'.cell? ⟨w.heap.size + 1, 0, none⟩ = some (.int .i64 t.k) ∧ w'.cell? ⟨w.heap.size + 1, 1, none⟩ = some (.int .i64 t.s) ∧ w'.cell? ⟨w.heap.size + 1, 2, none⟩ = some (.int .i64 t.p) ∧ w'.cell? ⟨w.heap.size + 1, 3, none⟩ = some (.slice E ne ce)) :=
    fun w' q => ⟨(HT1.out.q q).c0, (HT1.out.q q).c1, (HX1.out.q q).c0, (HX1.out.q q).c1, (HX1.out.q q).c2, (HX1.out.q q).c3⟩
  go_wp2_with fail
  go_region_held3 (fun w' => w'.cell? ⟨w.heap.size, 0, none⟩ = some (.slice A ks.length c) ∧ w'.cell? ⟨w.heap.size, 1, none⟩ = some (.slice S (layI ks).length d) ∧ w'.cell? ⟨w.heap.size + 1, 0, none⟩ = some (.int .i64 t.k) ∧ w'.cell? ⟨w.heap.size + 1, 1, none⟩ = some (.int .i64 t.s) ∧ w'.cell? ⟨w.heap.size + 1, 2, none⟩ = some (.int .i64 t.p) ∧ w'.cell? ⟨w.heap.size + 1, 3, none⟩ = some (.slice E ne ce))
    (first
      | go_keep
      | exact HKp.out _ p9
      | exact HKp.out _ p8
      | exact HKp.out _ (Q.refl w1))
    (first
      | (go_at_call 32; refine (refKey_any _ _ _ _ _ _ t.xs _ Hne.out (by exact He1.out) (by omega)).mono ?_; rintro e w8 ⟨g8, c8, rfl, _, _, hO8, q8⟩; have HO8 := Lib.hid hO8.ints; clear hO8; have p8 : Q w1 w8 := (Q.refl w1).drew.trans q8)
      | (go_at_call 21; refine (refAt_any _ _ _ _ _ _ ks (t.k :: t.s :: t.p :: t.xs) _ rfl rfl (by exact ((Hkw.out.q (Nat.le_refl _) (q01.trans p8)).more (q01.trans p8).size)) (by exact HO8.out) (by unfold maxLen; omega) (fun k hk => by have := HsM.out k hk; unfold maxLen; omega)).mono ?_; rintro e w9 ⟨rfl, hd9⟩; rw [Hat.out]; have p9 : Q w1 w9 := p8.trans (Q.of_drewN hd9); clear hd9))
  have q09 := q01.trans p9
  have HT9 := Lib.hid (HT1.out.q p9)
  have HX9 := Lib.hid (HX1.out.q p9)
  have HR9 := Lib.hid (HR1.out.q p9)
  have He9 := Lib.hid ((He1.out.q (Nat.le_refl _) p9).more p9.size)
  clear b0 b1 x0 x1 x2 x3 HKp
  go_wp2_with fail
  obtain ⟨PL, hPL⟩ : ∃ PL, putL ks t.key = PL := ⟨_, rfl⟩
  obtain ⟨pl, hpl⟩ : ∃ pl, placeI ks t.key = pl := ⟨_, rfl⟩
  have HPL : Hid (putL ks (t.k :: t.s :: t.p :: t.xs) = PL) := hPL
  have HPLk : Hid (putL ks t.key = PL) := hPL
  have Hplk : Hid (placeI ks t.key = pl) := hpl
  have Hpl : Hid (placeI ks (t.k :: t.s :: t.p :: t.xs) = pl) := hpl
  clear hPL hpl
  go_cut [12, 13] (CutQ w (w.heap.size + 1 + 1) PL pl)
  case first =>
    have b0 := HT9.out.c0
    have b1 := HT9.out.c1
    have x0 := HX9.out.c0
    have x1 := HX9.out.c1
    have x2 := HX9.out.c2
    have x3 := HX9.out.c3
    have HKp : Hid (∀ w', Q w9 w' → w'.cell? ⟨w.heap.size, 0, none⟩ = some (.slice A ks.length c) ∧ w'.cell? ⟨w.heap.size, 1, none⟩ = some (.slice S (layI ks).length d) ∧ w'.cell? ⟨w.heap.size + 1, 0, none⟩ = some (.int .i64 t.k) ∧ w'.cell? ⟨w.heap.size + 1, 1, none⟩ = some (.int .i64 t.s) ∧ w'.cell? ⟨w.heap.size + 1, 2, none⟩ = some (.int .i64 t.p) ∧ w'.cell? ⟨w.heap.size + 1, 3, none⟩ = some (.slice E ne ce)) :=
      fun w' q => ⟨(HT9.out.q q).c0, (HT9.out.q q).c1, (HX9.out.q q).c0, (HX9.out.q q).c1, (HX9.out.q q).c2, (HX9.out.q q).c3⟩
    have hrl := HR9.out.lt
    go_region_held3 (fun w' => w'.cell? ⟨w.heap.size, 0, none⟩ = some (.slice A ks.length c) ∧ w'.cell? ⟨w.heap.size, 1, none⟩ = some (.slice S (layI ks).length d) ∧ w'.cell? ⟨w.heap.size + 1, 0, none⟩ = some (.int .i64 t.k) ∧ w'.cell? ⟨w.heap.size + 1, 1, none⟩ = some (.int .i64 t.s) ∧ w'.cell? ⟨w.heap.size + 1, 2, none⟩ = some (.int .i64 t.p) ∧ w'.cell? ⟨w.heap.size + 1, 3, none⟩ = some (.slice E ne ce))
      (first
        | go_keep
        | exact HKp.out _ p6
        | exact HKp.out _ (p6.alloc _)
        | exact HKp.out _ p5
        | exact HKp.out _ (p5.alloc _)
        | exact HKp.out _ ((Q.refl w9).alloc _)
        | exact HKp.out _ (Q.refl w9)
        | exact HKp.out _ ((p6.setCell (p := ⟨w9.heap.size, 0, none⟩) (Nat.le_refl _) _).setCell (p := ⟨w9.heap.size, 1, none⟩) (Nat.le_refl _) _)
        | exact HKp.out _ ((p6.setCell (p := ⟨w5.heap.size, 0, none⟩) p5.size _).setCell (p := ⟨w5.heap.size, 1, none⟩) p5.size _))
      (first
        | (go_at_call 32; refine (refKey_any _ _ _ _ _ _ t.xs _ Hne.out (by first | exact He9.out | exact (He9.out.q (Nat.le_refl _) ((Q.refl w9).alloc _)).more (by simp)) (by omega)).mono ?_; rintro e w5 ⟨g5, c5, rfl, hg5, hc5, hO5, q5⟩; have HO5 := Lib.hid hO5; have Hc5 := Lib.hid hc5; have Hg5 := Lib.hid hg5; clear hO5 hc5 hg5; have p5 : Q w9 w5 := (by first | exact (Q.refl w9).drew.trans q5 | exact ((Q.refl w9).drew.alloc _).trans q5); (first | have bx : BoxF w5 w9.heap.size := (BoxF.new w9.drew 26).q q5 | skip))
        | (go_at_call 33; refine (refPut_at w.heap.size g5 _ _ _ _ _ _ _ _ ks (t.k :: t.s :: t.p :: t.xs) _ rfl rfl rfl (by first | exact Hkw.out.keep (q09.trans p5) | exact Hkw.out.keep (q09.trans (p5.alloc _))) (by first | exact HSw.out.keep (q09.trans p5) | exact HSw.out.keep (q09.trans (p5.alloc _))) (by first | exact (q09.trans p5).size | exact (q09.trans (p5.alloc _)).size) (by first | exact HO5.out | exact HO5.out.q ((Q.refl w5).alloc _)) (fun k hk => by have := HsM.out k hk; unfold maxLen; omega) (by simp; omega) hl Hc5.out).mono ?_; rintro e w6 ⟨A6, c6, S6, d6, rfl, hK6, hI6, q6⟩; have HK6 := Lib.hid hK6; have HI6 := Lib.hid hI6; clear hK6 hI6; rw [HPL.out] at HK6 HI6; rw [HPL.out, Hpl.out]; have p6 : Q w9 w6 := (by first | exact p5.trans q6 | exact (p5.alloc _).trans q6); (first | (have bx2 := bx.q q6; have y0 := bx2.c0; have y1 := bx2.c1; have z0 := bx2.f0; have z1 := bx2.f1) | (have bx2 := (BoxF.new w5 26).q q6; have y0 := bx2.c0; have y1 := bx2.c1; have z0 := bx2.f0; have z1 := bx2.f1) | skip)))
    · have hs5 := p5.size
      have hg5 : w9.heap.size ≤ g5 := Hg5.out
      have hs0 := q09.size
      go_wp2_with fail
      go_meet
      exact cutQ_mk (w := w) (u := w5) (w6 := w6) (gk := g5) HK6.out HI6.out (by omega) (by omega) (by omega) ((Q.refl w6).alloc _).size (fun p _ hp => ((Q.refl w6).alloc _).cell hp) (BoxT.new w6 _ _ _).c0 (BoxT.new w6 _ _ _).c1 ((HR9.out.q p6).q ((Q.refl w6).alloc _)) ((q09.trans p6).alloc _)
    · have hs5 := p5.size
      have hg5 : w9.heap.size ≤ g5 := Hg5.out
      have hg5' := HO5.out.1
      have hs0 := q09.size
      have hz5 : (w5.alloc (Obj.cells #[Value.slice none 0 0, Value.slice none 0 0] 26)).heap.size = w5.heap.size + 1 := World.size_alloc _ _
      go_wp2_with fail
      go_meet
      exact cutQ_mk (w := w) (u := w5.alloc (Obj.cells #[Value.slice none 0 0, Value.slice none 0 0] 26)) (w6 := w6) (gk := g5) HK6.out HI6.out (by omega) (by omega) (by omega) (Nat.le_of_eq (size_two _ _ _ _ _).symm) (fun p hp _ => set_two_other _ _ _ _ _ (by rcases hp with h | h | h <;> omega)) (setCell_ne (by omega) (setCell_eq y0)) (setCell_eq (setCell_ne (by omega) y1)) ((HR9.out.q p6).far (by omega) _ _) (((q09.trans p6).setCell (p := ⟨w5.heap.size, 0, none⟩) (by show _ ≤ w5.heap.size; omega) _).setCell (p := ⟨w5.heap.size, 1, none⟩) (by show _ ≤ w5.heap.size; omega) _)
    · have hs5 := bx.lt
      have hg5 : w9.heap.size + 1 ≤ g5 := by have := Hg5.out; simpa using this
      have hs0 := q09.size
      go_wp2_with fail
      go_meet
      exact cutQ_mk (w := w) (u := w5) (w6 := w6) (gk := g5) HK6.out HI6.out (by omega) (by omega) (by omega) (Nat.le_of_eq (size_two _ _ _ _ _).symm) (fun p hp _ => set_two_other _ _ _ _ _ (by rcases hp with h | h | h <;> omega)) (setCell_ne (by omega) (setCell_eq y0)) (setCell_eq (setCell_ne (by omega) y1)) ((HR9.out.q p6).far (by omega) _ _) (((q09.trans p6).setCell (p := ⟨w9.heap.size, 0, none⟩) (by show _ ≤ w9.heap.size; omega) _).setCell (p := ⟨w9.heap.size, 1, none⟩) (by show _ ≤ w9.heap.size; omega) _)
  case rest =>
    obtain ⟨B, A6, c6, S6, d6, rfl, rfl, b0, b1, hF, hK, hI, hq⟩ := hcut
    have HF := Lib.hid hF
    have HK := Lib.hid hK
    have HI := Lib.hid hI
    have Hq := Lib.hid hq
    have r0 := hF.c0
    have r1 := hF.c1
    have f0 := hF.f0
    have f1 := hF.f1
    clear hF hK hI hq
    go_wp2_with fail
    obtain ⟨y0, y1⟩ := HF.out.two (.slice A6 PL.length c6) (.slice S6 (layI PL).length d6)
    refine bodyPost_ret (v := .tuple #[.agg #[.slice A6 PL.length c6, .slice S6 (layI PL).length d6], .int .i64 pl, .int .i64 0]) (by simp [results, Try.f12, go_sem, y0, y1]) rfl ⟨A6, c6, S6, d6, by rw [HPLk.out, Hplk.out], ?_, ?_, ?_⟩
    · rw [HPLk.out]; exact HK.out.to (Nat.le_of_eq (size_two _ _ _ _ _).symm) fun p hp _ => set_two_other _ _ _ _ _ hp
    · rw [HPLk.out]; exact HI.out.to (Nat.le_of_eq (size_two _ _ _ _ _).symm) fun p hp _ => set_two_other _ _ _ _ _ hp
    · exact (Hq.out.setCell (p := ⟨w.heap.size + 1 + 1, 0, none⟩) (by show _ ≤ w.heap.size + 1 + 1; omega) _).setCell (p := ⟨w.heap.size + 1 + 1, 1, none⟩) (by show _ ≤ w.heap.size + 1 + 1; omega) _
end Go.Proofs.Ytgnbempkobgeiaa.Tm
