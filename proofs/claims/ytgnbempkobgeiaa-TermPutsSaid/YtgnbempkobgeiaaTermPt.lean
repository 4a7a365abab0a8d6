/-
  Contract of the document's Put of layer 3: a term that is there already; whatever comes in.
-/
import Derived.Test.YtgnbempkobgeiaaTermPr
import Derived.Test.YtgnbempkobgeiaaKitStep
namespace Go.Proofs.Ytgnbempkobgeiaa.Tm
open Go.RowKit Kit Hs

set_option maxRecDepth 100000 in
set_option maxHeartbeats 2000000 in
theorem refPut3_there (L A S E : Option Addr) (nl cl c d ne ce : Nat) (l : List Sg.Sig) (ks : List (List Int)) (t : Tm) (limit : Int) (w : World) (hnl : nl = l.length) (hr : Sg.Row w w.heap.size L l) (hk : Keys w w.heap.size A ks) (hS : Ints w w.heap.size S (layI ks)) (hne : ne = t.xs.length) (he : Ints w w.heap.size E t.xs)
    (hs : ∀ k ∈ ks, k.length ≤ 100000) (hl : ks.length ≤ 5000) (hx : t.xs.length ≤ 900) (hM : mayB l ks.length t = true) (p : Int) (hat : atI ks t.key = p) (hp : 0 ≤ p) :
    Calls Try.prog 12 #[.slice L nl cl, .agg #[.slice A ks.length c, .slice S (layI ks).length d], .agg #[.int .i64 t.k, .int .i64 t.s, .int .i64 t.p, .slice E ne ce], .int .i64 limit] w (PutR (putL ks t.key) (layI (putL ks t.key)) (placeI ks t.key) 0 w) := by
  subst hnl
  have hx2 : t.xs.length ≤ maxLen := by unfold maxLen; omega
  have q0 := (((Q.refl w).alloc (Obj.cells #[Value.slice A ks.length c, Value.slice S (layI ks).length d] 26)).alloc (Obj.cells #[.int .i64 t.k, .int .i64 t.s, .int .i64 t.p, .slice E ne ce] 28)).alloc (Obj.cells #[Value.slice none 0 0, Value.slice none 0 0] 26)
  have Hr := Lib.hid ((hr.q (Nat.le_refl _) q0).more q0.size)
  have Hkw := Lib.hid hk
  have HSw := Lib.hid hS
  have He := Lib.hid ((he.q (Nat.le_refl _) q0).more q0.size)
  have HT := Lib.hid ((BoxT.new w (Value.slice A ks.length c) (Value.slice S (layI ks).length d) 26).q (((Q.refl _).alloc (Obj.cells #[.int .i64 t.k, .int .i64 t.s, .int .i64 t.p, .slice E ne ce] 28)).alloc (Obj.cells #[Value.slice none 0 0, Value.slice none 0 0] 26)))
  have X := (Box4.new (w.alloc (Obj.cells #[Value.slice A ks.length c, Value.slice S (layI ks).length d] 26)) (.int .i64 t.k) (.int .i64 t.s) (.int .i64 t.p) (.slice E ne ce) 28).q ((Q.refl _).alloc (Obj.cells #[Value.slice none 0 0, Value.slice none 0 0] 26))
  have R := BoxF.new ((w.alloc (Obj.cells #[Value.slice A ks.length c, Value.slice S (layI ks).length d] 26)).alloc (Obj.cells #[.int .i64 t.k, .int .i64 t.s, .int .i64 t.p, .slice E ne ce] 28)) 26
  simp only [World.size_alloc] at X R
  have HX := Lib.hid X
  have HR := Lib.hid R
  have HsM := Lib.hid hs
  have Hne := Lib.hid hne
  clear hr hk hS he X R hs hne
  go_enter Try.func12, Try.ntmps12
  go_wp2_with fail
  generalize ((w.alloc (Obj.cells #[Value.slice A ks.length c, Value.slice S (layI ks).length d] 26)).alloc (Obj.cells #[.int .i64 t.k, .int .i64 t.s, .int .i64 t.p, .slice E ne ce] 28)).alloc (Obj.cells #[Value.slice none 0 0, Value.slice none 0 0] 26) = W0 at *
  refine (refMay_any _ _ _ _ _ _ _ _ _ _ _ _ l t _ rfl Hr.out Hne.out He.out hx2).mono ?_
  rintro e w1 ⟨rfl, q1⟩
  rw [hM]
  have HT1 := Lib.hid (HT.out.q q1)
  have HX1 := Lib.hid (HX.out.q q1)
  have HR1 := Lib.hid (HR.out.q q1)
  have He1 := Lib.hid ((He.out.q (Nat.le_refl _) q1).more q1.size)
  have q01 := q0.trans q1
  clear hM Hr He HT HX HR q0 q1
  have Hat : Hid (atI ks (t.k :: t.s :: t.p :: t.xs) = p) := hat
  have dp : decide (p < 0) = false := decide_eq_false (by omega)
  clear hat
  have b0 := HT1.out.c0
  have b1 := HT1.out.c1
  have x0 := HX1.out.c0
  have x1 := HX1.out.c1
  have x2 := HX1.out.c2
  have x3 := HX1.out.c3
  have HKp : Hid (∀ w', Q w1 w' → w'.cell? ⟨w.heap.size, 0, none⟩ = some (.slice A ks.length c) ∧ w'.cell? ⟨w.heap.size, 1, none⟩ = some (.slice S (layI ks).length d) ∧ w'.cell? ⟨w.heap.size + 1, 0, none⟩ = some (.int .i64 t.k) ∧ w'.cell? ⟨w.heap.size + 1, 1, none⟩ = some (.int .i64 t.s) ∧ w'.cell? ⟨w.heap.size + 1, 2, none⟩ = some (.int .i64 t.p) ∧ w'.cell? ⟨w.heap.size + 1, 3, none⟩ = some (.slice E ne ce)) :=
    fun w' q => ⟨(HT1.out.q q).c0, (HT1.out.q q).c1, (HX1.out.q q).c0, (HX1.out.q q).c1, (HX1.out.q q).c2, (HX1.out.q q).c3⟩
  go_wp2_with fail
  refine wp_region_held_drew (S := (fun w' => w'.cell? ⟨w.heap.size, 0, none⟩ = some (.slice A ks.length c) ∧ w'.cell? ⟨w.heap.size, 1, none⟩ = some (.slice S (layI ks).length d) ∧ w'.cell? ⟨w.heap.size + 1, 0, none⟩ = some (.int .i64 t.k) ∧ w'.cell? ⟨w.heap.size + 1, 1, none⟩ = some (.int .i64 t.s) ∧ w'.cell? ⟨w.heap.size + 1, 2, none⟩ = some (.int .i64 t.p) ∧ w'.cell? ⟨w.heap.size + 1, 3, none⟩ = some (.slice E ne ce))) (by kernel_rfl) ?_ (fun hHeld => ?_)
  · exact HKp.out _ (Q.refl w1).drew
  refine take_w (i := 0) (d := some 22) (v := ?_) rfl (by kernel_rfl) (by kernel_rfl) (by kernel_rfl) (fun _ _ _ h => h) rfl (by rfl) ?_ (by assumption) ?_
  rotate_left
  · (intro w hSw; (try dsimp only at hSw); go_simp; (try with_reducible rfl))
  try simp only [Act.put, List.setIfInBounds_toArray, List.set_cons_zero, List.set_cons_succ]
  refine take_w (i := 1) (d := some 23) (v := ?_) rfl (by kernel_rfl) (by kernel_rfl) (by kernel_rfl) (fun _ _ _ h => h) rfl (by rfl) ?_ (by assumption) ?_
  rotate_left
  · (intro w hSw; (try dsimp only at hSw); go_simp; (try with_reducible rfl))
  try simp only [Act.put, List.setIfInBounds_toArray, List.set_cons_zero, List.set_cons_succ]
  refine take_w (i := 2) (d := some 24) (v := ?_) rfl (by kernel_rfl) (by kernel_rfl) (by kernel_rfl) (fun _ _ _ h => h) rfl (by rfl) ?_ (by assumption) ?_
  rotate_left
  · (intro w hSw; (try dsimp only at hSw); go_simp; (try with_reducible rfl))
  try simp only [Act.put, List.setIfInBounds_toArray, List.set_cons_zero, List.set_cons_succ]
  refine call_w (i := 3) rfl (by kernel_rfl) (by rfl) (fun K hK => ?_)
  go_simp
  go_at_call 32
  refine (refKey_any _ _ _ _ _ _ t.xs _ Hne.out (by exact He1.out) (by omega)).mono ?_
  rintro e w8 ⟨g8, c8, rfl, _, _, hO8, q8⟩
  have HO8 := Lib.hid hO8.ints
  clear hO8
  have p8 : Q w1 w8 := (Q.refl w1).drew.trans q8
  refine hK.out _ _ ?_ (fun hHeld => ?_)
  · exact HKp.out _ p8
  clear hK K
  try simp only [Act.put, List.setIfInBounds_toArray, List.set_cons_zero, List.set_cons_succ]
  refine call_w (i := 4) rfl (by kernel_rfl) (by rfl) (fun K hK => ?_)
  go_simp
  go_at_call 21
  refine (refAt_any _ _ _ _ _ _ ks (t.k :: t.s :: t.p :: t.xs) _ rfl rfl (by exact ((Hkw.out.q (Nat.le_refl _) (q01.trans p8)).more (q01.trans p8).size)) (by exact HO8.out) (by unfold maxLen; omega) (fun k hk => (by have := HsM.out k hk; unfold maxLen; omega))).mono ?_
  rintro e w9 ⟨rfl, hd9⟩
  rw [Hat.out]
  have p9 : Q w1 w9 := p8.trans (Q.of_drewN hd9)
  clear hd9
  refine hK.out _ _ ?_ (fun hHeld => ?_)
  · exact HKp.out _ p9
  clear hK K
  try simp only [Act.put, List.setIfInBounds_toArray, List.set_cons_zero, List.set_cons_succ]
  refine take_w (i := 5) (d := some 27) (v := ?_) rfl (by kernel_rfl) (by kernel_rfl) (by kernel_rfl) (fun _ _ _ h => h) rfl (by rfl) ?_ (by assumption) ?_
  rotate_left
  · (intro w hSw; (try dsimp only at hSw); go_simp; (try with_reducible rfl))
  try simp only [Act.put, List.setIfInBounds_toArray, List.set_cons_zero, List.set_cons_succ]
  refine take_w (i := 6) (d := some 28) (v := ?_) rfl (by kernel_rfl) (by kernel_rfl) (by kernel_rfl) (fun _ _ _ h => h) rfl (by rfl) ?_ (by assumption) ?_
  rotate_left
  · (intro w hSw; (try dsimp only at hSw); go_simp; (try with_reducible rfl))
  try simp only [Act.put, List.setIfInBounds_toArray, List.set_cons_zero, List.set_cons_succ]
  refine take_u (i := 7) (d := some 29) rfl (by kernel_rfl) (by kernel_rfl) (by kernel_rfl) (fun _ _ _ h => h) rfl (by rfl) (by assumption) ?_
  try simp only [Act.put, List.setIfInBounds_toArray, List.set_cons_zero, List.set_cons_succ]
  refine take_u (i := 8) (d := some 30) rfl (by kernel_rfl) (by kernel_rfl) (by kernel_rfl) (fun _ _ _ h => h) rfl (by rfl) (by assumption) ?_
  try simp only [Act.put, List.setIfInBounds_toArray, List.set_cons_zero, List.set_cons_succ]
  refine take_u (i := 9) (d := some 31) rfl (by kernel_rfl) (by kernel_rfl) (by kernel_rfl) (fun _ _ _ h => h) rfl (by rfl) (by assumption) ?_
  try simp only [Act.put, List.setIfInBounds_toArray, List.set_cons_zero, List.set_cons_succ]
  refine take_u (i := 10) (d := some 32) rfl (by kernel_rfl) (by kernel_rfl) (by kernel_rfl) (fun _ _ _ h => h) rfl (by rfl) (by assumption) ?_
  try simp only [Act.put, List.setIfInBounds_toArray, List.set_cons_zero, List.set_cons_succ]
  refine take_u (i := 11) (d := some 33) rfl (by kernel_rfl) (by kernel_rfl) (by kernel_rfl) (fun _ _ _ h => h) rfl (by rfl) (by assumption) ?_
  try simp only [Act.put, List.setIfInBounds_toArray, List.set_cons_zero, List.set_cons_succ]
  refine take_w (i := 12) (d := some 34) (v := ?_) rfl (by kernel_rfl) (by kernel_rfl) (by kernel_rfl) (fun _ _ _ h => h) rfl (by rfl) ?_ (by assumption) ?_
  rotate_left
  · (intro w hSw; (try dsimp only at hSw); go_simp; (try with_reducible rfl))
  try simp only [Act.put, List.setIfInBounds_toArray, List.set_cons_zero, List.set_cons_succ]
  refine wpAnyH_done (by kernel_rfl) ?_ _
  have q09 := q01.trans p9
  have HT9 := Lib.hid (HT1.out.q p9)
  have HX9 := Lib.hid (HX1.out.q p9)
  have HR9 := Lib.hid (HR1.out.q p9)
  have He9 := Lib.hid ((He1.out.q (Nat.le_refl _) p9).more p9.size)
  clear b0 b1 x0 x1 x2 x3 HKp
  go_wp2_with fail
  obtain ⟨PL, hPL⟩ : ∃ PL, putL ks t.key = PL := ⟨_, rfl⟩
  obtain ⟨pl, hpl⟩ : ∃ pl, placeI ks t.key = pl := ⟨_, rfl⟩
  have HPL : Hid (putL ks (t.k :: t.s :: t.p :: t.xs) = PL) := hPL
  have HPLk : Hid (putL ks t.key = PL) := hPL
  have Hplk : Hid (placeI ks t.key = pl) := hpl
  have Hpl : Hid (placeI ks (t.k :: t.s :: t.p :: t.xs) = pl) := hpl
  clear hPL hpl
  go_cut [12, 13] (CutQ w (w.heap.size + 1 + 1) PL pl)
  case first =>
    have b0 := HT9.out.c0
    have b1 := HT9.out.c1
    have x0 := HX9.out.c0
    have x1 := HX9.out.c1
    have x2 := HX9.out.c2
    have x3 := HX9.out.c3
    have HKp : Hid (∀ w', Q w9 w' → w'.cell? ⟨w.heap.size, 0, none⟩ = some (.slice A ks.length c) ∧ w'.cell? ⟨w.heap.size, 1, none⟩ = some (.slice S (layI ks).length d) ∧ w'.cell? ⟨w.heap.size + 1, 0, none⟩ = some (.int .i64 t.k) ∧ w'.cell? ⟨w.heap.size + 1, 1, none⟩ = some (.int .i64 t.s) ∧ w'.cell? ⟨w.heap.size + 1, 2, none⟩ = some (.int .i64 t.p) ∧ w'.cell? ⟨w.heap.size + 1, 3, none⟩ = some (.slice E ne ce)) :=
      fun w' q => ⟨(HT9.out.q q).c0, (HT9.out.q q).c1, (HX9.out.q q).c0, (HX9.out.q q).c1, (HX9.out.q q).c2, (HX9.out.q q).c3⟩
    have hrl := HR9.out.lt
    go_region_held3 (fun w' => w'.cell? ⟨w.heap.size, 0, none⟩ = some (.slice A ks.length c) ∧ w'.cell? ⟨w.heap.size, 1, none⟩ = some (.slice S (layI ks).length d) ∧ w'.cell? ⟨w.heap.size + 1, 0, none⟩ = some (.int .i64 t.k) ∧ w'.cell? ⟨w.heap.size + 1, 1, none⟩ = some (.int .i64 t.s) ∧ w'.cell? ⟨w.heap.size + 1, 2, none⟩ = some (.int .i64 t.p) ∧ w'.cell? ⟨w.heap.size + 1, 3, none⟩ = some (.slice E ne ce))
      (first
        | go_keep
        | exact HKp.out _ p6
        | exact HKp.out _ (p6.alloc _)
        | exact HKp.out _ p5
        | exact HKp.out _ (p5.alloc _)
        | exact HKp.out _ ((Q.refl w9).alloc _)
        | exact HKp.out _ (Q.refl w9)
        | exact HKp.out _ ((p6.setCell (p := ⟨w9.heap.size, 0, none⟩) (Nat.le_refl _) _).setCell (p := ⟨w9.heap.size, 1, none⟩) (Nat.le_refl _) _)
        | exact HKp.out _ ((p6.setCell (p := ⟨w5.heap.size, 0, none⟩) p5.size _).setCell (p := ⟨w5.heap.size, 1, none⟩) p5.size _))
      (first
        | (go_at_call 32; refine (refKey_any _ _ _ _ _ _ t.xs _ Hne.out (by first | exact He9.out | exact (He9.out.q (Nat.le_refl _) ((Q.refl w9).alloc _)).more (by simp)) (by omega)).mono ?_; rintro e w5 ⟨g5, c5, rfl, hg5, hc5, hO5, q5⟩; have HO5 := Lib.hid hO5; have Hc5 := Lib.hid hc5; have Hg5 := Lib.hid hg5; clear hO5 hc5 hg5; have p5 : Q w9 w5 := (by first | exact (Q.refl w9).drew.trans q5 | exact ((Q.refl w9).drew.alloc _).trans q5); (first | have bx : BoxF w5 w9.heap.size := (BoxF.new w9.drew 26).q q5 | skip))
        | (go_at_call 33; refine (refPut_at w.heap.size g5 _ _ _ _ _ _ _ _ ks (t.k :: t.s :: t.p :: t.xs) _ rfl rfl rfl (by first | exact Hkw.out.keep (q09.trans p5) | exact Hkw.out.keep (q09.trans (p5.alloc _))) (by first | exact HSw.out.keep (q09.trans p5) | exact HSw.out.keep (q09.trans (p5.alloc _))) (by first | exact (q09.trans p5).size | exact (q09.trans (p5.alloc _)).size) (by first | exact HO5.out | exact HO5.out.q ((Q.refl w5).alloc _)) (fun k hk => by have := HsM.out k hk; unfold maxLen; omega) (by simp; omega) hl Hc5.out).mono ?_; rintro e w6 ⟨A6, c6, S6, d6, rfl, hK6, hI6, q6⟩; have HK6 := Lib.hid hK6; have HI6 := Lib.hid hI6; clear hK6 hI6; rw [HPL.out] at HK6 HI6; rw [HPL.out, Hpl.out]; have p6 : Q w9 w6 := (by first | exact p5.trans q6 | exact (p5.alloc _).trans q6); (first | (have bx2 := bx.q q6; have y0 := bx2.c0; have y1 := bx2.c1; have z0 := bx2.f0; have z1 := bx2.f1) | (have bx2 := (BoxF.new w5 26).q q6; have y0 := bx2.c0; have y1 := bx2.c1; have z0 := bx2.f0; have z1 := bx2.f1) | skip)))
    · have hs5 := p5.size
      have hg5 : w9.heap.size ≤ g5 := Hg5.out
      have hs0 := q09.size
      go_wp2_with fail
      go_meet
      exact cutQ_mk (w := w) (u := w5) (w6 := w6) (gk := g5) HK6.out HI6.out (by omega) (by omega) (by omega) ((Q.refl w6).alloc _).size (fun p _ hp => ((Q.refl w6).alloc _).cell hp) (BoxT.new w6 _ _ _).c0 (BoxT.new w6 _ _ _).c1 ((HR9.out.q p6).q ((Q.refl w6).alloc _)) ((q09.trans p6).alloc _)
    · have hs5 := p5.size
      have hg5 : w9.heap.size ≤ g5 := Hg5.out
      have hg5' := HO5.out.1
      have hs0 := q09.size
      have hz5 : (w5.alloc (Obj.cells #[Value.slice none 0 0, Value.slice none 0 0] 26)).heap.size = w5.heap.size + 1 := World.size_alloc _ _
      go_wp2_with fail
      go_meet
      exact cutQ_mk (w := w) (u := w5.alloc (Obj.cells #[Value.slice none 0 0, Value.slice none 0 0] 26)) (w6 := w6) (gk := g5) HK6.out HI6.out (by omega) (by omega) (by omega) (Nat.le_of_eq (size_two _ _ _ _ _).symm) (fun p hp _ => set_two_other _ _ _ _ _ (by rcases hp with h | h | h <;> omega)) (setCell_ne (by omega) (setCell_eq y0)) (setCell_eq (setCell_ne (by omega) y1)) ((HR9.out.q p6).far (by omega) _ _) (((q09.trans p6).setCell (p := ⟨w5.heap.size, 0, none⟩) (by show _ ≤ w5.heap.size; omega) _).setCell (p := ⟨w5.heap.size, 1, none⟩) (by show _ ≤ w5.heap.size; omega) _)
    · have hs5 := bx.lt
      have hg5 : w9.heap.size + 1 ≤ g5 := by have := Hg5.out; simpa using this
      have hs0 := q09.size
      go_wp2_with fail
      go_meet
      exact cutQ_mk (w := w) (u := w5) (w6 := w6) (gk := g5) HK6.out HI6.out (by omega) (by omega) (by omega) (Nat.le_of_eq (size_two _ _ _ _ _).symm) (fun p hp _ => set_two_other _ _ _ _ _ (by rcases hp with h | h | h <;> omega)) (setCell_ne (by omega) (setCell_eq y0)) (setCell_eq (setCell_ne (by omega) y1)) ((HR9.out.q p6).far (by omega) _ _) (((q09.trans p6).setCell (p := ⟨w9.heap.size, 0, none⟩) (by show _ ≤ w9.heap.size; omega) _).setCell (p := ⟨w9.heap.size, 1, none⟩) (by show _ ≤ w9.heap.size; omega) _)
  case rest =>
    obtain ⟨B, A6, c6, S6, d6, rfl, rfl, b0, b1, hF, hK, hI, hq⟩ := hcut
    have HF := Lib.hid hF
    have HK := Lib.hid hK
    have HI := Lib.hid hI
    have Hq := Lib.hid hq
    have r0 := hF.c0
    have r1 := hF.c1
    have f0 := hF.f0
    have f1 := hF.f1
    clear hF hK hI hq
    go_wp2_with fail
    obtain ⟨y0, y1⟩ := HF.out.two (.slice A6 PL.length c6) (.slice S6 (layI PL).length d6)
    refine bodyPost_ret (v := .tuple #[.agg #[.slice A6 PL.length c6, .slice S6 (layI PL).length d6], .int .i64 pl, .int .i64 0]) (by simp [results, Try.f12, go_sem, y0, y1]) rfl ⟨A6, c6, S6, d6, by rw [HPLk.out, Hplk.out], ?_, ?_, ?_⟩
    · rw [HPLk.out]; exact HK.out.to (Nat.le_of_eq (size_two _ _ _ _ _).symm) fun p hp _ => set_two_other _ _ _ _ _ hp
    · rw [HPLk.out]; exact HI.out.to (Nat.le_of_eq (size_two _ _ _ _ _).symm) fun p hp _ => set_two_other _ _ _ _ _ hp
    · exact (Hq.out.setCell (p := ⟨w.heap.size + 1 + 1, 0, none⟩) (by show _ ≤ w.heap.size + 1 + 1; omega) _).setCell (p := ⟨w.heap.size + 1 + 1, 1, none⟩) (by show _ ≤ w.heap.size + 1 + 1; omega) _

theorem refPut3_any (L A S E : Option Addr) (nl cl n c m d ne ce : Nat) (l : List Sg.Sig) (ks : List (List Int)) (t : Tm) (limit : Int) (w : World) (hnl : nl = l.length) (hr : Sg.Row w w.heap.size L l) (hn : n = ks.length) (hm : m = (layI ks).length) (hk : Keys w w.heap.size A ks) (hS : Ints w w.heap.size S (layI ks)) (hne : ne = t.xs.length) (he : Ints w w.heap.size E t.xs)
    (hs : ∀ k ∈ ks, k.length ≤ 100000) (hl : ks.length ≤ 5000) (hx : t.xs.length ≤ 900) :
    Calls Try.prog 12 #[.slice L nl cl, .agg #[.slice A n c, .slice S m d], .agg #[.int .i64 t.k, .int .i64 t.s, .int .i64 t.p, .slice E ne ce], .int .i64 limit] w (PutR (put3L l ks t limit) (layI (put3L l ks t limit)) (put3I l ks t limit) (put3E l ks t limit) w) := by
  subst hn
  subst hm
  unfold put3L put3I put3E fullB newB
  cases hM : mayB l ks.length t
  · exact refPut3_arg L A S E nl cl c d ne ce l ks t limit w hnl hr hk hS hne he hs hl hx hM
  · rcases atI_cases ks t.key with ⟨h1, _⟩ | ⟨i, _, h2⟩
    · by_cases hlim : limit ≤ (ks.length : Int)
      · rw [decide_eq_true hlim, h1]
        exact refPut3_full L A S E nl cl c d ne ce l ks t limit w hnl hr hk hS hne he hs hl hx hM hlim h1
      · rw [decide_eq_false hlim]
        exact refPut3_room L A S E nl cl c d ne ce l ks t limit w hnl hr hk hS hne he hs hl hx hM (by omega) h1
    · rw [h2, decide_eq_false (by omega : ¬ (i : Int) < 0), Bool.and_false]
      exact refPut3_there L A S E nl cl c d ne ce l ks t limit w hnl hr hk hS hne he hs hl hx hM i h2 (by omega)
end Go.Proofs.Ytgnbempkobgeiaa.Tm
