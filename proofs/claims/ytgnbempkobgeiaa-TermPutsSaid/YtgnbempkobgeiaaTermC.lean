/-
  Contracts of the two Ofs: the term at a place.
-/
import Derived.Test.YtgnbempkobgeiaaTermB
namespace Go.Proofs.Ytgnbempkobgeiaa.Tm
open Go.RowKit Kit Hs

set_option maxRecDepth 100000 in
set_option maxHeartbeats 1000000 in
theorem refOf_any (A S : Option Addr) (n c m d : Nat) (ks : List (List Int)) (id : Int) (w : World) (hn : n = ks.length) (hk : Keys w w.heap.size A ks) :
    Calls Try.prog 38 #[.agg #[.slice A n c, .slice S m d], .int .i64 id] w (LookPost ks id w) := by
  subst hn
  have q0 := ((Q.refl w).alloc (Obj.cells #[Value.slice A ks.length c, Value.slice S m d] 26)).alloc (Obj.cells #[.int .i64 0, .int .i64 0, .int .i64 0, .slice none 0 0] 28)
  cases hp : isPl id ks.length
  · have HT := Lib.hid (termAt_out hp)
    have hno := isPl_no hp
    clear hk
    by_cases h0 : id < 0
    · have d0 : decide (id < 0) = true := decide_eq_true h0
      clear hno h0
      go_enter Try.func38, Try.ntmps38
      go_wp2_with fail
      exact bodyPost_ret (v := .tuple #[.agg #[.int .i64 0, .int .i64 0, .int .i64 0, .slice none 0 0], .bool false]) (by simp [results, Try.f38, go_sem]) rfl (look_none HT.out q0)
    · have d0 : decide (id < 0) = false := decide_eq_false h0
      have d1 : decide ((ks.length : Int) ≤ id) = true := decide_eq_true (by omega)
      clear hno h0
      go_enter Try.func38, Try.ntmps38
      go_wp2_with fail
      exact bodyPost_ret (v := .tuple #[.agg #[.int .i64 0, .int .i64 0, .int .i64 0, .slice none 0 0], .bool false]) (by simp [results, Try.f38, go_sem]) rfl (look_none HT.out q0)
  · obtain ⟨h0, h1⟩ := (isPl_iff _ _).1 hp
    obtain ⟨i, rfl⟩ := Int.eq_ofNat_of_zero_le h0
    have hlt : i < ks.length := by omega
    obtain ⟨ad, rfl, hb, a, c1, hle, c0, hi⟩ := hk.at_ hlt
    by_cases h3 : 3 ≤ ks[i].length
    · have HT := Lib.hid (termAt_key hlt h3)
      obtain ⟨ad1, rfl, hb1, hc1⟩ := hi (by omega)
      have k0 := hc1 0 _ (List.getElem?_eq_getElem (show 0 < ks[i].length by omega))
      have k1 := hc1 1 _ (List.getElem?_eq_getElem (show 1 < ks[i].length by omega))
      have k2 := hc1 2 _ (List.getElem?_eq_getElem (show 2 < ks[i].length by omega))
      have hsl := slice_l (some ad1) ks[i].length c1 3 h3
      have d3 : decide (ks[i].length < 3) = false := decide_eq_false (by omega)
      have Hc := Lib.hid hc1
      have c0' := (q0.cell (p := ad.add i) (by rw [add_block]; exact hb)).trans c0
      have k0' : ((w.alloc (Obj.cells #[Value.slice (some ad) ks.length c, Value.slice S m d] 26)).alloc (Obj.cells #[.int .i64 0, .int .i64 0, .int .i64 0, .slice none 0 0] 28)).cell? ad1 = some (.int .i64 ks[i][0]) := (q0.cell (by exact hb1)).trans (by simpa [Addr.add] using k0)
      have k1' : ((w.alloc (Obj.cells #[Value.slice (some ad) ks.length c, Value.slice S m d] 26)).alloc (Obj.cells #[.int .i64 0, .int .i64 0, .int .i64 0, .slice none 0 0] 28)).cell? ⟨ad1.block, ad1.off + 1, none⟩ = some (.int .i64 ks[i][1]) := (q0.cell (by exact hb1)).trans (by simpa [Addr.add] using k1)
      have k2' : ((w.alloc (Obj.cells #[Value.slice (some ad) ks.length c, Value.slice S m d] 26)).alloc (Obj.cells #[.int .i64 0, .int .i64 0, .int .i64 0, .slice none 0 0] 28)).cell? ⟨ad1.block, ad1.off + 2, none⟩ = some (.int .i64 ks[i][2]) := (q0.cell (by exact hb1)).trans (by simpa [Addr.add] using k2)
      clear hk hc1 hi c0 k0 k1 k2
      go_enter Try.func38, Try.ntmps38
      go_wp2_with fail
      go_region
      all_goals go_wp2_with fail
      · rename_i h
        have qW : Q w (((w.alloc (Obj.cells #[Value.slice (some ad) ks.length c, Value.slice S m d] 26)).alloc (Obj.cells #[.int .i64 ks[i][0], .int .i64 ks[i][1], .int .i64 ks[i][2], .slice (some ad1) (ks[i].length - 3) 0] 28)).drew) := (((Q.refl w).alloc _).alloc _).drew
        refine bodyPost_ret (v := .tuple #[.agg #[.int .i64 ks[i][0], .int .i64 ks[i][1], .int .i64 ks[i][2], .slice (some ad1) (ks[i].length - 3) 0], .bool true]) (by simp [results, Try.f38, go_sem]) rfl (look_some HT.out (by simp) (fun h0 => ?_) qW)
        rw [List.length_drop] at h0
        omega
      · have qW : Q w (((w.alloc (Obj.cells #[Value.slice (some ad) ks.length c, Value.slice S m d] 26)).alloc (Obj.cells #[.int .i64 ks[i][0], .int .i64 ks[i][1], .int .i64 ks[i][2], .slice (some ⟨ad1.block, ad1.off + 3, none⟩) (ks[i].length - 3) (c1 - 3)] 28)).drew) := (((Q.refl w).alloc _).alloc _).drew
        refine bodyPost_ret (v := .tuple #[.agg #[.int .i64 ks[i][0], .int .i64 ks[i][1], .int .i64 ks[i][2], .slice (some ⟨ad1.block, ad1.off + 3, none⟩) (ks[i].length - 3) (c1 - 3)], .bool true]) (by simp [results, Try.f38, go_sem]) rfl (look_some HT.out (by simp) ?_ qW)
        exact drop_ints Hc.out hb1 qW 3
    · have HT := Lib.hid (termAt_short hlt (Nat.lt_of_not_le h3))
      have d3 : decide (ks[i].length < 3) = true := decide_eq_true (by omega)
      have c0' := (q0.cell (p := ad.add i) (by rw [add_block]; exact hb)).trans c0
      clear hk hi c0
      go_enter Try.func38, Try.ntmps38
      go_wp2_with fail
      exact bodyPost_ret (v := .tuple #[.agg #[.int .i64 0, .int .i64 0, .int .i64 0, .slice none 0 0], .bool false]) (by simp [results, Try.f38, go_sem]) rfl (look_none HT.out q0)

/-- a term in a box -/
structure Box4 (W : World) (B : Nat) (a b c d : Value) : Prop where
  c0 : W.cell? ⟨B, 0, none⟩ = some a
  c1 : W.cell? ⟨B, 1, none⟩ = some b
  c2 : W.cell? ⟨B, 2, none⟩ = some c
  c3 : W.cell? ⟨B, 3, none⟩ = some d
  f0 : W.frozen? ⟨B, 0, none⟩ = false
  f1 : W.frozen? ⟨B, 1, none⟩ = false
  f2 : W.frozen? ⟨B, 2, none⟩ = false
  f3 : W.frozen? ⟨B, 3, none⟩ = false
  lt : B < W.heap.size
theorem Box4.q {W W' : World} {B : Nat} {a b c d : Value} (h : Box4 W B a b c d) (q : Q W W') : Box4 W' B a b c d :=
  ⟨(q.cell (p := ⟨B, 0, none⟩) h.lt).trans h.c0, (q.cell (p := ⟨B, 1, none⟩) h.lt).trans h.c1, (q.cell (p := ⟨B, 2, none⟩) h.lt).trans h.c2, (q.cell (p := ⟨B, 3, none⟩) h.lt).trans h.c3,
   (q.frozen (p := ⟨B, 0, none⟩) h.lt).trans h.f0, (q.frozen (p := ⟨B, 1, none⟩) h.lt).trans h.f1, (q.frozen (p := ⟨B, 2, none⟩) h.lt).trans h.f2, (q.frozen (p := ⟨B, 3, none⟩) h.lt).trans h.f3, Nat.lt_of_lt_of_le h.lt q.size⟩
theorem Box4.new (w : World) (a b c d : Value) (t : TypeId) : Box4 (w.alloc (.cells #[a, b, c, d] t)) w.heap.size a b c d := ⟨by simp, by simp, by simp, by simp, by simp, by simp, by simp, by simp, by simp⟩
theorem Box4.far {W : World} {B : Nat} {a b c d : Value} (h : Box4 W B a b c d) {g i : Nat} (hg : g ≠ B) (v : Value) : Box4 (W.setCell ⟨g, i, none⟩ v) B a b c d :=
  ⟨(World.cell?_setCell_far _ _ _ _ hg).trans h.c0, (World.cell?_setCell_far _ _ _ _ hg).trans h.c1, (World.cell?_setCell_far _ _ _ _ hg).trans h.c2, (World.cell?_setCell_far _ _ _ _ hg).trans h.c3,
   by rw [World.frozen?_setCell]; exact h.f0, by rw [World.frozen?_setCell]; exact h.f1, by rw [World.frozen?_setCell]; exact h.f2, by rw [World.frozen?_setCell]; exact h.f3, by have := h.lt; simpa [World.setCell] using this⟩
theorem setCell_ne {W : World} {B i j : Nat} {v u : Value} (h : i ≠ j) (hc : W.cell? ⟨B, j, none⟩ = some u) : (W.setCell ⟨B, i, none⟩ v).cell? ⟨B, j, none⟩ = some u := by
  have := World.cell?_setCell_other (w := W) (a := ⟨B, i, none⟩) (b := ⟨B, j, none⟩) (v := v) (by intro e; injection e with _ e; exact h e)
  exact this.trans hc
theorem setCell_eq {W : World} {B i : Nat} {v u : Value} (hc : W.cell? ⟨B, i, none⟩ = some u) : (W.setCell ⟨B, i, none⟩ v).cell? ⟨B, i, none⟩ = some v := World.cell?_setCell_same' _ _ _ (by rw [hc]; rfl)
theorem Box4.set3 {W : World} {B : Nat} {a b c d : Value} (h : Box4 W B a b c d) (v : Value) : Box4 (W.setCell ⟨B, 3, none⟩ v) B a b c v :=
  ⟨setCell_ne (by omega) h.c0, setCell_ne (by omega) h.c1, setCell_ne (by omega) h.c2, setCell_eq h.c3, by rw [World.frozen?_setCell]; exact h.f0, by rw [World.frozen?_setCell]; exact h.f1, by rw [World.frozen?_setCell]; exact h.f2, by rw [World.frozen?_setCell]; exact h.f3, by have := h.lt; simpa [World.setCell] using this⟩
theorem Box4.all {W : World} {B : Nat} {a b c d : Value} (h : Box4 W B a b c d) (x y z u : Value) : Box4 ((((W.setCell ⟨B, 0, none⟩ x).setCell ⟨B, 1, none⟩ y).setCell ⟨B, 2, none⟩ z).setCell ⟨B, 3, none⟩ u) B x y z u := by
  have l1 : B < (W.setCell ⟨B, 0, none⟩ x).heap.size := by have := h.lt; simpa [World.setCell] using this
  refine ⟨setCell_ne (by omega) (setCell_ne (by omega) (setCell_ne (by omega) (setCell_eq h.c0))), setCell_ne (by omega) (setCell_ne (by omega) (setCell_eq (setCell_ne (by omega) h.c1))),
    setCell_ne (by omega) (setCell_eq (setCell_ne (by omega) (setCell_ne (by omega) h.c2))), setCell_eq (setCell_ne (by omega) (setCell_ne (by omega) (setCell_ne (by omega) h.c3))), ?_, ?_, ?_, ?_, ?_⟩
  · simp only [World.frozen?_setCell]; exact h.f0
  · simp only [World.frozen?_setCell]; exact h.f1
  · simp only [World.frozen?_setCell]; exact h.f2
  · simp only [World.frozen?_setCell]; exact h.f3
  · have := h.lt; simpa [World.setCell] using this

set_option maxRecDepth 100000 in
set_option maxHeartbeats 1000000 in
theorem of_any (A S : Option Addr) (n c m d : Nat) (ks : List (List Int)) (id : Int) (w : World) (hn : n = ks.length) (hk : Keys w w.heap.size A ks) (hs : ∀ k ∈ ks, k.length ≤ 100000) :
    Calls Try.prog 18 #[.agg #[.slice A n c, .slice S m d], .int .i64 id] w (LookPost ks id w) := by
  subst hn
  have q0 := ((Q.refl w).alloc (Obj.cells #[Value.slice A ks.length c, Value.slice S m d] 26)).alloc (Obj.cells #[.int .i64 0, .int .i64 0, .int .i64 0, .slice none 0 0] 28)
  have Hk := Lib.hid ((hk.q (Nat.le_refl _) q0).more q0.size)
  have b4 := Box4.new (w.alloc (Obj.cells #[Value.slice A ks.length c, Value.slice S m d] 26)) (.int .i64 0) (.int .i64 0) (.int .i64 0) (.slice none 0 0) 28
  rw [World.size_alloc] at b4
  have HB := Lib.hid b4
  have HT : Hid (((termAt ks id).getD .none).xs.length ≤ 100000) := by
    unfold Hid termAt
    split
    · rename_i h
      simp only [Bool.and_eq_true, isPl_iff] at h
      have hi : id.toNat < ks.length := by omega
      have := hs _ (List.getElem_mem hi)
      simp [ofKey, hi]
      omega
    · simp [Tm.none]
  clear hk b4 hs
  go_enter Try.func18, Try.ntmps18
  go_wp2_with fail
  generalize (w.alloc (Obj.cells #[Value.slice A ks.length c, Value.slice S m d] 26)).alloc (Obj.cells #[.int .i64 0, .int .i64 0, .int .i64 0, .slice none 0 0] 28) = W0 at *
  refine (look_any _ _ _ _ _ _ ks id _ rfl Hk.out).mono ?_
  rintro e w1 ⟨A1, n1, c1, rfl, hn1, hA1, q1⟩
  obtain ⟨t, ht⟩ : ∃ t, (termAt ks id).getD .none = t := ⟨_, rfl⟩
  obtain ⟨b, hb⟩ : ∃ b, (termAt ks id).isSome = b := ⟨_, rfl⟩
  have HP : Hid (∀ (A : Option Addr) (n c : Nat) (w' : World), n = t.xs.length → Ints w' w'.heap.size A t.xs → Q w w' → LookPost ks id w (.returned (.tuple #[.agg #[.int .i64 t.k, .int .i64 t.s, .int .i64 t.p, .slice A n c], .bool b])) w') := fun A n c w' h1 h3 h4 => ⟨A, n, c, by rw [ht, hb], by rw [ht]; exact h1, by rw [ht]; exact h3, h4⟩
  rw [ht] at hn1 hA1 HT ⊢
  rw [hb]
  clear ht hb
  have HA := Lib.hid hA1
  have Hn := Lib.hid hn1
  have HB1 := Lib.hid (HB.out.q q1)
  have q12 := (Q.refl w1).alloc (Obj.cells #[.int .i64 t.k, .int .i64 t.s, .int .i64 t.p, .slice A1 n1 c1] 28)
  have HB2 := Lib.hid (HB1.out.q q12)
  have HX := Lib.hid (Box4.new w1 (.int .i64 t.k) (.int .i64 t.s) (.int .i64 t.p) (.slice A1 n1 c1) 28)
  clear hA1 hn1
  go_wp2_with fail
  generalize w1.alloc (Obj.cells #[.int .i64 t.k, .int .i64 t.s, .int .i64 t.p, .slice A1 n1 c1] 28) = W2 at *
  refine (clone_any _ _ _ t.xs _ Hn.out ((HA.out.q (Nat.le_refl _) q12).more q12.size) HT.out).mono ?_
  rintro e w3 ⟨A3, c3, rfl, hA3, q3⟩
  have HA3 := Lib.hid hA3
  have HX3 := Lib.hid (HX.out.q q3)
  have HB3 := Lib.hid (HB2.out.q q3)
  clear hA3
  have x0 := HX3.out.c0
  have x1 := HX3.out.c1
  have x2 := HX3.out.c2
  have x3 := HX3.out.c3
  have y3 := HX3.out.f3
  have r0 := HB3.out.c0
  have r1 := HB3.out.c1
  have r2 := HB3.out.c2
  have r3 := HB3.out.c3
  have f0 := HB3.out.f0
  have f1 := HB3.out.f1
  have f2 := HB3.out.f2
  have f3 := HB3.out.f3
  have hne : w.heap.size + 1 < w1.heap.size := HB1.out.lt
  go_wp2_with fail
  have hb4 := ((HB3.out.far (g := w1.heap.size) (i := 3) (by omega) (.slice A3 t.xs.length c3)).all (.int .i64 t.k) (.int .i64 t.s) (.int .i64 t.p) (.slice A3 t.xs.length c3))
  have g0 := hb4.c0
  have g1 := hb4.c1
  have g2 := hb4.c2
  have g3 := hb4.c3
  have qa := ((q0.trans q1).trans q12).trans q3
  have qW := ((((qa.setCell (p := ⟨w1.heap.size, 3, none⟩) (by show _ ≤ w1.heap.size; omega) (.slice A3 t.xs.length c3)).setCell (p := ⟨w.heap.size + 1, 0, none⟩) (by show _ ≤ w.heap.size + 1; omega) (.int .i64 t.k)).setCell (p := ⟨w.heap.size + 1, 1, none⟩) (by show _ ≤ w.heap.size + 1; omega) (.int .i64 t.s)).setCell (p := ⟨w.heap.size + 1, 2, none⟩) (by show _ ≤ w.heap.size + 1; omega) (.int .i64 t.p)).setCell (p := ⟨w.heap.size + 1, 3, none⟩) (by show _ ≤ w.heap.size + 1; omega) (.slice A3 t.xs.length c3)
  refine bodyPost_ret (v := .tuple #[.agg #[.int .i64 t.k, .int .i64 t.s, .int .i64 t.p, .slice A3 t.xs.length c3], .bool b]) (by simp [results, Try.f18, go_sem, g0, g1, g2, g3]) rfl (HP.out _ _ _ _ rfl ?_ qW)
  have h2 := q12.size
  have hl2 : w1.heap.size < W2.heap.size := HX.out.lt
  intro h0
  obtain ⟨g, e, hg, ho⟩ := HA3.out h0
  refine ⟨_, e, by simp only [World.setCell]; have := ho.1; simpa [World.setCell] using this, fun i x hx => ?_⟩
  have hh := (ho.2 i x hx).1
  rw [add_zero_head]
  rw [World.cell?_setCell_far _ _ _ _ (by show w.heap.size + 1 ≠ g; omega), World.cell?_setCell_far _ _ _ _ (by show w.heap.size + 1 ≠ g; omega), World.cell?_setCell_far _ _ _ _ (by show w.heap.size + 1 ≠ g; omega), World.cell?_setCell_far _ _ _ _ (by show w.heap.size + 1 ≠ g; omega), World.cell?_setCell_far _ _ _ _ (by show w1.heap.size ≠ g; omega)]
  exact hh
end Go.Proofs.Ytgnbempkobgeiaa.Tm
