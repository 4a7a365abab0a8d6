/-
  What the proofs lean on, part 7 of 11.
-/
import Derived.Test.YtjehccemilefgaaPd
import Derived.Test.YtjehccemilefgaaPe
import Derived.Test.YtjehccemilefgaaPf
namespace Go.Proofs.Ytjehccemilefgaa.St
open Go.RowKit Kit Rw
open Go.Proofs.Ytjehccemilefgaa.Sg (Sig Row)
open Go.Proofs.Ytjehccemilefgaa.Hs (Ints Keys BoxT)
open Go.Proofs.Ytjehccemilefgaa.Tm (Tm Store termAt LookB refOfB_any Box4 isPl isPl_iff)
open Go.Proofs.Ytjehccemilefgaa.Ld (tmP)
theorem own_open {w : World} {base : Nat} {v : Value} {l : List PI} (h : w.ownsRow base 46 2 v l.length (cellsQ l)) :
    ∃ A c, v = .slice A l.length c ∧ Rds w w.heap.size A (cellsQ l) ∧ ∀ ad, A = some ad → base ≤ ad.block := by
  by_cases h0 : 0 < l.length
  · obtain ⟨g, c, rfl⟩ := own_slice10 h h0
    exact ⟨_, c, rfl, (OwnC.of_row h).rds, fun ad ha => by injection ha with ha; subst ha; exact (h.lt g rfl).1⟩
  · have hl : l = [] := List.length_eq_zero_iff.1 (by omega)
    subst hl
    have h2 := h
    obtain ⟨_, ⟨rfl, _⟩ | ⟨g, c, cur, rfl, _⟩⟩ := h
    · exact ⟨none, 0, rfl, Rds.nil _ _ _, fun _ h => by cases h⟩
    · exact ⟨_, c, rfl, Rds.nil _ _ _, fun ad ha => by injection ha with ha; subst ha; exact (h2.lt g rfl).1⟩
theorem termAt_no {ks : List (List Int)} {z : Int} (h : isPl z ks.length ≠ true) : termAt ks z = none := by
  unfold termAt
  rw [if_neg]
  simp only [Bool.and_eq_true]
  exact fun hh => h hh.1
set_option maxRecDepth 100000 in
set_option maxHeartbeats 8000000 in
theorem refStep10_any (R A S : Option Addr) (nl cl n c m d : Nat) (L : List Sig) (ks : List (List Int)) (x y : Int) (w : World) (hnl : nl = L.length) (hr : Row w w.heap.size R L) (hn : n = ks.length) (hk : Keys w w.heap.size A ks) (hS : Store L ks) (hl8 : ∀ s ∈ L, s.2.size ≤ 8) :
    Calls Try.prog 13 #[.slice R nl cl, .agg #[.slice A n c, .slice S m d], .int .i64 x, .int .i64 y] w (WayPost (stepF L ks x y) w) := by
  subst hnl hn
  have q0 := ((Q.refl w).alloc (Obj.cells #[Value.slice A ks.length c, Value.slice S m d] 26)).alloc (Obj.cells #[.int .i64 0, .slice none 0 0] 33)
  have h8 := Ex.own_new8 (w.alloc (Obj.cells #[Value.slice A ks.length c, Value.slice S m d] 26)) [.int .i64 0, .slice none 0 0] 33
  rw [show (w.alloc (Obj.cells #[Value.slice A ks.length c, Value.slice S m d] 26)).heap.size = w.heap.size + 1 by simp] at h8
  have HT := Lib.hid ((BoxT.new w (Value.slice A ks.length c) (Value.slice S m d) 26).q ((Q.refl _).alloc (Obj.cells #[.int .i64 0, .slice none 0 0] 33)))
  have CO : Hid (∀ U z, Q w U → Calls Try.prog 27 #[.agg #[.slice A ks.length c, .slice S m d], .int .i64 z] U (LookB w.heap.size ks z U)) := fun U z p => refOfB_any w.heap.size A S ks.length c m d ks z U rfl (hk.keep p) p.size
  have HR8 := Lib.hid h8
  have HQ0 := Lib.hid q0
  have HS := Lib.hid hS
  have H8 := Lib.hid hl8
  have HRow := Lib.hid hr
  clear h8 hk q0 hS hl8 hr
  obtain ⟨s, hs⟩ : ∃ s, (termAt ks x).getD .none = s := ⟨_, rfl⟩
  obtain ⟨t, ht⟩ : ∃ t, (termAt ks y).getD .none = t := ⟨_, rfl⟩
  obtain ⟨b1, hb1⟩ : ∃ b, (termAt ks x).isSome = b := ⟨_, rfl⟩
  obtain ⟨b2, hb2⟩ : ∃ b, (termAt ks y).isSome = b := ⟨_, rfl⟩
  have Hs := Lib.hid hs
  have Ht := Lib.hid ht
  have Hb1 := Lib.hid hb1
  have Hb2 := Lib.hid hb2
  clear hs ht hb1 hb2
  go_enter Try.func13, Try.ntmps13
  go_wp2_with fail
  generalize (w.alloc (Obj.cells #[Value.slice A ks.length c, Value.slice S m d] 26)).alloc (Obj.cells #[.int .i64 0, .slice none 0 0] 33) = W0 at *
  refine (CO.out W0 x HQ0.out).mono ?_
  rintro e w1 ⟨A1, n1, c1, rfl, hn1, hi1, q1⟩
  rw [Hs.out] at hn1 hi1 ⊢
  rw [Hb1.out]
  subst hn1
  have HI1 := Lib.hid hi1
  have qa := (Q.refl w1).alloc (Obj.cells #[.int .i64 s.k, .int .i64 s.s, .int .i64 s.p, .slice A1 s.xs.length c1] 60)
  have HB9 := Lib.hid (Box4.new w1 (.int .i64 s.k) (.int .i64 s.s) (.int .i64 s.p) (.slice A1 s.xs.length c1) 60)
  have HT1 := (HT.out.q q1).q qa
  have b0 := HT1.c0
  have b01 := HT1.c1
  have HR1 := Lib.hid ((HR8.out.q q1).q qa)
  have HQ1 := Lib.hid ((HQ0.out.trans q1).trans qa)
  have HA1 := Lib.hid (hi1.keep (qa.mono (HQ0.out.trans q1).size))
  clear hi1 HT1 HI1 HR8 HT
  go_wp2_with fail
  clear b0 b01 q1 qa
  generalize w1.alloc (Obj.cells #[.int .i64 s.k, .int .i64 s.s, .int .i64 s.p, .slice A1 s.xs.length c1] 60) = W1 at *
  refine (CO.out W1 y HQ1.out).mono ?_
  rintro e w2 ⟨A2, n2, c2, rfl, hn2, hi2, q2⟩
  rw [Ht.out] at hn2 hi2 ⊢
  rw [Hb2.out]
  subst hn2
  have qb := (Q.refl w2).alloc (Obj.cells #[.int .i64 t.k, .int .i64 t.s, .int .i64 t.p, .slice A2 t.xs.length c2] 60)
  have hb9 := (HB9.out.q q2).q qb
  have hb11 := Box4.new w2 (.int .i64 t.k) (.int .i64 t.s) (.int .i64 t.p) (.slice A2 t.xs.length c2) 60
  have HR8 := Lib.hid ((HR1.out.q q2).q qb)
  have HQw := Lib.hid ((HQ1.out.trans q2).trans qb)
  have HE1 := Lib.hid ((HA1.out.keep ((q2.trans qb).mono HQ1.out.size)).more HQw.out.size)
  have HE2 := Lib.hid ((hi2.keep (qb.mono (HQ1.out.trans q2).size)).more HQw.out.size)
  have HROW := Lib.hid ((HRow.out.keep HQw.out).more HQw.out.size)
  have p0 := hb9.c0
  have p1 := hb9.c1
  have p2 := hb9.c2
  have p3 := hb9.c3
  have u0 := hb11.c0
  have u1 := hb11.c1
  have u2 := hb11.c2
  have u3 := hb11.c3
  obtain ⟨r00, r01⟩ := HR8.out.2 0 _ rfl
  obtain ⟨r10, r11⟩ := HR8.out.2 1 _ rfl
  have lt9 := hb9.lt
  have lt11 := hb11.lt
  clear hb9 hb11 qb q2 hi2 HB9 HA1 HR1 CO HQ1 HRow
  by_cases hpl : isPl x ks.length = true ∧ isPl y ks.length = true
  · obtain ⟨px, py⟩ := hpl
    obtain ⟨x0, x1⟩ := (isPl_iff _ _).1 px
    obtain ⟨i, rfl⟩ := Int.eq_ofNat_of_zero_le x0
    obtain ⟨y0, y1⟩ := (isPl_iff _ _).1 py
    obtain ⟨j, rfl⟩ := Int.eq_ofNat_of_zero_le y0
    have hi : i < ks.length := by omega
    have hj : j < ks.length := by omega
    obtain ⟨hts, hs2⟩ := place_tok HS.out hi
    obtain ⟨htt, ht2⟩ := place_tok HS.out hj
    have es : tmP ks i = s := by have := Hs.out; rw [hs2] at this; exact this
    have et : tmP ks j = t := by have := Ht.out; rw [ht2] at this; exact this
    have eb1 : b1 = true := by have := Hb1.out; rw [hs2] at this; exact this.symm
    have eb2 : b2 = true := by have := Hb2.out; rw [ht2] at this; exact this.symm
    subst eb1 eb2
    have HF := Lib.hid (stepF_at (L := L) HS.out hi hj)
    rw [es] at hts HF
    rw [et] at htt HF
    have CP : Hid True := trivial
    have hx1 : Hid True := trivial
    have hx2 : Hid True := trivial
    generalize (i : Int) = x at *
    generalize (j : Int) = y at *
    clear es et hs2 ht2 px py x0 x1 y0 y1 Hs Ht Hb1 Hb2 hi hj
    by_cases hxy : x = y
    · have d0 : (x == y) = true := beq_iff_eq.2 hxy
      have HFx : Hid (stepF L ks x y = (0, [])) := by unfold Hid; rw [HF.out]; unfold stepT; rw [if_pos (.inl hxy)]
      clear hxy
      clear HF hx1 hx2 hts htt HE1 HE2 CP HROW
      go_wp2_with fail
      obtain ⟨⟨y0, y1⟩, hrd, hqw⟩ := way_close (w := w) (A := none) (l := []) (.int .i64 0) (.slice none 0 0) HR8.out (by omega) HQw.out (Rds.nil _ _ _) (fun h => absurd h (by simp))
      exact bodyPost_ret (v := .agg #[.int .i64 0, .slice none 0 0]) (by simp [results, Try.f13, go_sem, y0, y1]) rfl ⟨none, 0, by rw [HFx.out]; rfl, by rw [HFx.out]; exact hrd, hqw, fun _ h => by cases h⟩
    · have HNhxy : Hid True := trivial
      by_cases k0 : s.k = 0
      · have d0 : (x == y) = false := beq_eq_false_iff_ne.2 hxy
        have d1 : (s.k == 0) = true := beq_iff_eq.2 k0
        have HFx : Hid (stepF L ks x y = (0, [])) := by unfold Hid; rw [HF.out]; unfold stepT; rw [if_pos (.inr (.inl k0))]
        clear hxy k0
        clear HF hx1 hx2 hts htt HE1 HE2 CP HROW
        go_wp2_with fail
        obtain ⟨⟨y0, y1⟩, hrd, hqw⟩ := way_close (w := w) (A := none) (l := []) (.int .i64 0) (.slice none 0 0) HR8.out (by omega) HQw.out (Rds.nil _ _ _) (fun h => absurd h (by simp))
        exact bodyPost_ret (v := .agg #[.int .i64 0, .slice none 0 0]) (by simp [results, Try.f13, go_sem, y0, y1]) rfl ⟨none, 0, by rw [HFx.out]; rfl, by rw [HFx.out]; exact hrd, hqw, fun _ h => by cases h⟩
      · have HNk0 : Hid True := trivial
        by_cases k1 : t.k = 1
        · have d0 : (x == y) = false := beq_eq_false_iff_ne.2 hxy
          have d1 : (s.k == 0) = false := beq_eq_false_iff_ne.2 k0
          have d2 : (t.k == 1) = true := beq_iff_eq.2 k1
          have HFx : Hid (stepF L ks x y = (0, [])) := by unfold Hid; rw [HF.out]; unfold stepT; rw [if_pos (.inr (.inr k1))]
          clear hxy k0 k1
          clear HF hx1 hx2 hts htt HE1 HE2 CP HROW
          go_wp2_with fail
          obtain ⟨⟨y0, y1⟩, hrd, hqw⟩ := way_close (w := w) (A := none) (l := []) (.int .i64 0) (.slice none 0 0) HR8.out (by omega) HQw.out (Rds.nil _ _ _) (fun h => absurd h (by simp))
          exact bodyPost_ret (v := .agg #[.int .i64 0, .slice none 0 0]) (by simp [results, Try.f13, go_sem, y0, y1]) rfl ⟨none, 0, by rw [HFx.out]; rfl, by rw [HFx.out]; exact hrd, hqw, fun _ h => by cases h⟩
        · have HNk1 : Hid True := trivial
          by_cases k4 : s.k = 4
          · have d0 : (x == y) = false := beq_eq_false_iff_ne.2 hxy
            have d1 : (s.k == 0) = false := beq_eq_false_iff_ne.2 k0
            have d2 : (t.k == 1) = false := beq_eq_false_iff_ne.2 k1
            have d3 : (s.k == 4) = true := beq_iff_eq.2 k4
            obtain ⟨a, b, hxs⟩ : ∃ a b, s.xs = [a, b] := by
              cases hts with
              | leaf _ h => omega
              | con j h h3 => omega
              | two a b _ hx => exact ⟨a, b, hx⟩
              | proj j m h e h6 => omega
            have HFx : Hid (stepF L ks x y = (1, [(a, y), (b, y)])) := by unfold Hid; rw [HF.out]; unfold stepT; rw [if_neg (by rintro (h | h | h) <;> contradiction), if_pos k4, hxs]; rfl
            have hl2 : s.xs.length = 2 := by rw [hxs]; rfl
            obtain ⟨ad, rfl, hadb, e0⟩ := HE1.out.at_ (k := 0) (by omega)
            obtain ⟨ad', hae, _, e1⟩ := HE1.out.at_ (k := 1) (by omega)
            have v0 : s.xs[0]'(by omega) = a := by simp [hxs]
            have v1 : s.xs[1]'(by omega) = b := by simp [hxs]
            rw [v0] at e0
            rw [v1] at e1
            injection hae with hae
            subst hae
            have f0 : (w2.alloc (Obj.cells #[.int .i64 t.k, .int .i64 t.s, .int .i64 t.p, .slice A2 t.xs.length c2] 60)).cell? ad = some (.int .i64 a) := by simpa [Addr.add] using e0
            have f1 : (w2.alloc (Obj.cells #[.int .i64 t.k, .int .i64 t.s, .int .i64 t.p, .slice A2 t.xs.length c2] 60)).cell? ⟨ad.block, ad.off + 1, none⟩ = some (.int .i64 b) := by simpa [Addr.add] using e1
            have HS0 : Hid (∀ U, Q (w2.alloc (Obj.cells #[.int .i64 t.k, .int .i64 t.s, .int .i64 t.p, .slice A2 t.xs.length c2] 60)) U → (fun w' => w'.cell? ⟨w1.heap.size, 3, none⟩ = some (.slice (some ad) 2 c1) ∧ w'.cell? ad = some (.int .i64 a) ∧ w'.cell? ⟨ad.block, ad.off + 1, none⟩ = some (.int .i64 b)) U) := fun U q => ⟨(q.cell (p := ⟨w1.heap.size, 3, none⟩) lt9).trans (p3.trans (by rw [hl2])), (q.cell (p := ad) hadb).trans f0, (q.cell (p := ⟨ad.block, ad.off + 1, none⟩) hadb).trans f1⟩
            clear HF hts htt HE1 HE2 HROW e0 e1 f0 f1 v0 v1 hxs hl2 r00 r01 r10 r11 k0 k1 hxy k4
            go_wp2_with fail
            generalize (w2.alloc (Obj.cells #[.int .i64 t.k, .int .i64 t.s, .int .i64 t.p, .slice A2 t.xs.length c2] 60)) = W at *
            have HOa := Lib.hid (Ex.own_new8 W.drew [.int .i64 a, .int .i64 y, .int .i64 b, .int .i64 y] 46)
            have Hqa := Lib.hid ((Q.refl W).drew.alloc (Obj.cells #[.int .i64 a, .int .i64 y, .int .i64 b, .int .i64 y] 46))
            refine begin_t (S := fun w' => w'.cell? ⟨w1.heap.size, 3, none⟩ = some (.slice (some ad) 2 c1) ∧ w'.cell? ad = some (.int .i64 a) ∧ w'.cell? ⟨ad.block, ad.off + 1, none⟩ = some (.int .i64 b)) (z := 14) (by kernel_rfl) ?_ (fun hHeld => ?_)
            · exact HS0.out _ (Q.refl W).drew
            refine take_t (i := 0) (d := some 52) (v := ?_) rfl (by kernel_rfl) (by kernel_rfl) (by kernel_rfl) (by kernel_rfl) (fun _ _ _ h => h) rfl (by rfl) ?_ (by assumption) ?_
            rotate_left
            · (intro w hSw; (try dsimp only at hSw); go_simp; (try with_reducible rfl))
            try simp only [Act.put, List.setIfInBounds_toArray, List.set_cons_zero, List.set_cons_succ]
            refine take_t (i := 1) (d := some 53) (v := ?_) rfl (by kernel_rfl) (by kernel_rfl) (by kernel_rfl) (by kernel_rfl) (fun _ _ _ h => h) rfl (by rfl) ?_ (by assumption) ?_
            rotate_left
            · (intro w hSw; (try dsimp only at hSw); go_simp; (try with_reducible rfl))
            try simp only [Act.put, List.setIfInBounds_toArray, List.set_cons_zero, List.set_cons_succ]
            refine take_t (i := 2) (d := some 54) (v := ?_) rfl (by kernel_rfl) (by kernel_rfl) (by kernel_rfl) (by kernel_rfl) (fun _ _ _ h => h) rfl (by rfl) ?_ (by assumption) ?_
            rotate_left
            · (intro w hSw; (try dsimp only at hSw); go_simp; (try with_reducible rfl))
            try simp only [Act.put, List.setIfInBounds_toArray, List.set_cons_zero, List.set_cons_succ]
            refine take_t (i := 3) (d := some 55) (v := ?_) rfl (by kernel_rfl) (by kernel_rfl) (by kernel_rfl) (by kernel_rfl) (fun _ _ _ h => h) rfl (by rfl) ?_ (by assumption) ?_
            rotate_left
            · (intro w hSw; (try dsimp only at hSw); go_simp; (try with_reducible rfl))
            try simp only [Act.put, List.setIfInBounds_toArray, List.set_cons_zero, List.set_cons_succ]
            refine take_t (i := 4) (d := some 56) (v := ?_) rfl (by kernel_rfl) (by kernel_rfl) (by kernel_rfl) (by kernel_rfl) (fun _ _ _ h => h) rfl (by rfl) ?_ (by assumption) ?_
            rotate_left
            · (intro w hSw; (try dsimp only at hSw); go_simp; (try with_reducible rfl))
            try simp only [Act.put, List.setIfInBounds_toArray, List.set_cons_zero, List.set_cons_succ]
            refine take_t (i := 5) (d := some 57) (v := ?_) rfl (by kernel_rfl) (by kernel_rfl) (by kernel_rfl) (by kernel_rfl) (fun _ _ _ h => h) rfl (by rfl) ?_ (by assumption) ?_
            rotate_left
            · (intro w hSw; (try dsimp only at hSw); go_simp; (try with_reducible rfl))
            try simp only [Act.put, List.setIfInBounds_toArray, List.set_cons_zero, List.set_cons_succ]
            refine take_t (i := 6) (d := some 58) (v := ?_) rfl (by kernel_rfl) (by kernel_rfl) (by kernel_rfl) (by kernel_rfl) (fun _ _ _ h => h) rfl (by rfl) ?_ (by assumption) ?_
            rotate_left
            · (intro w hSw; (try dsimp only at hSw); go_simp; (try with_reducible rfl))
            try simp only [Act.put, List.setIfInBounds_toArray, List.set_cons_zero, List.set_cons_succ]
            refine take_t (i := 7) (d := some 59) (v := ?_) rfl (by kernel_rfl) (by kernel_rfl) (by kernel_rfl) (by kernel_rfl) (fun _ _ _ h => h) rfl (by rfl) ?_ (by assumption) ?_
            rotate_left
            · (intro w hSw; (try dsimp only at hSw); go_simp; (try with_reducible rfl))
            try simp only [Act.put, List.setIfInBounds_toArray, List.set_cons_zero, List.set_cons_succ]
            refine take_t (i := 8) (d := some 60) (v := ?_) rfl (by kernel_rfl) (by kernel_rfl) (by kernel_rfl) (by kernel_rfl) (fun _ _ _ h => h) rfl (by rfl) ?_ (by assumption) ?_
            rotate_left
            · (intro w hSw; (try dsimp only at hSw); go_simp; (try with_reducible rfl))
            try simp only [Act.put, List.setIfInBounds_toArray, List.set_cons_zero, List.set_cons_succ]
            refine take_t (i := 9) (d := some 61) (v := ?_) rfl (by kernel_rfl) (by kernel_rfl) (by kernel_rfl) (by kernel_rfl) (fun _ _ _ h => h) rfl (by rfl) ?_ (by assumption) ?_
            rotate_left
            · (intro w hSw; (try dsimp only at hSw); go_simp; (try with_reducible rfl))
            try simp only [Act.put, List.setIfInBounds_toArray, List.set_cons_zero, List.set_cons_succ]
            refine take_t (i := 10) (d := some 62) (v := ?_) rfl (by kernel_rfl) (by kernel_rfl) (by kernel_rfl) (by kernel_rfl) (fun _ _ _ h => h) rfl (by rfl) ?_ (by assumption) ?_
            rotate_left
            · (intro w hSw; (try dsimp only at hSw); go_simp; (try with_reducible rfl))
            try simp only [Act.put, List.setIfInBounds_toArray, List.set_cons_zero, List.set_cons_succ]
            refine take_t (i := 11) (d := some 63) (v := ?_) rfl (by kernel_rfl) (by kernel_rfl) (by kernel_rfl) (by kernel_rfl) (fun _ _ _ h => h) rfl (by rfl) ?_ (by assumption) ?_
            rotate_left
            · (intro w hSw; (try dsimp only at hSw); go_simp; (try with_reducible rfl))
            try simp only [Act.put, List.setIfInBounds_toArray, List.set_cons_zero, List.set_cons_succ]
            refine call_t (i := 12) rfl (by kernel_rfl) (by rfl) (fun K hK => ?_)
            go_simp
            have hHeld : ((fun w' => w'.cell? ⟨w1.heap.size, 3, none⟩ = some (.slice (some ad) 2 c1) ∧ w'.cell? ad = some (.int .i64 a) ∧ w'.cell? ⟨ad.block, ad.off + 1, none⟩ = some (.int .i64 b)) : World → Prop) _ := HS0.out _ Hqa.out
            refine hK.out _ _ (fun _ => hHeld) ?_
            clear hK K
            try simp only [Act.put, List.setIfInBounds_toArray, List.set_cons_zero, List.set_cons_succ]
            refine call_t (i := 13) rfl (by kernel_rfl) (by rfl) (fun K hK => ?_)
            go_simp
            go_at_call 28
            refine (parts10_any _ _ _ _).mono ?_
            rintro e w5 ⟨rfl, q5⟩
            have Q5 := Lib.hid (Hqa.out.trans q5)
            have hrz : Hid (Rds w5 w5.heap.size (some ⟨W.heap.size, 0, none⟩) (cellsQ [(a, y), (b, y)])) := Lib.hid (HOa.out.rds.q q5)
            obtain ⟨z00, z01⟩ := (HR8.out.q Q5.out).2 0 _ rfl
            obtain ⟨z10, z11⟩ := (HR8.out.q Q5.out).2 1 _ rfl
            have hHeld : ((fun w' => w'.cell? ⟨w1.heap.size, 3, none⟩ = some (.slice (some ad) 2 c1) ∧ w'.cell? ad = some (.int .i64 a) ∧ w'.cell? ⟨ad.block, ad.off + 1, none⟩ = some (.int .i64 b)) : World → Prop) _ := HS0.out _ Q5.out
            refine hK.out _ _ (fun _ => hHeld) ?_
            clear hK K
            try simp only [Act.put, List.setIfInBounds_toArray, List.set_cons_zero, List.set_cons_succ]
            refine call_t (i := 14) rfl (by kernel_rfl) (by rfl) (fun K hK => ?_)
            go_simp
            refine hK.out _ _ (fun hz => by cases hz) ?_
            clear hK K
            try simp only [Act.put, List.setIfInBounds_toArray, List.set_cons_zero, List.set_cons_succ]
            refine done_t (by kernel_rfl) ?_ _
            go_wp2_with fail
            obtain ⟨⟨y0, y1⟩, hrd, hqw⟩ := way_close (w := w) (l := [(a, y), (b, y)]) (.int .i64 1) (.slice (some ⟨W.heap.size, 0, none⟩) 2 2) (HR8.out.q Q5.out) (by omega) (HQw.out.trans Q5.out) hrz.out (fun _ ad ha => by injection ha with ha; subst ha; exact Nat.ne_of_gt HR8.out.1)
            exact bodyPost_ret (v := .agg #[.int .i64 1, .slice (some ⟨W.heap.size, 0, none⟩) 2 2]) (by simp [results, Try.f13, go_sem, y0, y1]) rfl ⟨_, _, by rw [HFx.out]; rfl, by rw [HFx.out]; exact hrd, hqw, fun ad ha => by injection ha with ha; subst ha; exact HQw.out.size⟩
          · have HNk4 : Hid True := trivial
            by_cases k5 : t.k = 5
            · have d0 : (x == y) = false := beq_eq_false_iff_ne.2 hxy
              have d1 : (s.k == 0) = false := beq_eq_false_iff_ne.2 k0
              have d2 : (t.k == 1) = false := beq_eq_false_iff_ne.2 k1
              have d3 : (s.k == 4) = false := beq_eq_false_iff_ne.2 k4
              have d4 : (t.k == 5) = true := beq_iff_eq.2 k5
              obtain ⟨a, b, hxs⟩ : ∃ a b, t.xs = [a, b] := by
                cases htt with
                | leaf _ h => omega
                | con j h h3 => omega
                | two a b _ hx => exact ⟨a, b, hx⟩
                | proj j m h e h6 => omega
              have HFx : Hid (stepF L ks x y = (1, [(x, a), (x, b)])) := by unfold Hid; rw [HF.out]; unfold stepT; rw [if_neg (by rintro (h | h | h) <;> contradiction), if_neg k4, if_pos k5, hxs]; rfl
              have hl2 : t.xs.length = 2 := by rw [hxs]; rfl
              obtain ⟨ad, rfl, hadb, e0⟩ := HE2.out.at_ (k := 0) (by omega)
              obtain ⟨ad', hae, _, e1⟩ := HE2.out.at_ (k := 1) (by omega)
              have v0 : t.xs[0]'(by omega) = a := by simp [hxs]
              have v1 : t.xs[1]'(by omega) = b := by simp [hxs]
              rw [v0] at e0
              rw [v1] at e1
              injection hae with hae
              subst hae
              have f0 : (w2.alloc (Obj.cells #[.int .i64 t.k, .int .i64 t.s, .int .i64 t.p, .slice (some ad) t.xs.length c2] 60)).cell? ad = some (.int .i64 a) := by simpa [Addr.add] using e0
              have f1 : (w2.alloc (Obj.cells #[.int .i64 t.k, .int .i64 t.s, .int .i64 t.p, .slice (some ad) t.xs.length c2] 60)).cell? ⟨ad.block, ad.off + 1, none⟩ = some (.int .i64 b) := by simpa [Addr.add] using e1
              have HS0 : Hid (∀ U, Q (w2.alloc (Obj.cells #[.int .i64 t.k, .int .i64 t.s, .int .i64 t.p, .slice (some ad) t.xs.length c2] 60)) U → (fun w' => w'.cell? ⟨w2.heap.size, 3, none⟩ = some (.slice (some ad) 2 c2) ∧ w'.cell? ad = some (.int .i64 a) ∧ w'.cell? ⟨ad.block, ad.off + 1, none⟩ = some (.int .i64 b)) U) := fun U q => ⟨(q.cell (p := ⟨w2.heap.size, 3, none⟩) lt11).trans (u3.trans (by rw [hl2])), (q.cell (p := ad) hadb).trans f0, (q.cell (p := ⟨ad.block, ad.off + 1, none⟩) hadb).trans f1⟩
              clear HF hts htt HE1 HE2 HROW e0 e1 f0 f1 v0 v1 hxs hl2 r00 r01 r10 r11 k0 k1 hxy k4 k5
              go_wp2_with fail
              generalize (w2.alloc (Obj.cells #[.int .i64 t.k, .int .i64 t.s, .int .i64 t.p, .slice (some ad) t.xs.length c2] 60)) = W at *
              have HOa := Lib.hid (Ex.own_new8 W.drew [.int .i64 x, .int .i64 a, .int .i64 x, .int .i64 b] 46)
              have Hqa := Lib.hid ((Q.refl W).drew.alloc (Obj.cells #[.int .i64 x, .int .i64 a, .int .i64 x, .int .i64 b] 46))
              refine begin_t (S := fun w' => w'.cell? ⟨w2.heap.size, 3, none⟩ = some (.slice (some ad) 2 c2) ∧ w'.cell? ad = some (.int .i64 a) ∧ w'.cell? ⟨ad.block, ad.off + 1, none⟩ = some (.int .i64 b)) (z := 14) (by kernel_rfl) ?_ (fun hHeld => ?_)
              · exact HS0.out _ (Q.refl W).drew
              refine take_t (i := 0) (d := some 69) (v := ?_) rfl (by kernel_rfl) (by kernel_rfl) (by kernel_rfl) (by kernel_rfl) (fun _ _ _ h => h) rfl (by rfl) ?_ (by assumption) ?_
              rotate_left
              · (intro w hSw; (try dsimp only at hSw); go_simp; (try with_reducible rfl))
              try simp only [Act.put, List.setIfInBounds_toArray, List.set_cons_zero, List.set_cons_succ]
              refine take_t (i := 1) (d := some 70) (v := ?_) rfl (by kernel_rfl) (by kernel_rfl) (by kernel_rfl) (by kernel_rfl) (fun _ _ _ h => h) rfl (by rfl) ?_ (by assumption) ?_
              rotate_left
              · (intro w hSw; (try dsimp only at hSw); go_simp; (try with_reducible rfl))
              try simp only [Act.put, List.setIfInBounds_toArray, List.set_cons_zero, List.set_cons_succ]
              refine take_t (i := 2) (d := some 71) (v := ?_) rfl (by kernel_rfl) (by kernel_rfl) (by kernel_rfl) (by kernel_rfl) (fun _ _ _ h => h) rfl (by rfl) ?_ (by assumption) ?_
              rotate_left
              · (intro w hSw; (try dsimp only at hSw); go_simp; (try with_reducible rfl))
              try simp only [Act.put, List.setIfInBounds_toArray, List.set_cons_zero, List.set_cons_succ]
              refine take_t (i := 3) (d := some 72) (v := ?_) rfl (by kernel_rfl) (by kernel_rfl) (by kernel_rfl) (by kernel_rfl) (fun _ _ _ h => h) rfl (by rfl) ?_ (by assumption) ?_
              rotate_left
              · (intro w hSw; (try dsimp only at hSw); go_simp; (try with_reducible rfl))
              try simp only [Act.put, List.setIfInBounds_toArray, List.set_cons_zero, List.set_cons_succ]
              refine take_t (i := 4) (d := some 73) (v := ?_) rfl (by kernel_rfl) (by kernel_rfl) (by kernel_rfl) (by kernel_rfl) (fun _ _ _ h => h) rfl (by rfl) ?_ (by assumption) ?_
              rotate_left
              · (intro w hSw; (try dsimp only at hSw); go_simp; (try with_reducible rfl))
              try simp only [Act.put, List.setIfInBounds_toArray, List.set_cons_zero, List.set_cons_succ]
              refine take_t (i := 5) (d := some 74) (v := ?_) rfl (by kernel_rfl) (by kernel_rfl) (by kernel_rfl) (by kernel_rfl) (fun _ _ _ h => h) rfl (by rfl) ?_ (by assumption) ?_
              rotate_left
              · (intro w hSw; (try dsimp only at hSw); go_simp; (try with_reducible rfl))
              try simp only [Act.put, List.setIfInBounds_toArray, List.set_cons_zero, List.set_cons_succ]
              refine take_t (i := 6) (d := some 75) (v := ?_) rfl (by kernel_rfl) (by kernel_rfl) (by kernel_rfl) (by kernel_rfl) (fun _ _ _ h => h) rfl (by rfl) ?_ (by assumption) ?_
              rotate_left
              · (intro w hSw; (try dsimp only at hSw); go_simp; (try with_reducible rfl))
              try simp only [Act.put, List.setIfInBounds_toArray, List.set_cons_zero, List.set_cons_succ]
              refine take_t (i := 7) (d := some 76) (v := ?_) rfl (by kernel_rfl) (by kernel_rfl) (by kernel_rfl) (by kernel_rfl) (fun _ _ _ h => h) rfl (by rfl) ?_ (by assumption) ?_
              rotate_left
              · (intro w hSw; (try dsimp only at hSw); go_simp; (try with_reducible rfl))
              try simp only [Act.put, List.setIfInBounds_toArray, List.set_cons_zero, List.set_cons_succ]
              refine take_t (i := 8) (d := some 77) (v := ?_) rfl (by kernel_rfl) (by kernel_rfl) (by kernel_rfl) (by kernel_rfl) (fun _ _ _ h => h) rfl (by rfl) ?_ (by assumption) ?_
              rotate_left
              · (intro w hSw; (try dsimp only at hSw); go_simp; (try with_reducible rfl))
              try simp only [Act.put, List.setIfInBounds_toArray, List.set_cons_zero, List.set_cons_succ]
              refine take_t (i := 9) (d := some 78) (v := ?_) rfl (by kernel_rfl) (by kernel_rfl) (by kernel_rfl) (by kernel_rfl) (fun _ _ _ h => h) rfl (by rfl) ?_ (by assumption) ?_
              rotate_left
              · (intro w hSw; (try dsimp only at hSw); go_simp; (try with_reducible rfl))
              try simp only [Act.put, List.setIfInBounds_toArray, List.set_cons_zero, List.set_cons_succ]
              refine take_t (i := 10) (d := some 79) (v := ?_) rfl (by kernel_rfl) (by kernel_rfl) (by kernel_rfl) (by kernel_rfl) (fun _ _ _ h => h) rfl (by rfl) ?_ (by assumption) ?_
              rotate_left
              · (intro w hSw; (try dsimp only at hSw); go_simp; (try with_reducible rfl))
              try simp only [Act.put, List.setIfInBounds_toArray, List.set_cons_zero, List.set_cons_succ]
              refine take_t (i := 11) (d := some 80) (v := ?_) rfl (by kernel_rfl) (by kernel_rfl) (by kernel_rfl) (by kernel_rfl) (fun _ _ _ h => h) rfl (by rfl) ?_ (by assumption) ?_
              rotate_left
              · (intro w hSw; (try dsimp only at hSw); go_simp; (try with_reducible rfl))
              try simp only [Act.put, List.setIfInBounds_toArray, List.set_cons_zero, List.set_cons_succ]
              refine call_t (i := 12) rfl (by kernel_rfl) (by rfl) (fun K hK => ?_)
              go_simp
              have hHeld : ((fun w' => w'.cell? ⟨w2.heap.size, 3, none⟩ = some (.slice (some ad) 2 c2) ∧ w'.cell? ad = some (.int .i64 a) ∧ w'.cell? ⟨ad.block, ad.off + 1, none⟩ = some (.int .i64 b)) : World → Prop) _ := HS0.out _ Hqa.out
              refine hK.out _ _ (fun _ => hHeld) ?_
              clear hK K
              try simp only [Act.put, List.setIfInBounds_toArray, List.set_cons_zero, List.set_cons_succ]
              refine call_t (i := 13) rfl (by kernel_rfl) (by rfl) (fun K hK => ?_)
              go_simp
              go_at_call 28
              refine (parts10_any _ _ _ _).mono ?_
              rintro e w5 ⟨rfl, q5⟩
              have Q5 := Lib.hid (Hqa.out.trans q5)
              have hrz : Hid (Rds w5 w5.heap.size (some ⟨W.heap.size, 0, none⟩) (cellsQ [(x, a), (x, b)])) := Lib.hid (HOa.out.rds.q q5)
              obtain ⟨z00, z01⟩ := (HR8.out.q Q5.out).2 0 _ rfl
              obtain ⟨z10, z11⟩ := (HR8.out.q Q5.out).2 1 _ rfl
              have hHeld : ((fun w' => w'.cell? ⟨w2.heap.size, 3, none⟩ = some (.slice (some ad) 2 c2) ∧ w'.cell? ad = some (.int .i64 a) ∧ w'.cell? ⟨ad.block, ad.off + 1, none⟩ = some (.int .i64 b)) : World → Prop) _ := HS0.out _ Q5.out
              refine hK.out _ _ (fun _ => hHeld) ?_
              clear hK K
              try simp only [Act.put, List.setIfInBounds_toArray, List.set_cons_zero, List.set_cons_succ]
              refine call_t (i := 14) rfl (by kernel_rfl) (by rfl) (fun K hK => ?_)
              go_simp
              refine hK.out _ _ (fun hz => by cases hz) ?_
              clear hK K
              try simp only [Act.put, List.setIfInBounds_toArray, List.set_cons_zero, List.set_cons_succ]
              refine done_t (by kernel_rfl) ?_ _
              go_wp2_with fail
              obtain ⟨⟨y0, y1⟩, hrd, hqw⟩ := way_close (w := w) (l := [(x, a), (x, b)]) (.int .i64 1) (.slice (some ⟨W.heap.size, 0, none⟩) 2 2) (HR8.out.q Q5.out) (by omega) (HQw.out.trans Q5.out) hrz.out (fun _ ad ha => by injection ha with ha; subst ha; exact Nat.ne_of_gt HR8.out.1)
              exact bodyPost_ret (v := .agg #[.int .i64 1, .slice (some ⟨W.heap.size, 0, none⟩) 2 2]) (by simp [results, Try.f13, go_sem, y0, y1]) rfl ⟨_, _, by rw [HFx.out]; rfl, by rw [HFx.out]; exact hrd, hqw, fun ad ha => by injection ha with ha; subst ha; exact HQw.out.size⟩
            · have HNk5 : Hid True := trivial
              by_cases k2 : s.k = 2
              · have d0 : (x == y) = false := beq_eq_false_iff_ne.2 hxy
                have d1 : (s.k == 0) = false := beq_eq_false_iff_ne.2 k0
                have d2 : (t.k == 1) = false := beq_eq_false_iff_ne.2 k1
                have d3 : (s.k == 4) = false := beq_eq_false_iff_ne.2 k4
                have d4 : (t.k == 5) = false := beq_eq_false_iff_ne.2 k5
                have d5 : (s.k == 2) = true := beq_iff_eq.2 k2
                have HFx : Hid (stepF L ks x y = (2, [])) := by unfold Hid; rw [HF.out]; unfold stepT; rw [if_neg (by rintro (h | h | h) <;> contradiction), if_neg k4, if_neg k5, if_pos (.inl k2)]
                clear hxy k0 k1 k4 k5 k2
                clear HF hx1 hx2 hts htt HE1 HE2 CP HROW
                go_wp2_with fail
                obtain ⟨⟨y0, y1⟩, hrd, hqw⟩ := way_close (w := w) (A := none) (l := []) (.int .i64 2) (.slice none 0 0) HR8.out (by omega) HQw.out (Rds.nil _ _ _) (fun h => absurd h (by simp))
                exact bodyPost_ret (v := .agg #[.int .i64 2, .slice none 0 0]) (by simp [results, Try.f13, go_sem, y0, y1]) rfl ⟨none, 0, by rw [HFx.out]; rfl, by rw [HFx.out]; exact hrd, hqw, fun _ h => by cases h⟩
              · have HNk2 : Hid True := trivial
                by_cases m2 : t.k = 2
                · have d0 : (x == y) = false := beq_eq_false_iff_ne.2 hxy
                  have d1 : (s.k == 0) = false := beq_eq_false_iff_ne.2 k0
                  have d2 : (t.k == 1) = false := beq_eq_false_iff_ne.2 k1
                  have d3 : (s.k == 4) = false := beq_eq_false_iff_ne.2 k4
                  have d4 : (t.k == 5) = false := beq_eq_false_iff_ne.2 k5
                  have d5 : (s.k == 2) = false := beq_eq_false_iff_ne.2 k2
                  have d6 : (t.k == 2) = true := beq_iff_eq.2 m2
                  have HFx : Hid (stepF L ks x y = (2, [])) := by unfold Hid; rw [HF.out]; unfold stepT; rw [if_neg (by rintro (h | h | h) <;> contradiction), if_neg k4, if_neg k5, if_pos (.inr m2)]
                  clear hxy k0 k1 k4 k5 k2 m2
                  clear HF hx1 hx2 hts htt HE1 HE2 CP HROW
                  go_wp2_with fail
                  obtain ⟨⟨y0, y1⟩, hrd, hqw⟩ := way_close (w := w) (A := none) (l := []) (.int .i64 2) (.slice none 0 0) HR8.out (by omega) HQw.out (Rds.nil _ _ _) (fun h => absurd h (by simp))
                  exact bodyPost_ret (v := .agg #[.int .i64 2, .slice none 0 0]) (by simp [results, Try.f13, go_sem, y0, y1]) rfl ⟨none, 0, by rw [HFx.out]; rfl, by rw [HFx.out]; exact hrd, hqw, fun _ h => by cases h⟩
                · have HNm2 : Hid True := trivial
                  by_cases m6 : t.k = 6
                  · have d0 : (x == y) = false := beq_eq_false_iff_ne.2 hxy
                    have d1 : (s.k == 0) = false := beq_eq_false_iff_ne.2 k0
                    have d2 : (t.k == 1) = false := beq_eq_false_iff_ne.2 k1
                    have d3 : (s.k == 4) = false := beq_eq_false_iff_ne.2 k4
                    have d4 : (t.k == 5) = false := beq_eq_false_iff_ne.2 k5
                    have d5 : (s.k == 2) = false := beq_eq_false_iff_ne.2 k2
                    have d6 : (t.k == 2) = false := beq_eq_false_iff_ne.2 m2
                    have d7 : (t.k == 6) = true := beq_iff_eq.2 m6
                    have HFx : Hid (stepF L ks x y = projF L s t) := by unfold Hid; rw [HF.out]; unfold stepT; rw [if_neg (by rintro (h | h | h) <;> contradiction), if_neg k4, if_neg k5, if_neg (by rintro (h | h) <;> contradiction), if_pos m6]
                    have CJ := Lib.hid (refProj10_any R A1 A2 L.length cl s.xs.length c1 t.xs.length c2 L s t _ _ (w2.alloc (Obj.cells #[.int .i64 t.k, .int .i64 t.s, .int .i64 t.p, .slice A2 t.xs.length c2] 60)) rfl HROW.out hts htt m6 rfl HE1.out rfl HE2.out)
                    clear hxy k0 k1 k4 k5 k2 m2 m6
                    clear HF hts htt
                    go_wp2_with fail
                    refine CJ.out.mono ?_
                    rintro e w3 ⟨A3, c3, rfl, hrd3, q3, hA3⟩
                    obtain ⟨z00, z01⟩ := (HR8.out.q q3).2 0 _ rfl
                    obtain ⟨z10, z11⟩ := (HR8.out.q q3).2 1 _ rfl
                    have hq8 := HR8.out.1
                    go_wp2_with fail
                    obtain ⟨⟨y0, y1⟩, hrd, hqw⟩ := way_close (w := w) (l := (projF L s t).2) (.int .i64 (projF L s t).1) (.slice A3 (projF L s t).2.length c3) (HR8.out.q q3) (by omega) (HQw.out.trans q3) hrd3 (fun _ ad ha => Nat.ne_of_gt (Nat.lt_of_lt_of_le hq8 (hA3 ad ha)))
                    exact bodyPost_ret (v := .agg #[.int .i64 (projF L s t).1, .slice A3 (projF L s t).2.length c3]) (by simp [results, Try.f13, go_sem, y0, y1]) rfl ⟨_, _, by rw [HFx.out], by rw [HFx.out]; exact hrd, hqw, fun ad ha => Nat.le_trans HQw.out.size (hA3 ad ha)⟩
                  · have HNm6 : Hid True := trivial
                    have e0 : (x == y) = false := beq_eq_false_iff_ne.2 hxy
                    have e1 : (s.k == 0) = false := beq_eq_false_iff_ne.2 k0
                    have e2 : (t.k == 1) = false := beq_eq_false_iff_ne.2 k1
                    have e3 : (s.k == 4) = false := beq_eq_false_iff_ne.2 k4
                    have e4 : (t.k == 5) = false := beq_eq_false_iff_ne.2 k5
                    have e5 : (s.k == 2) = false := beq_eq_false_iff_ne.2 k2
                    have e6 : (t.k == 2) = false := beq_eq_false_iff_ne.2 m2
                    have e7 : (t.k == 6) = false := beq_eq_false_iff_ne.2 m6
                    by_cases c1 : s.k = 3 ∧ t.k = 3 ∧ s.s = t.s
                    · obtain ⟨k3, m3, hss⟩ := c1
                      have g0 : (s.k == 3) = true := beq_iff_eq.2 k3
                      have g1 : (t.k == 3) = true := beq_iff_eq.2 m3
                      have HFx : Hid (stepF L ks x y = (1, conF L s.s 0 s.xs t.xs)) := by unfold Hid; rw [HF.out]; unfold stepT; rw [if_neg (by rintro (h | h | h) <;> contradiction), if_neg k4, if_neg k5, if_neg (by rintro (h | h) <;> contradiction), if_neg m6, if_pos ⟨k3, m3, hss⟩]
                      obtain ⟨j1, hj1, es, hls⟩ : ∃ (j1 : Nat) (h : j1 < L.length), s.s = (j1 : Int) ∧ s.xs.length = L[j1].2.size := by
                        cases hts with
                        | leaf _ h => omega
                        | con j h _ a b _ => exact ⟨j, h, a, b⟩
                        | two _ _ h => omega
                        | proj j m h e h6 => omega
                      obtain ⟨j2, hj2, et, hlt⟩ : ∃ (j2 : Nat) (h : j2 < L.length), t.s = (j2 : Int) ∧ t.xs.length = L[j2].2.size := by
                        cases htt with
                        | leaf _ h => omega
                        | con j h _ a b _ => exact ⟨j, h, a, b⟩
                        | two _ _ h => omega
                        | proj j m h e h6 => omega
                      obtain rfl : j1 = j2 := by omega
                      have hll : t.xs.length = s.xs.length := by rw [hlt, hls]
                      have h8 : s.xs.length ≤ 8 := by rw [hls]; exact H8.out _ (List.getElem_mem hj1)
                      obtain ⟨adR, rfl, hadR, _, aR⟩ := HROW.out.at_ hj1
                      have g2 : (s.s == t.s) = true := beq_iff_eq.2 hss
                      have ES := Lib.hid es
                      have HLL := Lib.hid hll
                      have HLS := Lib.hid hls
                      clear hts htt HF HROW hlt hss k3 m3 es et hls hll k0 k1 k4 k5 k2 m2 m6 hxy
                      go_wp2_with fail
                      clear r00 r01 r10 r11 p0 p2 u0 u1 u2
                      generalize (w2.alloc (Obj.cells #[.int .i64 t.k, .int .i64 t.s, .int .i64 t.p, .slice A2 t.xs.length c2] 60)) = W at *
                      rw [ES.out] at p1
                      rw [HLL.out] at u3
                      go_loopw [13, 14] (fun u iv wr => ∃ (k : Nat) (P : List PI) (v : Value), k ≤ s.xs.length ∧ iv = .int .i64 k ∧ v = u ∧ P.length ≤ 2 * k ∧ Hid (conF L s.s 0 s.xs t.xs = P ++ conF L s.s k (s.xs.drop k) (t.xs.drop k)) ∧ Hid (wr.ownsRow W.heap.size 46 2 v P.length (cellsQ P)) ∧ Hid (Q W wr)) (fun _ iv _ => s.xs.length - (intOf iv).toNat)
                      case atStart => exact ⟨0, [], _, Nat.zero_le _, rfl, rfl, Nat.zero_le _, Lib.hid (by simp), Lib.hid (own_nil W _ _ _), Lib.hid (Q.refl W)⟩
                      case round =>
                        obtain ⟨k, P, v, hk, rfl, rfl, hPl, HD, HO, HQ⟩ := hrel
                        have z3 : wr.cell? ⟨w1.heap.size, 3, none⟩ = some (.slice A1 s.xs.length c1) := (HQ.out.cell (p := ⟨w1.heap.size, 3, none⟩) lt9).trans p3
                        by_cases hkl : k < s.xs.length
                        · have hkt : k < t.xs.length := by rw [HLL.out]; exact hkl
                          obtain ⟨ad1, rfl, had1, x1⟩ := HE1.out.at_ hkl
                          obtain ⟨ad2, rfl, had2, x2⟩ := HE2.out.at_ hkt
                          have HS0 : Hid (∀ U, Q W U → (fun w' => w'.cell? ⟨w1.heap.size, 3, none⟩ = some (.slice (some ad1) s.xs.length c1) ∧ w'.cell? (ad1.add k) = some (.int .i64 s.xs[k]) ∧ w'.cell? ⟨w2.heap.size, 3, none⟩ = some (.slice (some ad2) s.xs.length c2) ∧ w'.cell? (ad2.add k) = some (.int .i64 t.xs[k]) ∧ w'.cell? ⟨w1.heap.size, 1, none⟩ = some (.int .i64 (j1 : Int)) ∧ w'.cell? ⟨(adR.add (j1 * 2)).block, (adR.add (j1 * 2)).off + 1, none⟩ = some (.string L[j1].2)) U) := fun U q => ⟨(q.cell (p := ⟨w1.heap.size, 3, none⟩) lt9).trans p3, (q.cell (p := ad1.add k) (by rw [add_block]; exact had1)).trans x1, (q.cell (p := ⟨w2.heap.size, 3, none⟩) lt11).trans u3, (q.cell (p := ad2.add k) (by rw [add_block]; exact had2)).trans x2, (q.cell (p := ⟨w1.heap.size, 1, none⟩) lt9).trans p1, (q.cell (p := ⟨(adR.add (j1 * 2)).block, (adR.add (j1 * 2)).off + 1, none⟩) (by show (adR.add (j1 * 2)).block < _; rw [add_block]; exact hadR)).trans aR⟩
                          have hkz : k < L[j1].2.size := by rw [← HLS.out]; exact hkl
                          have hv : varyN L s.s k = L[j1].2[k] := by rw [ES.out]; exact varyN_at hj1 hkz
                          have CP := Lib.hid (fun (U : World) (q : Q wr U) => refPairs_any W.heap.size P v s.xs[k] t.xs[k] L[j1].2[k] U (row_kept HO.out q (Nat.le_refl _)) (Nat.le_trans HQ.out.size q.size) (by omega))
                          have HD2 : Hid (conF L s.s 0 s.xs t.xs = (P ++ pairsF s.xs[k] t.xs[k] L[j1].2[k]) ++ conF L s.s (k + 1) (s.xs.drop (k + 1)) (t.xs.drop (k + 1))) := by
                            unfold Hid
                            rw [HD.out, conF_at _ _ k hkl hkt, hv, List.append_assoc]
                          have hP2 : (P ++ pairsF s.xs[k] t.xs[k] L[j1].2[k]).length ≤ 2 * (k + 1) := by
                            have := pairsF_len s.xs[k] t.xs[k] L[j1].2[k]
                            rw [List.length_append]; omega
                          generalize P ++ pairsF s.xs[k] t.xs[k] L[j1].2[k] = X at *
                          have i0 : (k : Int) < (s.xs.length : Int) := by omega
                          have i1 : (0 : Int) ≤ (k : Int) := Int.natCast_nonneg _
                          have i2 : (k : Int) < (L[j1].2.size : Int) := by omega
                          have i3 : (j1 : Int) < (L.length : Int) := by omega
                          have i4 : (0 : Int) ≤ (j1 : Int) := Int.natCast_nonneg _
                          have i5 : decide ((k : Int) < (s.xs.length : Int)) = true := decide_eq_true i0
                          clear hv HD x1 x2
                          go_wp2_with fail
                          refine wp_region_held_drew (S := fun w' => w'.cell? ⟨w1.heap.size, 3, none⟩ = some (.slice (some ad1) s.xs.length c1) ∧ w'.cell? (ad1.add k) = some (.int .i64 s.xs[k]) ∧ w'.cell? ⟨w2.heap.size, 3, none⟩ = some (.slice (some ad2) s.xs.length c2) ∧ w'.cell? (ad2.add k) = some (.int .i64 t.xs[k]) ∧ w'.cell? ⟨w1.heap.size, 1, none⟩ = some (.int .i64 (j1 : Int)) ∧ w'.cell? ⟨(adR.add (j1 * 2)).block, (adR.add (j1 * 2)).off + 1, none⟩ = some (.string L[j1].2)) (by kernel_rfl) ?_ (fun hHeld => ?_)
                          · exact HS0.out _ HQ.out.drew
                          refine take_w (i := 0) (d := some 121) (v := ?_) rfl (by kernel_rfl) (by kernel_rfl) (by kernel_rfl) (fun _ _ _ h => h) rfl (by rfl) ?_ (by assumption) ?_
                          rotate_left
                          · (intro w hSw; (try dsimp only at hSw); go_simp; (try with_reducible rfl))
                          try simp only [Act.put, List.setIfInBounds_toArray, List.set_cons_zero, List.set_cons_succ]
                          refine take_w (i := 1) (d := some 122) (v := ?_) rfl (by kernel_rfl) (by kernel_rfl) (by kernel_rfl) (fun _ _ _ h => h) rfl (by rfl) ?_ (by assumption) ?_
                          rotate_left
                          · (intro w hSw; (try dsimp only at hSw); go_simp; (try with_reducible rfl))
                          try simp only [Act.put, List.setIfInBounds_toArray, List.set_cons_zero, List.set_cons_succ]
                          refine take_w (i := 2) (d := some 123) (v := ?_) rfl (by kernel_rfl) (by kernel_rfl) (by kernel_rfl) (fun _ _ _ h => h) rfl (by rfl) ?_ (by assumption) ?_
                          rotate_left
                          · (intro w hSw; (try dsimp only at hSw); go_simp; (try with_reducible rfl))
                          try simp only [Act.put, List.setIfInBounds_toArray, List.set_cons_zero, List.set_cons_succ]
                          refine take_w (i := 3) (d := some 124) (v := ?_) rfl (by kernel_rfl) (by kernel_rfl) (by kernel_rfl) (fun _ _ _ h => h) rfl (by rfl) ?_ (by assumption) ?_
                          rotate_left
                          · (intro w hSw; (try dsimp only at hSw); go_simp; (try with_reducible rfl))
                          try simp only [Act.put, List.setIfInBounds_toArray, List.set_cons_zero, List.set_cons_succ]
                          refine take_w (i := 4) (d := some 125) (v := ?_) rfl (by kernel_rfl) (by kernel_rfl) (by kernel_rfl) (fun _ _ _ h => h) rfl (by rfl) ?_ (by assumption) ?_
                          rotate_left
                          · (intro w hSw; (try dsimp only at hSw); go_simp; (try with_reducible rfl))
                          try simp only [Act.put, List.setIfInBounds_toArray, List.set_cons_zero, List.set_cons_succ]
                          refine take_w (i := 5) (d := some 126) (v := ?_) rfl (by kernel_rfl) (by kernel_rfl) (by kernel_rfl) (fun _ _ _ h => h) rfl (by rfl) ?_ (by assumption) ?_
                          rotate_left
                          · (intro w hSw; (try dsimp only at hSw); go_simp; (try with_reducible rfl))
                          try simp only [Act.put, List.setIfInBounds_toArray, List.set_cons_zero, List.set_cons_succ]
                          refine take_w (i := 6) (d := some 127) (v := ?_) rfl (by kernel_rfl) (by kernel_rfl) (by kernel_rfl) (fun _ _ _ h => h) rfl (by rfl) ?_ (by assumption) ?_
                          rotate_left
                          · (intro w hSw; (try dsimp only at hSw); go_simp; (try with_reducible rfl))
                          try simp only [Act.put, List.setIfInBounds_toArray, List.set_cons_zero, List.set_cons_succ]
                          refine take_w (i := 7) (d := some 128) (v := ?_) rfl (by kernel_rfl) (by kernel_rfl) (by kernel_rfl) (fun _ _ _ h => h) rfl (by rfl) ?_ (by assumption) ?_
                          rotate_left
                          · (intro w hSw; (try dsimp only at hSw); go_simp; (try with_reducible rfl))
                          try simp only [Act.put, List.setIfInBounds_toArray, List.set_cons_zero, List.set_cons_succ]
                          refine take_w (i := 8) (d := some 129) (v := ?_) rfl (by kernel_rfl) (by kernel_rfl) (by kernel_rfl) (fun _ _ _ h => h) rfl (by rfl) ?_ (by assumption) ?_
                          rotate_left
                          · (intro w hSw; (try dsimp only at hSw); go_simp; (try with_reducible rfl))
                          try simp only [Act.put, List.setIfInBounds_toArray, List.set_cons_zero, List.set_cons_succ]
                          refine take_w (i := 9) (d := some 130) (v := ?_) rfl (by kernel_rfl) (by kernel_rfl) (by kernel_rfl) (fun _ _ _ h => h) rfl (by rfl) ?_ (by assumption) ?_
                          rotate_left
                          · (intro w hSw; (try dsimp only at hSw); go_simp; (try with_reducible rfl))
                          try simp only [Act.put, List.setIfInBounds_toArray, List.set_cons_zero, List.set_cons_succ]
                          refine take_w (i := 10) (d := some 131) (v := ?_) rfl (by kernel_rfl) (by kernel_rfl) (by kernel_rfl) (fun _ _ _ h => h) rfl (by rfl) ?_ (by assumption) ?_
                          rotate_left
                          · (intro w hSw; (try dsimp only at hSw); go_simp; (try with_reducible rfl))
                          try simp only [Act.put, List.setIfInBounds_toArray, List.set_cons_zero, List.set_cons_succ]
                          refine take_w (i := 11) (d := some 132) (v := ?_) rfl (by kernel_rfl) (by kernel_rfl) (by kernel_rfl) (fun _ _ _ h => h) rfl (by rfl) ?_ (by assumption) ?_
                          rotate_left
                          · (intro w hSw; (try dsimp only at hSw); go_simp; (try with_reducible rfl))
                          try simp only [Act.put, List.setIfInBounds_toArray, List.set_cons_zero, List.set_cons_succ]
                          refine take_w (i := 12) (d := some 133) (v := ?_) rfl (by kernel_rfl) (by kernel_rfl) (by kernel_rfl) (fun _ _ _ h => h) rfl (by rfl) ?_ (by assumption) ?_
                          rotate_left
                          · (intro w hSw; (try dsimp only at hSw); go_simp; (try with_reducible rfl))
                          try simp only [Act.put, List.setIfInBounds_toArray, List.set_cons_zero, List.set_cons_succ]
                          refine take_w (i := 13) (d := some 134) (v := ?_) rfl (by kernel_rfl) (by kernel_rfl) (by kernel_rfl) (fun _ _ _ h => h) rfl (by rfl) ?_ (by assumption) ?_
                          rotate_left
                          · (intro w hSw; (try dsimp only at hSw); go_simp; (try with_reducible rfl))
                          try simp only [Act.put, List.setIfInBounds_toArray, List.set_cons_zero, List.set_cons_succ]
                          refine take_w (i := 14) (d := some 135) (v := ?_) rfl (by kernel_rfl) (by kernel_rfl) (by kernel_rfl) (fun _ _ _ h => h) rfl (by rfl) ?_ (by assumption) ?_
                          rotate_left
                          · (intro w hSw; (try dsimp only at hSw); go_simp; (try with_reducible rfl))
                          try simp only [Act.put, List.setIfInBounds_toArray, List.set_cons_zero, List.set_cons_succ]
                          refine take_w (i := 15) (d := some 136) (v := ?_) rfl (by kernel_rfl) (by kernel_rfl) (by kernel_rfl) (fun _ _ _ h => h) rfl (by rfl) ?_ (by assumption) ?_
                          rotate_left
                          · (intro w hSw; (try dsimp only at hSw); go_simp; (try with_reducible rfl))
                          try simp only [Act.put, List.setIfInBounds_toArray, List.set_cons_zero, List.set_cons_succ]
                          refine take_w (i := 16) (d := some 137) (v := ?_) rfl (by kernel_rfl) (by kernel_rfl) (by kernel_rfl) (fun _ _ _ h => h) rfl (by rfl) ?_ (by assumption) ?_
                          rotate_left
                          · (intro w hSw; (try dsimp only at hSw); go_simp; (try with_reducible rfl))
                          try simp only [Act.put, List.setIfInBounds_toArray, List.set_cons_zero, List.set_cons_succ]
                          refine take_w (i := 17) (d := some 138) (v := ?_) rfl (by kernel_rfl) (by kernel_rfl) (by kernel_rfl) (fun _ _ _ h => h) rfl (by rfl) ?_ (by assumption) ?_
                          rotate_left
                          · (intro w hSw; (try dsimp only at hSw); go_simp; (try with_reducible rfl))
                          try simp only [Act.put, List.setIfInBounds_toArray, List.set_cons_zero, List.set_cons_succ]
                          refine take_w (i := 18) (d := some 139) (v := ?_) rfl (by kernel_rfl) (by kernel_rfl) (by kernel_rfl) (fun _ _ _ h => h) rfl (by rfl) ?_ (by assumption) ?_
                          rotate_left
                          · (intro w hSw; (try dsimp only at hSw); go_simp; (try with_reducible rfl))
                          try simp only [Act.put, List.setIfInBounds_toArray, List.set_cons_zero, List.set_cons_succ]
                          refine call_w (i := 19) rfl (by kernel_rfl) (by rfl) (fun K hK => ?_)
                          go_simp
                          go_at_call 30
                          refine (CP.out _ (Q.refl wr).drew).mono ?_
                          rintro e w4 ⟨v4, rfl, own4, b4⟩
                          have Q4 : Hid (Q W w4) := Below.trans HQ.out.drew b4
                          have Own := Lib.hid own4
                          clear own4 b4
                          refine hK.out _ _ ?_ (fun hHeld => ?_)
                          · exact HS0.out _ Q4.out
                          clear hK K
                          try simp only [Act.put, List.setIfInBounds_toArray, List.set_cons_zero, List.set_cons_succ]
                          refine take_w (i := 20) (d := some 13) (v := ?_) rfl (by kernel_rfl) (by kernel_rfl) (by kernel_rfl) (fun _ _ _ h => h) rfl (by rfl) ?_ (by assumption) ?_
                          rotate_left
                          · (intro w hSw; (try dsimp only at hSw); go_simp; (try with_reducible rfl))
                          try simp only [Act.put, List.setIfInBounds_toArray, List.set_cons_zero, List.set_cons_succ]
                          refine wpAnyH_done (by kernel_rfl) ?_ _
                          go_wp2_with fail
                          go_roundw
                          case rel => exact ⟨k + 1, X, v4, by omega, by go_num, rfl, hP2, HD2, Own, Q4⟩
                          case measure => simp [intOf]; omega
                        · have hkx : k = s.xs.length := by omega
                          have HCF : Hid (conF L s.s 0 s.xs t.xs = P) := by
                            unfold Hid
                            rw [HD.out, conF_end _ _ k (by omega), List.append_nil]
                          have i5 : decide ((k : Int) < (s.xs.length : Int)) = false := decide_eq_false (by omega)
                          obtain ⟨A5, c5, rfl, hr5, hA5⟩ := own_open HO.out
                          obtain ⟨z00, z01⟩ := (HR8.out.q HQ.out).2 0 _ rfl
                          obtain ⟨z10, z11⟩ := (HR8.out.q HQ.out).2 1 _ rfl
                          have HRz := Lib.hid hr5
                          clear HD hkx hr5
                          go_wp2_with fail
                          refine (parts10_any _ _ _ _).mono ?_
                          rintro e w8 ⟨rfl, q8⟩
                          have Q8 : Hid (Q W w8) := HQ.out.trans q8
                          clear z00 z01 z10 z11
                          obtain ⟨z00, z01⟩ := (HR8.out.q Q8.out).2 0 _ rfl
                          obtain ⟨z10, z11⟩ := (HR8.out.q Q8.out).2 1 _ rfl
                          go_wp2_with fail
                          obtain ⟨⟨y0, y1⟩, hrd, hqw⟩ := way_close (w := w) (l := P) (.int .i64 1) (.slice A5 P.length c5) (HR8.out.q Q8.out) (by omega) (HQw.out.trans Q8.out) (HRz.out.q q8) (fun _ ad ha => Nat.ne_of_gt (Nat.lt_of_lt_of_le HR8.out.1 (hA5 ad ha)))
                          exact bodyPost_ret (v := .agg #[.int .i64 1, .slice A5 P.length c5]) (by simp [results, Try.f13, go_sem, y0, y1]) rfl ⟨_, _, by rw [HFx.out, HCF.out], by rw [HFx.out, HCF.out]; exact hrd, hqw, fun ad ha => Nat.le_trans HQw.out.size (hA5 ad ha)⟩
                    · have HB0 : Hid (stepF L ks x y = if (s.k = 1 ∨ s.k = 3) ∧ (t.k = 0 ∨ t.k = 3) then (3, []) else (0, [])) := by unfold Hid; rw [HF.out]; unfold stepT; rw [if_neg (by rintro (h | h | h) <;> contradiction), if_neg k4, if_neg k5, if_neg (by rintro (h | h) <;> contradiction), if_neg m6, if_neg c1]
                      clear k0 k1 k4 k5 k2 m2 m6 hxy
                      by_cases a3 : s.k = 3
                      · by_cases b3 : t.k = 3
                        · have ess : ¬ s.s = t.s := fun h => c1 ⟨a3, b3, h⟩
                          have a1 : ¬ s.k = 1 := by omega
                          have b0 : ¬ t.k = 0 := by omega
                          have g0 : (s.k == 3) = true := beq_iff_eq.2 a3
                          have g1 : (t.k == 3) = true := beq_iff_eq.2 b3
                          have g2 : (s.s == t.s) = false := beq_eq_false_iff_ne.2 ess
                          have g3 : (s.k == 1) = false := beq_eq_false_iff_ne.2 a1
                          have g4 : (t.k == 0) = false := beq_eq_false_iff_ne.2 b0
                          have HFx : Hid (stepF L ks x y = (3, [])) := by unfold Hid; rw [HB0.out, if_pos ⟨.inr a3, .inr b3⟩]
                          clear HB0 c1 a3 b3 ess a1 b0
                          clear HF hx1 hx2 hts htt HE1 HE2 CP HROW
                          go_wp2_with fail
                          obtain ⟨⟨y0, y1⟩, hrd, hqw⟩ := way_close (w := w) (A := none) (l := []) (.int .i64 3) (.slice none 0 0) HR8.out (by omega) HQw.out (Rds.nil _ _ _) (fun h => absurd h (by simp))
                          exact bodyPost_ret (v := .agg #[.int .i64 3, .slice none 0 0]) (by simp [results, Try.f13, go_sem, y0, y1]) rfl ⟨none, 0, by rw [HFx.out]; rfl, by rw [HFx.out]; exact hrd, hqw, fun _ h => by cases h⟩
                        · have a1 : ¬ s.k = 1 := by omega
                          by_cases b0 : t.k = 0
                          · have g0 : (s.k == 3) = true := beq_iff_eq.2 a3
                            have g1 : (t.k == 3) = false := beq_eq_false_iff_ne.2 b3
                            have g2 : (s.k == 1) = false := beq_eq_false_iff_ne.2 a1
                            have g3 : (t.k == 0) = true := beq_iff_eq.2 b0
                            have HFx : Hid (stepF L ks x y = (3, [])) := by unfold Hid; rw [HB0.out, if_pos ⟨.inr a3, .inl b0⟩]
                            clear HB0 c1 a3 b3 a1 b0
                            clear HF hx1 hx2 hts htt HE1 HE2 CP HROW
                            go_wp2_with fail
                            obtain ⟨⟨y0, y1⟩, hrd, hqw⟩ := way_close (w := w) (A := none) (l := []) (.int .i64 3) (.slice none 0 0) HR8.out (by omega) HQw.out (Rds.nil _ _ _) (fun h => absurd h (by simp))
                            exact bodyPost_ret (v := .agg #[.int .i64 3, .slice none 0 0]) (by simp [results, Try.f13, go_sem, y0, y1]) rfl ⟨none, 0, by rw [HFx.out]; rfl, by rw [HFx.out]; exact hrd, hqw, fun _ h => by cases h⟩
                          · have g0 : (s.k == 3) = true := beq_iff_eq.2 a3
                            have g1 : (t.k == 3) = false := beq_eq_false_iff_ne.2 b3
                            have g2 : (s.k == 1) = false := beq_eq_false_iff_ne.2 a1
                            have g3 : (t.k == 0) = false := beq_eq_false_iff_ne.2 b0
                            have HFx : Hid (stepF L ks x y = (0, [])) := by unfold Hid; rw [HB0.out, if_neg (by omega)]
                            clear HB0 c1 a3 b3 a1 b0
                            clear HF hx1 hx2 hts htt HE1 HE2 CP HROW
                            go_wp2_with fail
                            obtain ⟨⟨y0, y1⟩, hrd, hqw⟩ := way_close (w := w) (A := none) (l := []) (.int .i64 0) (.slice none 0 0) HR8.out (by omega) HQw.out (Rds.nil _ _ _) (fun h => absurd h (by simp))
                            exact bodyPost_ret (v := .agg #[.int .i64 0, .slice none 0 0]) (by simp [results, Try.f13, go_sem, y0, y1]) rfl ⟨none, 0, by rw [HFx.out]; rfl, by rw [HFx.out]; exact hrd, hqw, fun _ h => by cases h⟩
                      · by_cases a1 : s.k = 1
                        · by_cases b0 : t.k = 0
                          · have g0 : (s.k == 3) = false := beq_eq_false_iff_ne.2 a3
                            have g1 : (s.k == 1) = true := beq_iff_eq.2 a1
                            have g2 : (t.k == 0) = true := beq_iff_eq.2 b0
                            have HFx : Hid (stepF L ks x y = (3, [])) := by unfold Hid; rw [HB0.out, if_pos ⟨.inl a1, .inl b0⟩]
                            clear HB0 c1 a3 a1 b0
                            clear HF hx1 hx2 hts htt HE1 HE2 CP HROW
                            go_wp2_with fail
                            obtain ⟨⟨y0, y1⟩, hrd, hqw⟩ := way_close (w := w) (A := none) (l := []) (.int .i64 3) (.slice none 0 0) HR8.out (by omega) HQw.out (Rds.nil _ _ _) (fun h => absurd h (by simp))
                            exact bodyPost_ret (v := .agg #[.int .i64 3, .slice none 0 0]) (by simp [results, Try.f13, go_sem, y0, y1]) rfl ⟨none, 0, by rw [HFx.out]; rfl, by rw [HFx.out]; exact hrd, hqw, fun _ h => by cases h⟩
                          · by_cases b3 : t.k = 3
                            · have g0 : (s.k == 3) = false := beq_eq_false_iff_ne.2 a3
                              have g1 : (t.k == 3) = true := beq_iff_eq.2 b3
                              have g2 : (s.k == 1) = true := beq_iff_eq.2 a1
                              have g3 : (t.k == 0) = false := beq_eq_false_iff_ne.2 b0
                              have HFx : Hid (stepF L ks x y = (3, [])) := by unfold Hid; rw [HB0.out, if_pos ⟨.inl a1, .inr b3⟩]
                              clear HB0 c1 a3 b3 a1 b0
                              clear HF hx1 hx2 hts htt HE1 HE2 CP HROW
                              go_wp2_with fail
                              obtain ⟨⟨y0, y1⟩, hrd, hqw⟩ := way_close (w := w) (A := none) (l := []) (.int .i64 3) (.slice none 0 0) HR8.out (by omega) HQw.out (Rds.nil _ _ _) (fun h => absurd h (by simp))
                              exact bodyPost_ret (v := .agg #[.int .i64 3, .slice none 0 0]) (by simp [results, Try.f13, go_sem, y0, y1]) rfl ⟨none, 0, by rw [HFx.out]; rfl, by rw [HFx.out]; exact hrd, hqw, fun _ h => by cases h⟩
                            · have g0 : (s.k == 3) = false := beq_eq_false_iff_ne.2 a3
                              have g1 : (t.k == 3) = false := beq_eq_false_iff_ne.2 b3
                              have g2 : (s.k == 1) = true := beq_iff_eq.2 a1
                              have g3 : (t.k == 0) = false := beq_eq_false_iff_ne.2 b0
                              have HFx : Hid (stepF L ks x y = (0, [])) := by unfold Hid; rw [HB0.out, if_neg (by omega)]
                              clear HB0 c1 a3 b3 a1 b0
                              clear HF hx1 hx2 hts htt HE1 HE2 CP HROW
                              go_wp2_with fail
                              obtain ⟨⟨y0, y1⟩, hrd, hqw⟩ := way_close (w := w) (A := none) (l := []) (.int .i64 0) (.slice none 0 0) HR8.out (by omega) HQw.out (Rds.nil _ _ _) (fun h => absurd h (by simp))
                              exact bodyPost_ret (v := .agg #[.int .i64 0, .slice none 0 0]) (by simp [results, Try.f13, go_sem, y0, y1]) rfl ⟨none, 0, by rw [HFx.out]; rfl, by rw [HFx.out]; exact hrd, hqw, fun _ h => by cases h⟩
                        · have g0 : (s.k == 3) = false := beq_eq_false_iff_ne.2 a3
                          have g1 : (s.k == 1) = false := beq_eq_false_iff_ne.2 a1
                          have HFx : Hid (stepF L ks x y = (0, [])) := by unfold Hid; rw [HB0.out, if_neg (by omega)]
                          clear HB0 c1 a3 a1
                          clear HF hx1 hx2 hts htt HE1 HE2 CP HROW
                          go_wp2_with fail
                          obtain ⟨⟨y0, y1⟩, hrd, hqw⟩ := way_close (w := w) (A := none) (l := []) (.int .i64 0) (.slice none 0 0) HR8.out (by omega) HQw.out (Rds.nil _ _ _) (fun h => absurd h (by simp))
                          exact bodyPost_ret (v := .agg #[.int .i64 0, .slice none 0 0]) (by simp [results, Try.f13, go_sem, y0, y1]) rfl ⟨none, 0, by rw [HFx.out]; rfl, by rw [HFx.out]; exact hrd, hqw, fun _ h => by cases h⟩
  · have HFz : stepF L ks x y = (0, []) := stepF_no hpl
    have HF : Hid True := trivial
    have CP : Hid True := trivial
    have hx1 : Hid True := trivial
    have hx2 : Hid True := trivial
    have hts : Hid True := trivial
    have htt : Hid True := trivial
    by_cases px : isPl x ks.length = true
    · have eb2 : b2 = false := by rw [← Hb2.out, termAt_no (fun h => hpl ⟨px, h⟩)]; rfl
      have eb1 : b1 = true := by
        obtain ⟨x0, x1⟩ := (isPl_iff _ _).1 px
        obtain ⟨i, rfl⟩ := Int.eq_ofNat_of_zero_le x0
        have hi : i < ks.length := by omega
        rw [← Hb1.out, (place_tok HS.out hi).2]; rfl
      subst eb1 eb2
      have HFx : Hid (stepF L ks x y = (0, [])) := HFz
      clear hpl px HFz
      clear HF hx1 hx2 hts htt HE1 HE2 CP HROW
      go_wp2_with fail
      obtain ⟨⟨y0, y1⟩, hrd, hqw⟩ := way_close (w := w) (A := none) (l := []) (.int .i64 0) (.slice none 0 0) HR8.out (by omega) HQw.out (Rds.nil _ _ _) (fun h => absurd h (by simp))
      exact bodyPost_ret (v := .agg #[.int .i64 0, .slice none 0 0]) (by simp [results, Try.f13, go_sem, y0, y1]) rfl ⟨none, 0, by rw [HFx.out]; rfl, by rw [HFx.out]; exact hrd, hqw, fun _ h => by cases h⟩
    · have eb1 : b1 = false := by rw [← Hb1.out, termAt_no px]; rfl
      subst eb1
      have HFx : Hid (stepF L ks x y = (0, [])) := HFz
      clear hpl px HFz
      clear HF hx1 hx2 hts htt HE1 HE2 CP HROW
      go_wp2_with fail
      obtain ⟨⟨y0, y1⟩, hrd, hqw⟩ := way_close (w := w) (A := none) (l := []) (.int .i64 0) (.slice none 0 0) HR8.out (by omega) HQw.out (Rds.nil _ _ _) (fun h => absurd h (by simp))
      exact bodyPost_ret (v := .agg #[.int .i64 0, .slice none 0 0]) (by simp [results, Try.f13, go_sem, y0, y1]) rfl ⟨none, 0, by rw [HFx.out]; rfl, by rw [HFx.out]; exact hrd, hqw, fun _ h => by cases h⟩
end Go.Proofs.Ytjehccemilefgaa.St
