/-
  What the proofs lean on, part 7 of 10.
-/
import Derived.Test.YtjgbheidkjgncaaPc
import Derived.Test.YtjgbheidkjgncaaPe
import Derived.Test.YtjgbheidkjgncaaPf
namespace Go.Proofs.Ytjgbheidkjgncaa.Wk
open Go.RowKit Kit Rw
open Go.Proofs.Ytjgbheidkjgncaa.St
open Go.Proofs.Ytjgbheidkjgncaa.Hs (Keys Ints layI putL placeI newB putF_any Dist atI)
set_option maxRecDepth 100000 in
set_option maxHeartbeats 1000000 in
theorem cloneQ_any (A : Option Addr) (n c : Nat) (l : List PI) (w : World) (hn : n = l.length) (hr : Rds w w.heap.size A (cellsQ l)) (hl : l.length ≤ 100000) :
    Calls Try.prog 26 #[.slice A n c] w fun e w' => ∃ v, e = .returned v ∧ w'.ownsRow w.heap.size 30 2 v l.length (cellsQ l) ∧ Q w w' := by
  subst hn
  have heq := fun u => Lib.run_eql_slice_nil (P := Try.prog) u 22 30 A l.length c 0 0 Try.underlying22
  cases A with
  | none =>
    have e : l = [] := by
      rcases Nat.eq_zero_or_pos l.length with h | h
      · exact List.eq_nil_of_length_eq_zero h
      · obtain ⟨_, e, _⟩ := hr (by rw [cellsQ_len]; omega); cases e
    subst e
    have heq' : ∀ u, (binOp .eql 22 (.slice none 0 c) (.slice none 0 0)).run Try.prog u = .ok (.bool true) u := heq
    clear heq hr hl
    go_enter Try.func26, Try.ntmps26
    go_wp2_with fail
    go_ret
    exact ⟨_, rfl, World.ownsRow_nil _ _ _ _, Q.refl _⟩
  | some ad =>
    have heq' : ∀ u, (binOp .eql 22 (.slice (some ad) l.length c) (.slice none 0 0)).run Try.prog u = .ok (.bool false) u := heq
    obtain ⟨i0, hi, hz0, hz1, hz2⟩ := info_parts pairInfo
    have Hi := Lib.hid hi
    have Hz0 := Lib.hid hz0
    have Hz1 := Lib.hid hz1
    have Hz2 := Lib.hid hz2
    have Hs := Lib.hid (hr.keep ((Q.refl w).alloc (Obj.cells #[] 30)))
    have Ho := Lib.hid (own_empty (base := w.heap.size) (e := 30) (size := 2) (Nat.le_refl _) (heap_alloc_new w (Obj.cells #[] 30)))
    clear heq hi hz0 hz1 hz2 hr
    go_enter Try.func26, Try.ntmps26
    go_wp2_with (at_builtin; refine wpList_append_src _ rfl (.tmp 5) (.tmp 6) _ rfl w.heap.size 30 i0 _ 2 16 Try.underlying22 Hi.out Hz0.out Hz1.out Hz2.out rfl (by omega) (.slice (some ⟨w.heap.size, 0, none⟩) 0 0) 0 [] rfl Ho.out (some ad) l.length c (cellsQ l) rfl (cellsQ_len l) Hs.out.src (cellsQ_one l) (by unfold maxLen; omega) (by omega) (by simp) ?_; intro v' w' own' gr' _)
    have q2 : Q w w' := ((Q.refl w).alloc (Obj.cells #[] 30)).grown gr' (by simp) (by simp [Value.ownBlock])
    rw [Nat.zero_add, List.nil_append] at own'
    have Ho' := Lib.hid own'
    clear own' gr'
    go_wp2_with fail
    go_ret
    exact ⟨_, rfl, Ho'.out, q2⟩
/-- behind a pair is put into what was seen -/
def PtR (W0 : World) (ks : List (List Int)) (sl : List Int) (isNew : Bool) (u v : Value) (wc : World) : Prop :=
  ∃ (t lo hi : Nat) (A S : Option Addr) (c d : Nat), u = .pointer (some ⟨t, 0, none⟩) ∧ v = .bool isNew ∧
    Hid (OwnC wc t [.slice A ks.length c, .slice S sl.length d]) ∧ Hid (Q W0 wc) ∧
    Hid (∀ W : World, (∀ p : Addr, lo ≤ p.block → p.block < hi → W.cell? p = wc.cell? p) → Keys W hi A ks ∧ Ints W hi S sl) ∧
    Hid (W0.heap.size ≤ t ∧ W0.heap.size ≤ lo ∧ hi ≤ wc.heap.size ∧ t < wc.heap.size ∧ (t < lo ∨ hi ≤ t))
set_option maxRecDepth 100000 in
set_option maxHeartbeats 2000000 in
theorem putW_new (B A S : Option Addr) (k kc n c m d : Nat) (l : List PI) (ks : List (List Int)) (p : PI) (w : World) (h : QRd w B A S k kc n c m d l ks (layI ks)) (hd : Dist ks) (hnew : newB ks (keyP p) = true)
    (hll : l.length < 100000) (hl : ks.length ≤ 5000) (ht : ks.flatten.length ≤ 50000) (hs : ∀ k ∈ ks, k.length ≤ maxLen) :
    Calls Try.prog 11 #[.agg #[.slice B k kc, .slice A n c, .slice S m d], .agg #[.int .i64 p.1, .int .i64 p.2]] w fun e w' => ∃ B' kc' A' S' c' d', e = .returned (.tuple #[.agg #[.slice B' (putH l p).length kc', .slice A' (putL ks (keyP p)).length c', .slice S' (layI (putL ks (keyP p))).length d'], .bool true]) ∧
      QFr w w' B' A' S' (putH l p).length kc' (putL ks (keyP p)).length c' (layI (putL ks (keyP p))).length d' (putH l p) (putL ks (keyP p)) (layI (putL ks (keyP p))) ∧ Q w w' := by
  obtain ⟨hk, hn, hm, hcap, hrd, hkeys, hints⟩ := h
  subst hk hn
  have q0 := (((Q.refl w).alloc (Obj.cells #[.slice B l.length kc, .slice A ks.length c, .slice S m d] 28)).alloc (Obj.cells #[.int .i64 p.1, .int .i64 p.2] 30)).alloc (Obj.cells #[.slice none 0 0, .slice none 0 0, .slice none 0 0] 28)
  have HQ0 := Lib.hid q0
  have HR := Lib.hid (hrd.q q0)
  have HK := Lib.hid ((hkeys.q (Nat.le_refl _) q0).more q0.size)
  have HS := Lib.hid ((hints.q (Nat.le_refl _) q0).more q0.size)
  obtain ⟨W0, hW0⟩ : ∃ W0, W0 = ((w.alloc (Obj.cells #[.slice B l.length kc, .slice A ks.length c, .slice S m d] 28)).alloc (Obj.cells #[.int .i64 p.1, .int .i64 p.2] 30)).alloc (Obj.cells #[.slice none 0 0, .slice none 0 0, .slice none 0 0] 28) := ⟨_, rfl⟩
  have HW0 := Lib.hid hW0
  have o1 := (Ex.own_new8 w [.slice B l.length kc, .slice A ks.length c, .slice S m d] 28).q (((Q.refl _).alloc (Obj.cells #[.int .i64 p.1, .int .i64 p.2] 30)).alloc (Obj.cells #[.slice none 0 0, .slice none 0 0, .slice none 0 0] 28))
  have o2 := (Ex.own_new8 (w.alloc (Obj.cells #[.slice B l.length kc, .slice A ks.length c, .slice S m d] 28)) [.int .i64 p.1, .int .i64 p.2] 30).q ((Q.refl _).alloc (Obj.cells #[.slice none 0 0, .slice none 0 0, .slice none 0 0] 28))
  have o3 := Ex.own_new8 ((w.alloc (Obj.cells #[.slice B l.length kc, .slice A ks.length c, .slice S m d] 28)).alloc (Obj.cells #[.int .i64 p.1, .int .i64 p.2] 30)) [.slice none 0 0, .slice none 0 0, .slice none 0 0] 28
  rw [show (w.alloc (Obj.cells #[.slice B l.length kc, .slice A ks.length c, .slice S m d] 28)).heap.size = w.heap.size + 1 by simp] at o2
  rw [show ((w.alloc (Obj.cells #[.slice B l.length kc, .slice A ks.length c, .slice S m d] 28)).alloc (Obj.cells #[.int .i64 p.1, .int .i64 p.2] 30)).heap.size = w.heap.size + 2 by simp] at o3
  have hz : Hid (W0.heap.size = w.heap.size + 3) := by unfold Hid; rw [hW0]; simp
  have hle : w.heap.size + 2 < W0.heap.size := by have := hz.out; omega
  rw [← hW0] at o1 o2 o3 HQ0 HR HK HS
  have HO1 := Lib.hid o1
  have HO2 := Lib.hid o2
  have HO3 := Lib.hid o3
  have he : Ints W0 W0.heap.size (some ⟨w.heap.size + 1, 0, none⟩) (keyP p) := fun _ => ⟨_, rfl, o2.1, fun i x hx => by
    rw [Hs.add_zero_head]
    match i, hx with
    | 0, hx => obtain rfl : p.1 = x := by simpa [keyP] using hx
               exact (o2.2 0 _ rfl).1
    | 1, hx => obtain rfl : p.2 = x := by simpa [keyP] using hx
               exact (o2.2 1 _ rfl).1
    | (i + 2), hx => simp [keyP] at hx⟩
  have HE := Lib.hid he
  have CP : Hid (∀ W, Q W0 W → Calls Try.prog 25 #[.agg #[.slice A ks.length c, .slice S m d], .slice (some ⟨w.heap.size + 1, 0, none⟩) 2 2] W (Hs.PutPostF (putL ks (keyP p)) (layI (putL ks (keyP p))) (placeI ks (keyP p)) (newB ks (keyP p)) W)) := fun W q =>
    putF_any A S (some ⟨w.heap.size + 1, 0, none⟩) ks.length c m d 2 2 ks (keyP p) W rfl hm rfl ((HK.out.q (Nat.le_refl _) q).more q.size) ((HS.out.q (Nat.le_refl _) q).more q.size) ((HE.out.q (Nat.le_refl _) q).more q.size) hd hs (by simp [keyP]) hl ht (by simp [keyP])
  rw [hnew] at CP
  have HLn : Hid ((putH l p).length = l.length + 1) := putH_len l p
  obtain ⟨nl, hnl⟩ : ∃ nl, nl = putH l p := ⟨_, rfl⟩
  rw [← hnl] at HLn ⊢
  have HNl := Lib.hid hnl
  clear hnl
  generalize hK' : putL ks (keyP p) = ks' at *
  generalize hL' : layI ks' = sl' at *
  clear hK' hL' hrd hkeys hints q0 hW0 o1 o2 o3 he hnew hm hs
  go_enter Try.func11, Try.ntmps11
  go_upto_region 1 with fail
  rw [← HW0.out]
  go_cut [6, 8] (PtR W0 ks' sl' true)
  case first =>
    have c1 := (HO1.out.2 1 _ rfl).1
    have c2 := (HO1.out.2 2 _ rfl).1
    have hlt0 : w.heap.size < W0.heap.size := by omega
    have HXa : Hid (OwnC (W0.alloc (Obj.cells #[.slice none 0 0, .slice none 0 0] 26)).drew W0.heap.size [.slice none 0 0, .slice none 0 0]) := Ex.own_new8 W0 [.slice none 0 0, .slice none 0 0] 26
    have Q1 : Hid (Q W0 W0.drew) := (Q.refl W0).drew
    have Q2 : Hid (Q W0 (W0.alloc (Obj.cells #[.slice none 0 0, .slice none 0 0] 26)).drew) := ((Q.refl W0).alloc _).drew
    go_region_held3 (fun w' => w'.cell? ⟨w.heap.size, 1, none⟩ = some (.slice A ks.length c) ∧ w'.cell? ⟨w.heap.size, 2, none⟩ = some (.slice S m d))
      (first
        | go_keep
        | exact ⟨(p1.cell (p := ⟨w.heap.size, 1, none⟩) hlt0).trans c1, (p1.cell (p := ⟨w.heap.size, 2, none⟩) hlt0).trans c2⟩
        | exact ⟨((p1.alloc _).cell (p := ⟨w.heap.size, 1, none⟩) hlt0).trans c1, ((p1.alloc _).cell (p := ⟨w.heap.size, 2, none⟩) hlt0).trans c2⟩
        | exact ⟨(((p1.setCell (p := ⟨W0.heap.size, 0, none⟩) (Nat.le_refl _) _).setCell (p := ⟨W0.heap.size, 1, none⟩) (Nat.le_refl _) _).cell (p := ⟨w.heap.size, 1, none⟩) hlt0).trans c1, (((p1.setCell (p := ⟨W0.heap.size, 0, none⟩) (Nat.le_refl _) _).setCell (p := ⟨W0.heap.size, 1, none⟩) (Nat.le_refl _) _).cell (p := ⟨w.heap.size, 2, none⟩) hlt0).trans c2⟩)
      (first
        | (go_at_call 25; refine (CP.out _ (by first | with_reducible exact Q2.out | exact Q1.out)).mono ?_; rintro e w1 ⟨A', c', S', d', rfl, hC, q1, _⟩; have HC := Lib.hid hC; clear hC; have p1 : Q W0 w1 := (by first | exact Q2.out.trans q1 | exact Q1.out.trans q1); (first | (have bx := HXa.out.q q1; have y0 := (bx.2 0 _ rfl).1; have y1 := (bx.2 1 _ rfl).1; have z0 := (bx.2 0 _ rfl).2; have z1 := (bx.2 1 _ rfl).2) | skip)))
    · go_wp2_with fail
      go_meet
      exact ⟨w1.heap.size, W0.heap.size, w1.heap.size, A', S', c', d', rfl, rfl, Ex.own_new8 w1 [.slice A' ks'.length c', .slice S' sl'.length d'] _, p1.alloc _, fun W hW => HC.out W (fun p h1 h2 => (hW p h1 h2).trans (((Q.refl w1).alloc _).cell h2)), ⟨p1.size, Nat.le_refl _, by simp, by simp, .inr (Nat.le_refl _)⟩⟩
    · go_wp2_with fail
      go_meet
      have e1 : (W0.alloc (Obj.cells #[.slice none 0 0, .slice none 0 0] 26)).drew.heap.size = W0.heap.size + 1 := by show (W0.alloc _).heap.size = _; simp
      have hs1 : W0.heap.size < w1.heap.size := bx.1
      refine ⟨W0.heap.size, W0.heap.size + 1, w1.heap.size, A', S', c', d', rfl, rfl, own_two bx _ _, ((p1.setCell (p := ⟨W0.heap.size, 0, none⟩) (Nat.le_refl _) _).setCell (p := ⟨W0.heap.size, 1, none⟩) (Nat.le_refl _) _), fun W hW => HC.out W (fun p h1 h2 => (hW p (by have h1' : (W0.alloc (Obj.cells #[.slice none 0 0, .slice none 0 0] 26)).drew.heap.size ≤ p.block := h1; omega) h2).trans ?_), ⟨Nat.le_refl _, by omega, by simp, by simpa using hs1, .inl (by omega)⟩⟩
      have h1' : (W0.alloc (Obj.cells #[.slice none 0 0, .slice none 0 0] 26)).drew.heap.size ≤ p.block := h1
      exact (World.cell?_setCell_far _ _ _ _ (show W0.heap.size ≠ p.block by omega)).trans (World.cell?_setCell_far _ _ _ _ (show W0.heap.size ≠ p.block by omega))
  case rest =>
    obtain ⟨t, lo, hi, A', S', c', d', rfl, rfl, HT, HQ, HC, HF⟩ := hcut
    obtain ⟨f1, f2, f3, f4, f5⟩ := HF.out
    have hz0 := hz.out
    have h1c := HO1.out.q HQ.out
    have h2c := HO2.out.q HQ.out
    have HO3c := Lib.hid (HO3.out.q HQ.out)
    have HRc := Lib.hid (HR.out.q HQ.out)
    have g0 := (h1c.2 0 _ rfl).1
    have b0 := (h2c.2 0 _ rfl).1
    have b1 := (h2c.2 1 _ rfl).1
    have HO2c := Lib.hid h2c
    clear HO1 HO2 HO3 HR HK HS HF HE CP h1c h2c b0 b1
    have HTc := Lib.hid HT.out
    go_upto_region 5 with (go_at_call 27; refine (waiting_any B _ kc l _ rfl HRc.out (by omega)).mono ?_; rintro e w4 ⟨b, g, rfl, hbg, hrow, q4⟩; have HRow := Lib.hid hrow; have HQ4 := Lib.hid q4; have h24 := HO2c.out.q q4; have b0 := (h24.2 0 _ rfl).1; have b1 := (h24.2 1 _ rfl).1; clear hrow q4 h24)
    have CL := layR_any wc.heap.size b g (l.length + 1) l p w4 HRow.out (Nat.le_refl _) (by omega)
    rw [← HNl.out] at CL
    have CLa := Lib.hid CL
    clear CL g0
    go_upto_region 6 with (go_at_call 28; refine CLa.out.mono ?_; rintro e W5 ⟨rfl, r5, t5⟩; have HR5 := Lib.hid r5; have HT5 := Lib.hid t5; clear r5 t5)
    have hbc := HRow.out.lb
    have HQ5 : Hid (Q wc W5) := HT5.out.below HQ4.out hbc hbg
    have ht5 := HTc.out.q HQ5.out
    have h35 := HO3c.out.q HQ5.out
    have hwc := HQ.out.size
    have k1 := (ht5.2 0 _ rfl).1
    have k2 := (ht5.2 1 _ rfl).1
    have a0 := (h35.2 0 _ rfl).1
    have a1 := (h35.2 1 _ rfl).1
    have a2 := (h35.2 2 _ rfl).1
    have b0 := (h35.2 0 _ rfl).2
    have b1 := (h35.2 1 _ rfl).2
    have b2 := (h35.2 2 _ rfl).2
    have H35 := Lib.hid h35
    have n2 : w.heap.size + 1 + 1 ≠ t := by omega
    have k0 := HR5.out.b0
    have n3 : w.heap.size + 1 + 1 ≠ b := by omega
    clear ht5 h35 CLa
    go_region_held3 (fun w' => w'.cell? ⟨b, 0, none⟩ = some (.slice (some ⟨g, 0, none⟩) nl.length (l.length + 1)) ∧ w'.cell? ⟨t, 0, none⟩ = some (.slice A' ks'.length c') ∧ w'.cell? ⟨t, 1, none⟩ = some (.slice S' sl'.length d'))
      (first
        | go_keep
        | exact ⟨far3 k0 n3, far3 k1 n2, far3 k2 n2⟩)
      (first
        | (go_at_call 87; refine (allR_any b nl.length (l.length + 1) (some ⟨g, 0, none⟩) _ (by first | assumption | exact k0)).mono ?_; rintro e w6 ⟨rfl, rfl⟩))
    clear k0 k1 k2 a0 a1 a2
    go_wp2_with fail
    have e3 := own_three H35.out (.slice (some ⟨g, 0, none⟩) nl.length (l.length + 1)) (.slice A' ks'.length c') (.slice S' sl'.length d')
    have hrd := (((HR5.out.cells.far (b := w.heap.size + 1 + 1) (i := 0) (by omega) (.slice (some ⟨g, 0, none⟩) nl.length (l.length + 1))).far (b := w.heap.size + 1 + 1) (i := 1) (by omega) (.slice A' ks'.length c')).far (b := w.heap.size + 1 + 1) (i := 2) (by omega) (.slice S' sl'.length d'))
    have hq5 := HQ0.out.trans (HQ.out.trans HQ5.out)
    have hqf := ((hq5.setCell (p := ⟨w.heap.size + 1 + 1, 0, none⟩) (by show w.heap.size ≤ w.heap.size + 1 + 1; omega) (.slice (some ⟨g, 0, none⟩) nl.length (l.length + 1))).setCell (p := ⟨w.heap.size + 1 + 1, 1, none⟩) (by show w.heap.size ≤ w.heap.size + 1 + 1; omega) (.slice A' ks'.length c')).setCell (p := ⟨w.heap.size + 1 + 1, 2, none⟩) (by show w.heap.size ≤ w.heap.size + 1 + 1; omega) (.slice S' sl'.length d')
    have hsz : hi ≤ (((W5.setCell ⟨w.heap.size + 1 + 1, 0, none⟩ (.slice (some ⟨g, 0, none⟩) nl.length (l.length + 1))).setCell ⟨w.heap.size + 1 + 1, 1, none⟩ (.slice A' ks'.length c')).setCell ⟨w.heap.size + 1 + 1, 2, none⟩ (.slice S' sl'.length d')).heap.size := by
      have := HQ5.out.size
      simp only [World.size_setCell]
      omega
    have hag : ∀ p : Addr, lo ≤ p.block → p.block < hi → (((W5.setCell ⟨w.heap.size + 1 + 1, 0, none⟩ (.slice (some ⟨g, 0, none⟩) nl.length (l.length + 1))).setCell ⟨w.heap.size + 1 + 1, 1, none⟩ (.slice A' ks'.length c')).setCell ⟨w.heap.size + 1 + 1, 2, none⟩ (.slice S' sl'.length d')).cell? p = wc.cell? p := fun p h1 h2 => by
      refine Eq.trans ?_ (HQ5.out.cell (p := p) (by omega))
      exact (World.cell?_setCell_far _ _ _ _ (show w.heap.size + 1 + 1 ≠ p.block by omega)).trans ((World.cell?_setCell_far _ _ _ _ (show w.heap.size + 1 + 1 ≠ p.block by omega)).trans (World.cell?_setCell_far _ _ _ _ (show w.heap.size + 1 + 1 ≠ p.block by omega)))
    generalize ((W5.setCell ⟨w.heap.size + 1 + 1, 0, none⟩ (.slice (some ⟨g, 0, none⟩) nl.length (l.length + 1))).setCell ⟨w.heap.size + 1 + 1, 1, none⟩ (.slice A' ks'.length c')).setCell ⟨w.heap.size + 1 + 1, 2, none⟩ (.slice S' sl'.length d') = WF at *
    have e3d := e3.q ((Q.refl WF).drew)
    have hOwn := hrd.q ((Q.refl WF).drew)
    have hagd : ∀ p : Addr, lo ≤ p.block → p.block < hi → WF.drew.cell? p = wc.cell? p := fun p h1 h2 => hag p h1 h2
    have hqd := hqf.drew
    have hszd : hi ≤ WF.drew.heap.size := hsz
    clear hrd hqf hsz e3 hag
    generalize WF.drew = WD at *
    have y0 := (e3d.2 0 _ rfl).1
    have y1 := (e3d.2 1 _ rfl).1
    have y2 := (e3d.2 2 _ rfl).1
    have hfin : QFr w WD _ A' S' nl.length (l.length + 1) ks'.length c' sl'.length d' nl ks' sl' := fun W hs hW => by
      have hK := HC.out W (fun p h1 h2 => (hW p (by omega) (by omega)).trans (hagd p h1 h2))
      exact ⟨rfl, rfl, rfl, by have := HLn.out; omega, own_frC hOwn (by omega) hs hW, hK.1.more (by omega), hK.2.more (by omega)⟩
    refine bodyPost_ret (v := .tuple #[.agg #[.slice (some ⟨g, 0, none⟩) nl.length (l.length + 1), .slice A' ks'.length c', .slice S' sl'.length d'], .bool true]) (by simp [results, Try.f11, go_sem, y0, y1, y2]) rfl ?_
    exact ⟨_, _, _, _, _, _, rfl, hfin, hqd⟩
set_option maxRecDepth 100000 in
set_option maxHeartbeats 2000000 in
theorem putW_old (B A S : Option Addr) (k kc n c m d : Nat) (l : List PI) (ks : List (List Int)) (p : PI) (w : World) (h : QRd w B A S k kc n c m d l ks (layI ks)) (hd : Dist ks) (hnew : newB ks (keyP p) = false)
    (hll : l.length < 100000) (hl : ks.length ≤ 5000) (ht : ks.flatten.length ≤ 50000) (hs : ∀ k ∈ ks, k.length ≤ maxLen) :
    Calls Try.prog 11 #[.agg #[.slice B k kc, .slice A n c, .slice S m d], .agg #[.int .i64 p.1, .int .i64 p.2]] w fun e w' => ∃ B' kc' A' S' c' d', e = .returned (.tuple #[.agg #[.slice B' l.length kc', .slice A' (putL ks (keyP p)).length c', .slice S' (layI (putL ks (keyP p))).length d'], .bool false]) ∧
      QFr w w' B' A' S' l.length kc' (putL ks (keyP p)).length c' (layI (putL ks (keyP p))).length d' l (putL ks (keyP p)) (layI (putL ks (keyP p))) ∧ Q w w' := by
  obtain ⟨hk, hn, hm, hcap, hrd, hkeys, hints⟩ := h
  subst hk hn
  have q0 := (((Q.refl w).alloc (Obj.cells #[.slice B l.length kc, .slice A ks.length c, .slice S m d] 28)).alloc (Obj.cells #[.int .i64 p.1, .int .i64 p.2] 30)).alloc (Obj.cells #[.slice none 0 0, .slice none 0 0, .slice none 0 0] 28)
  have HQ0 := Lib.hid q0
  have HR := Lib.hid (hrd.q q0)
  have HK := Lib.hid ((hkeys.q (Nat.le_refl _) q0).more q0.size)
  have HS := Lib.hid ((hints.q (Nat.le_refl _) q0).more q0.size)
  obtain ⟨W0, hW0⟩ : ∃ W0, W0 = ((w.alloc (Obj.cells #[.slice B l.length kc, .slice A ks.length c, .slice S m d] 28)).alloc (Obj.cells #[.int .i64 p.1, .int .i64 p.2] 30)).alloc (Obj.cells #[.slice none 0 0, .slice none 0 0, .slice none 0 0] 28) := ⟨_, rfl⟩
  have HW0 := Lib.hid hW0
  have o1 := (Ex.own_new8 w [.slice B l.length kc, .slice A ks.length c, .slice S m d] 28).q (((Q.refl _).alloc (Obj.cells #[.int .i64 p.1, .int .i64 p.2] 30)).alloc (Obj.cells #[.slice none 0 0, .slice none 0 0, .slice none 0 0] 28))
  have o2 := (Ex.own_new8 (w.alloc (Obj.cells #[.slice B l.length kc, .slice A ks.length c, .slice S m d] 28)) [.int .i64 p.1, .int .i64 p.2] 30).q ((Q.refl _).alloc (Obj.cells #[.slice none 0 0, .slice none 0 0, .slice none 0 0] 28))
  have o3 := Ex.own_new8 ((w.alloc (Obj.cells #[.slice B l.length kc, .slice A ks.length c, .slice S m d] 28)).alloc (Obj.cells #[.int .i64 p.1, .int .i64 p.2] 30)) [.slice none 0 0, .slice none 0 0, .slice none 0 0] 28
  rw [show (w.alloc (Obj.cells #[.slice B l.length kc, .slice A ks.length c, .slice S m d] 28)).heap.size = w.heap.size + 1 by simp] at o2
  rw [show ((w.alloc (Obj.cells #[.slice B l.length kc, .slice A ks.length c, .slice S m d] 28)).alloc (Obj.cells #[.int .i64 p.1, .int .i64 p.2] 30)).heap.size = w.heap.size + 2 by simp] at o3
  have hz : Hid (W0.heap.size = w.heap.size + 3) := by unfold Hid; rw [hW0]; simp
  have hle : w.heap.size + 2 < W0.heap.size := by have := hz.out; omega
  rw [← hW0] at o1 o2 o3 HQ0 HR HK HS
  have HO1 := Lib.hid o1
  have HO2 := Lib.hid o2
  have HO3 := Lib.hid o3
  have he : Ints W0 W0.heap.size (some ⟨w.heap.size + 1, 0, none⟩) (keyP p) := fun _ => ⟨_, rfl, o2.1, fun i x hx => by
    rw [Hs.add_zero_head]
    match i, hx with
    | 0, hx => obtain rfl : p.1 = x := by simpa [keyP] using hx
               exact (o2.2 0 _ rfl).1
    | 1, hx => obtain rfl : p.2 = x := by simpa [keyP] using hx
               exact (o2.2 1 _ rfl).1
    | (i + 2), hx => simp [keyP] at hx⟩
  have HE := Lib.hid he
  have CP : Hid (∀ W, Q W0 W → Calls Try.prog 25 #[.agg #[.slice A ks.length c, .slice S m d], .slice (some ⟨w.heap.size + 1, 0, none⟩) 2 2] W (Hs.PutPostF (putL ks (keyP p)) (layI (putL ks (keyP p))) (placeI ks (keyP p)) (newB ks (keyP p)) W)) := fun W q =>
    putF_any A S (some ⟨w.heap.size + 1, 0, none⟩) ks.length c m d 2 2 ks (keyP p) W rfl hm rfl ((HK.out.q (Nat.le_refl _) q).more q.size) ((HS.out.q (Nat.le_refl _) q).more q.size) ((HE.out.q (Nat.le_refl _) q).more q.size) hd hs (by simp [keyP]) hl ht (by simp [keyP])
  rw [hnew] at CP
  generalize hK' : putL ks (keyP p) = ks' at *
  generalize hL' : layI ks' = sl' at *
  clear hK' hL' hrd hkeys hints q0 hW0 o1 o2 o3 he hnew hm hs
  go_enter Try.func11, Try.ntmps11
  go_upto_region 1 with fail
  rw [← HW0.out]
  go_cut [6, 8] (PtR W0 ks' sl' false)
  case first =>
    have c1 := (HO1.out.2 1 _ rfl).1
    have c2 := (HO1.out.2 2 _ rfl).1
    have hlt0 : w.heap.size < W0.heap.size := by omega
    have HXa : Hid (OwnC (W0.alloc (Obj.cells #[.slice none 0 0, .slice none 0 0] 26)).drew W0.heap.size [.slice none 0 0, .slice none 0 0]) := Ex.own_new8 W0 [.slice none 0 0, .slice none 0 0] 26
    have Q1 : Hid (Q W0 W0.drew) := (Q.refl W0).drew
    have Q2 : Hid (Q W0 (W0.alloc (Obj.cells #[.slice none 0 0, .slice none 0 0] 26)).drew) := ((Q.refl W0).alloc _).drew
    go_region_held3 (fun w' => w'.cell? ⟨w.heap.size, 1, none⟩ = some (.slice A ks.length c) ∧ w'.cell? ⟨w.heap.size, 2, none⟩ = some (.slice S m d))
      (first
        | go_keep
        | exact ⟨(p1.cell (p := ⟨w.heap.size, 1, none⟩) hlt0).trans c1, (p1.cell (p := ⟨w.heap.size, 2, none⟩) hlt0).trans c2⟩
        | exact ⟨((p1.alloc _).cell (p := ⟨w.heap.size, 1, none⟩) hlt0).trans c1, ((p1.alloc _).cell (p := ⟨w.heap.size, 2, none⟩) hlt0).trans c2⟩
        | exact ⟨(((p1.setCell (p := ⟨W0.heap.size, 0, none⟩) (Nat.le_refl _) _).setCell (p := ⟨W0.heap.size, 1, none⟩) (Nat.le_refl _) _).cell (p := ⟨w.heap.size, 1, none⟩) hlt0).trans c1, (((p1.setCell (p := ⟨W0.heap.size, 0, none⟩) (Nat.le_refl _) _).setCell (p := ⟨W0.heap.size, 1, none⟩) (Nat.le_refl _) _).cell (p := ⟨w.heap.size, 2, none⟩) hlt0).trans c2⟩)
      (first
        | (go_at_call 25; refine (CP.out _ (by first | with_reducible exact Q2.out | exact Q1.out)).mono ?_; rintro e w1 ⟨A', c', S', d', rfl, hC, q1, _⟩; have HC := Lib.hid hC; clear hC; have p1 : Q W0 w1 := (by first | exact Q2.out.trans q1 | exact Q1.out.trans q1); (first | (have bx := HXa.out.q q1; have y0 := (bx.2 0 _ rfl).1; have y1 := (bx.2 1 _ rfl).1; have z0 := (bx.2 0 _ rfl).2; have z1 := (bx.2 1 _ rfl).2) | skip)))
    · go_wp2_with fail
      go_meet
      exact ⟨w1.heap.size, W0.heap.size, w1.heap.size, A', S', c', d', rfl, rfl, Ex.own_new8 w1 [.slice A' ks'.length c', .slice S' sl'.length d'] _, p1.alloc _, fun W hW => HC.out W (fun p h1 h2 => (hW p h1 h2).trans (((Q.refl w1).alloc _).cell h2)), ⟨p1.size, Nat.le_refl _, by simp, by simp, .inr (Nat.le_refl _)⟩⟩
    · go_wp2_with fail
      go_meet
      have e1 : (W0.alloc (Obj.cells #[.slice none 0 0, .slice none 0 0] 26)).drew.heap.size = W0.heap.size + 1 := by show (W0.alloc _).heap.size = _; simp
      have hs1 : W0.heap.size < w1.heap.size := bx.1
      refine ⟨W0.heap.size, W0.heap.size + 1, w1.heap.size, A', S', c', d', rfl, rfl, own_two bx _ _, ((p1.setCell (p := ⟨W0.heap.size, 0, none⟩) (Nat.le_refl _) _).setCell (p := ⟨W0.heap.size, 1, none⟩) (Nat.le_refl _) _), fun W hW => HC.out W (fun p h1 h2 => (hW p (by have h1' : (W0.alloc (Obj.cells #[.slice none 0 0, .slice none 0 0] 26)).drew.heap.size ≤ p.block := h1; omega) h2).trans ?_), ⟨Nat.le_refl _, by omega, by simp, by simpa using hs1, .inl (by omega)⟩⟩
      have h1' : (W0.alloc (Obj.cells #[.slice none 0 0, .slice none 0 0] 26)).drew.heap.size ≤ p.block := h1
      exact (World.cell?_setCell_far _ _ _ _ (show W0.heap.size ≠ p.block by omega)).trans (World.cell?_setCell_far _ _ _ _ (show W0.heap.size ≠ p.block by omega))
  case rest =>
    obtain ⟨t, lo, hi, A', S', c', d', rfl, rfl, HT, HQ, HC, HF⟩ := hcut
    obtain ⟨f1, f2, f3, f4, f5⟩ := HF.out
    have hz0 := hz.out
    have h1c := HO1.out.q HQ.out
    have h2c := HO2.out.q HQ.out
    have HO3c := Lib.hid (HO3.out.q HQ.out)
    have HRc := Lib.hid (HR.out.q HQ.out)
    have g0 := (h1c.2 0 _ rfl).1
    clear HO1 HO2 HO3 HR HK HS HF HE CP h1c h2c
    go_upto_region 3 with fail
    have ht5 := HT.out
    have h35 := HO3c.out
    have hwc := HQ.out.size
    have hlt0 : w.heap.size < wc.heap.size := by omega
    have k1 := (ht5.2 0 _ rfl).1
    have k2 := (ht5.2 1 _ rfl).1
    have a0 := (h35.2 0 _ rfl).1
    have a1 := (h35.2 1 _ rfl).1
    have a2 := (h35.2 2 _ rfl).1
    have b0 := (h35.2 0 _ rfl).2
    have b1 := (h35.2 1 _ rfl).2
    have b2 := (h35.2 2 _ rfl).2
    have n2 : w.heap.size + 1 + 1 ≠ t := by omega
    have n0 : w.heap.size + 1 + 1 ≠ w.heap.size := by omega
    clear ht5 h35
    have ht1 : t < wc.heap.size := f4
    go_region_held3 (fun w' => w'.cell? ⟨w.heap.size, 0, none⟩ = some (.slice B l.length kc) ∧ w'.cell? ⟨t, 0, none⟩ = some (.slice A' ks'.length c') ∧ w'.cell? ⟨t, 1, none⟩ = some (.slice S' sl'.length d'))
      (first
        | go_keep
        | exact ⟨(HQ5.out.cell (p := ⟨w.heap.size, 0, none⟩) hlt0).trans g0, (HQ5.out.cell (p := ⟨t, 0, none⟩) ht1).trans k1, (HQ5.out.cell (p := ⟨t, 1, none⟩) ht1).trans k2⟩
        | exact ⟨far3 ((HQ5.out.cell (p := ⟨w.heap.size, 0, none⟩) hlt0).trans g0) n0, far3 ((HQ5.out.cell (p := ⟨t, 0, none⟩) ht1).trans k1) n2, far3 ((HQ5.out.cell (p := ⟨t, 1, none⟩) ht1).trans k2) n2⟩)
      (first
        | (go_at_call 26; refine (cloneQ_any B _ kc l _ rfl (by exact HRc.out) (by omega)).mono ?_; rintro e W5 ⟨v5, rfl, own5, q5⟩; obtain ⟨B5, c5, rfl, hc5, _⟩ := own_read own5; have HOw5 := Lib.hid own5; have HQ5 : Hid (Q wc W5) := (Q.refl wc).drew.trans q5; clear own5; have x0 := ((HO3c.out.q HQ5.out).2 0 _ rfl).1; have x1 := ((HO3c.out.q HQ5.out).2 1 _ rfl).1; have x2 := ((HO3c.out.q HQ5.out).2 2 _ rfl).1; have x3 := ((HO3c.out.q HQ5.out).2 0 _ rfl).2; have x4 := ((HO3c.out.q HQ5.out).2 1 _ rfl).2; have x5 := ((HO3c.out.q HQ5.out).2 2 _ rfl).2))
    have H35 := Lib.hid (HO3c.out.q HQ5.out)
    clear k1 k2 a0 a1 a2 b0 b1 b2 x0 x1 x2 x3 x4 x5 g0
    go_wp2_with fail
    have e3 := own_three H35.out (.slice B5 l.length c5) (.slice A' ks'.length c') (.slice S' sl'.length d')
    have hb5 : ∀ u : Nat, u < wc.heap.size → (Value.slice B5 l.length c5).ownBlock = none ∨ (Value.slice B5 l.length c5).ownBlock ≠ some u := fun u hu => by
      cases hB : (Value.slice B5 l.length c5).ownBlock with
      | none => exact .inl rfl
      | some k => exact .inr (fun e => by cases e; have h5 : wc.heap.size ≤ u := (HOw5.out.lt u hB).1; omega)
    have own7 := World.ownsRow.kept (World.ownsRow.kept (World.ownsRow.kept HOw5.out (setCell_grown W5 (w.heap.size + 1 + 1) 0 (.slice B5 l.length c5)) (hb5 _ (by omega))) (setCell_grown _ (w.heap.size + 1 + 1) 1 (.slice A' ks'.length c')) (hb5 _ (by omega))) (setCell_grown _ (w.heap.size + 1 + 1) 2 (.slice S' sl'.length d')) (hb5 _ (by omega))
    have hq5 := HQ0.out.trans (HQ.out.trans HQ5.out)
    have hqf := ((hq5.setCell (p := ⟨w.heap.size + 1 + 1, 0, none⟩) (by show w.heap.size ≤ w.heap.size + 1 + 1; omega) (.slice B5 l.length c5)).setCell (p := ⟨w.heap.size + 1 + 1, 1, none⟩) (by show w.heap.size ≤ w.heap.size + 1 + 1; omega) (.slice A' ks'.length c')).setCell (p := ⟨w.heap.size + 1 + 1, 2, none⟩) (by show w.heap.size ≤ w.heap.size + 1 + 1; omega) (.slice S' sl'.length d')
    have hsz : hi ≤ (((W5.setCell ⟨w.heap.size + 1 + 1, 0, none⟩ (.slice B5 l.length c5)).setCell ⟨w.heap.size + 1 + 1, 1, none⟩ (.slice A' ks'.length c')).setCell ⟨w.heap.size + 1 + 1, 2, none⟩ (.slice S' sl'.length d')).heap.size := by
      have := HQ5.out.size
      simp only [World.size_setCell]
      omega
    have hag : ∀ p : Addr, lo ≤ p.block → p.block < hi → (((W5.setCell ⟨w.heap.size + 1 + 1, 0, none⟩ (.slice B5 l.length c5)).setCell ⟨w.heap.size + 1 + 1, 1, none⟩ (.slice A' ks'.length c')).setCell ⟨w.heap.size + 1 + 1, 2, none⟩ (.slice S' sl'.length d')).cell? p = wc.cell? p := fun p h1 h2 => by
      refine Eq.trans ?_ (HQ5.out.cell (p := p) (by omega))
      exact (World.cell?_setCell_far _ _ _ _ (show w.heap.size + 1 + 1 ≠ p.block by omega)).trans ((World.cell?_setCell_far _ _ _ _ (show w.heap.size + 1 + 1 ≠ p.block by omega)).trans (World.cell?_setCell_far _ _ _ _ (show w.heap.size + 1 + 1 ≠ p.block by omega)))
    generalize ((W5.setCell ⟨w.heap.size + 1 + 1, 0, none⟩ (.slice B5 l.length c5)).setCell ⟨w.heap.size + 1 + 1, 1, none⟩ (.slice A' ks'.length c')).setCell ⟨w.heap.size + 1 + 1, 2, none⟩ (.slice S' sl'.length d') = WF at *
    have e3d := e3
    have hOwn := own7
    have hagd : ∀ p : Addr, lo ≤ p.block → p.block < hi → WF.cell? p = wc.cell? p := fun p h1 h2 => hag p h1 h2
    have hqd := hqf
    have hszd : hi ≤ WF.heap.size := hsz
    have y0 := (e3d.2 0 _ rfl).1
    have y1 := (e3d.2 1 _ rfl).1
    have y2 := (e3d.2 2 _ rfl).1
    have hfin : QFr w WF _ A' S' l.length (c5) ks'.length c' sl'.length d' l ks' sl' := fun W hs hW => by
      have hK := HC.out W (fun p h1 h2 => (hW p (by omega) (by omega)).trans (hagd p h1 h2))
      exact ⟨rfl, rfl, rfl, hc5, own_frR hOwn (by show w.heap.size ≤ wc.heap.size; have := HQ.out.size; omega) hs hW, hK.1.more (by omega), hK.2.more (by omega)⟩
    refine bodyPost_ret (v := .tuple #[.agg #[.slice B5 l.length c5, .slice A' ks'.length c', .slice S' sl'.length d'], .bool false]) (by simp [results, Try.f11, go_sem, y0, y1, y2]) rfl ?_
    exact ⟨_, _, _, _, _, _, rfl, hfin, hqd⟩
end Go.Proofs.Ytjgbheidkjgncaa.Wk

namespace Go.Proofs.Ytjgbheidkjgncaa.Wk
open Go.RowKit Kit Rw
open Go.Proofs.Ytjgbheidkjgncaa.St
open Go.Proofs.Ytjgbheidkjgncaa.Hs (Keys Ints layI putL placeI newB Dist atI findR_any rightT_any sizeN)
set_option maxRecDepth 100000 in
set_option maxHeartbeats 1000000 in
theorem isHeap_true (A : Option Addr) (n c : Nat) (l : List PI) (w : World) (hn : n = l.length) (hr : Rds w w.heap.size A (cellsQ l)) (hl : l.length < 1000000) (hh : Heap l) :
    Calls Try.prog 35 #[.slice A n c] w fun e w' => e = .returned (.bool true) ∧ Q w w' := by
  have CW := Lib.hid (waiting_any A n c l w hn hr hl)
  have HH := Lib.hid hh
  clear hr hh hn
  go_enter Try.func35, Try.ntmps35
  go_wp2_with (go_at_call 27; refine CW.out.mono ?_; rintro e w1 ⟨b, g, rfl, hbg, hrow, q1⟩; have HRow := Lib.hid hrow; have HQ1 := Lib.hid q1; clear hrow q1)
  go_loopw [4] (fun v wr => ∃ k : Nat, v = .int .i64 k ∧ 1 ≤ k ∧ k ≤ l.length + 1 ∧ Hid (Q w1 wr)) (fun v _ => l.length + 1 - (intOf v).toNat)
  case atStart => exact ⟨1, rfl, Nat.le_refl _, by omega, Q.refl _⟩
  case round =>
    obtain ⟨k, rfl, hk1, hk, HQ⟩ := hrel
    have CL := Lib.hid (lenR_any b l.length (l.length + 1) (some ⟨g, 0, none⟩) wr (HRow.out.q HQ.out).b0)
    by_cases hlt : k < l.length
    · have hc : ((((k - 1) / 2 : Nat)) : Int) = ((k : Int) - 1) / 2 := by omega
      have CS := lessR_any w.heap.size b g (l.length + 1) k ((k - 1) / 2) l wr (HRow.out.q HQ.out) hlt (by omega)
      rw [hc, decide_eq_false (HH.out k (by omega) hlt)] at CS
      have HCS := Lib.hid CS
      clear CS hc
      go_wp2_with (first
        | (go_at_call 82; refine CL.out.mono ?_; rintro e w2 ⟨rfl, e2⟩; subst e2)
        | (go_at_call 83; refine HCS.out.mono ?_; rintro e w3 ⟨rfl, q3⟩))
      go_roundw
      case rel => exact ⟨k + 1, by go_num, by omega, by omega, HQ.out.trans q3⟩
      case measure => simp [intOf]; omega
    · go_wp2_with (go_at_call 82; refine CL.out.mono ?_; rintro e w2 ⟨rfl, e2⟩; subst e2)
      go_ret
      exact ⟨rfl, HQ1.out.trans HQ.out⟩
set_option maxHeartbeats 1000000 in
theorem isNone_any (A : Option Addr) (c : Nat) (w : World) : Calls Try.prog 52 #[.slice A 2 c] w fun e w' => e = .returned (.bool false) ∧ w' = w := by
  go_enter Try.func52, Try.ntmps52
  go_wp2_with fail
  go_ret
  exact ⟨rfl, rfl⟩
set_option maxRecDepth 100000 in
set_option maxHeartbeats 1000000 in
theorem indexK_none (A : Option Addr) (n c : Nat) (ks : List (List Int)) (w : World) (hn : n = ks.length) (hk : Keys w w.heap.size A ks) (h2 : ∀ k ∈ ks, k.length = 2) (hl : ks.length ≤ 5000) :
    Calls Try.prog 63 #[.slice A n c, .func (.func 52) #[] #[]] w fun e w' => e = .returned (.int .i64 (-1)) ∧ w' = w := by
  subst hn
  have HK := Lib.hid hk
  have H2 := Lib.hid h2
  clear hk h2
  go_enter Try.func63, Try.ntmps63
  go_wp2_with fail
  go_loopw [8] (fun v wr => ∃ k : Nat, v = .int .i64 k ∧ k ≤ ks.length ∧ w = wr) (fun v _ => ks.length - (intOf v).toNat)
  case atStart => exact ⟨0, rfl, Nat.zero_le _, rfl⟩
  case round =>
    obtain ⟨k, rfl, hk, rfl⟩ := hrel
    by_cases hlt : k < ks.length
    · obtain ⟨ad, rfl, _, a, c1, _, hc, _⟩ := HK.out.at_ hlt
      rw [H2.out _ (List.getElem_mem hlt)] at hc
      go_wp2_with (go_at_call 52; refine (isNone_any a c1 w).mono ?_; rintro e w2 ⟨rfl, e2⟩; subst e2)
      go_roundw
      case rel => exact ⟨k + 1, by go_num, by omega, by trivial⟩
      case measure => simp [intOf]; omega
    · go_wp2_with fail
      go_ret
      exact ⟨rfl, rfl⟩
set_option maxRecDepth 100000 in
set_option maxHeartbeats 1000000 in
theorem arePairs_true (A : Option Addr) (n c : Nat) (ks : List (List Int)) (w : World) (hn : n = ks.length) (hk : Keys w w.heap.size A ks) (h2 : ∀ k ∈ ks, k.length = 2) (hl : ks.length ≤ 5000) :
    Calls Try.prog 37 #[.slice A n c] w fun e w' => e = .returned (.bool true) ∧ w' = w := by
  have CI := Lib.hid (indexK_none A n c ks w hn hk h2 hl)
  have CC : Hid (Calls Try.prog 53 #[.slice A n c, .func (.func 52) #[] #[]] w fun e w' => e = .returned (.bool false) ∧ w' = w) := by
    clear hn hk h2 hl
    unfold Hid
    go_enter Try.func53, Try.ntmps53
    go_wp2_with (go_at_call 63; refine CI.out.mono ?_; rintro e w2 ⟨rfl, e2⟩; subst e2)
    go_ret
    exact ⟨rfl, rfl⟩
  clear hn hk h2 hl CI
  go_enter Try.func37, Try.ntmps37
  go_wp2_with (go_at_call 53; refine CC.out.mono ?_; rintro e w2 ⟨rfl, e2⟩; subst e2)
  go_ret
  exact ⟨rfl, rfl⟩
end Go.Proofs.Ytjgbheidkjgncaa.Wk

namespace Go.Proofs.Ytjgbheidkjgncaa.Wk
open Go.RowKit Kit Rw
open Go.Proofs.Ytjgbheidkjgncaa.St
open Go.Proofs.Ytjgbheidkjgncaa.Hs (Keys Ints layI putL placeI newB Dist atI findR_any rightT_any sizeN)
def OwnB (w : World) (g n : Nat) (f : Nat → Bool) : Prop := g < w.heap.size ∧ ∀ i, i < n → w.cell? ⟨g, i, none⟩ = some (.bool (f i)) ∧ w.frozen? ⟨g, i, none⟩ = false
theorem OwnB.set {w : World} {g n : Nat} {f : Nat → Bool} (h : OwnB w g n f) {s : Nat} : OwnB (w.setCell ⟨g, s, none⟩ (.bool true)) g n (fun i => f i || (s == i)) := by
  refine ⟨by simp [World.setCell]; exact h.1, fun i hi => ?_⟩
  rw [World.frozen?_setCell]
  by_cases e : s = i
  · subst e
    refine ⟨?_, (h.2 s hi).2⟩
    rw [World.cell?_setCell_same' _ _ _ (by rw [(h.2 s hi).1]; rfl)]
    simp
  · have e2 := World.cell?_setCell_other (w := w) (a := ⟨g, s, none⟩) (b := ⟨g, i, none⟩) (v := .bool true) (by intro h; injection h with _ h; exact e h)
    refine ⟨?_, (h.2 i hi).2⟩
    rw [e2, (h.2 i hi).1]
    simp [e]
theorem OwnB.made (w : World) (n : Nat) (t : TypeId) : OwnB (w.alloc (.cells (madeCells #[.bool false] n) t)) w.heap.size n (fun _ => false) := by
  refine ⟨by simp, fun i hi => ⟨?_, World.frozen?_alloc_at _ _ _ _ rfl⟩⟩
  rw [cell_of_row _ _ _ _ _ _ (heap_alloc_new w _)]
  simp [madeCells, hi, Nat.mod_one]
theorem boolInfo : (Try.prog.info? 4).map (fun i => (i.zero, i.size, i.bytes)) = some (some (.bool false), 1, 1) := by kernel_rfl
theorem make_bools (n : Nat) (hn : n ≤ 100000000) (u : World) : (Instr.makeSlice 88 (.int .i64 (n : Int)) (.int .i64 (n : Int))).run Try.prog u = .ok (.slice (some ⟨u.heap.size, 0, none⟩) n n) (u.alloc (.cells (madeCells #[.bool false] n) 4)) := by
  obtain ⟨i0, hi, hz0, hz1, hz2⟩ := info_parts boolInfo
  have h := run_make (P := Try.prog) u 88 4 i0 _ Try.underlying88 hi hz0 .i64 .i64 (n : Int) (n : Int) (by omega) (by omega) (by rw [hz2]; omega) (by omega)
  rw [hz1, Nat.mul_one] at h
  exact h

theorem OwnB.q {w w' : World} {g n : Nat} {f : Nat → Bool} (h : OwnB w g n f) (q : Q w w') : OwnB w' g n f :=
  ⟨Nat.lt_of_lt_of_le h.1 q.size, fun i hi => ⟨(q.cell (p := ⟨g, i, none⟩) h.1).trans (h.2 i hi).1, (q.frozen (p := ⟨g, i, none⟩) h.1).trans (h.2 i hi).2⟩⟩
/-- the place of what waits, and that no other one that waits has it -/
theorem place_at {l : List PI} {ks : List (List Int)} {sl : List Int} (h : QOk l ks sl) {k : Nat} (hk : k < l.length) : ∃ j : Nat, j < ks.length ∧ atI ks (keyP (gt l k)) = (j : Int) ∧ ∀ i, i < k → atI ks (keyP (gt l i)) ≠ (j : Int) := by
  have hm : gt l k ∈ l := by rw [gt_at hk]; exact List.getElem_mem hk
  rcases Hs.atI_cases ks (keyP (gt l k)) with ⟨h1, _⟩ | ⟨j, h1, h2⟩
  · have := h.seen _ hm; omega
  · refine ⟨j, (List.getElem?_eq_some_iff.1 h1).1, h2, fun i hi e => ?_⟩
    rcases Hs.atI_cases ks (keyP (gt l i)) with ⟨h3, _⟩ | ⟨j', h3, h4⟩
    · omega
    · have hj : j' = j := by omega
      subst hj
      rw [h1] at h3
      have e3 := keyP_inj (Option.some.inj h3)
      have := nodup_take.1 h.nd k hk
      refine this ?_
      rw [e3, gt_at (show i < l.length by omega)]
      exact List.mem_take_iff_getElem.2 ⟨i, by omega, rfl⟩
set_option maxRecDepth 100000 in
set_option maxHeartbeats 2000000 in
theorem wereSeen_true (B A S : Option Addr) (k0 kc n c m d : Nat) (l : List PI) (ks : List (List Int)) (w : World) (h : QRd w B A S k0 kc n c m d l ks (layI ks)) (ok : QOk l ks (layI ks)) (hll : l.length ≤ 100000) (hl : ks.length ≤ 5000) :
    Calls Try.prog 38 #[.slice B k0 kc, .agg #[.slice A n c, .slice S m d]] w fun e w' => e = .returned (.bool true) ∧ Q w w' := by
  obtain ⟨hk, hn, hm, _, hrd, hkeys, hints⟩ := h
  subst hk hn
  have mk := fun u => make_bools ks.length (by omega) u
  have HOk := Lib.hid ok
  have HM := Lib.hid hm
  have q0 := (Q.refl w).alloc (Obj.cells #[.slice A ks.length c, .slice S m d] 26)
  have q1 := q0.alloc (Obj.cells (madeCells #[.bool false] ks.length) 4)
  have HQ1 := Lib.hid q1
  have hbm := OwnB.made (w.alloc (Obj.cells #[.slice A ks.length c, .slice S m d] 26)) ks.length 4
  rw [show (w.alloc (Obj.cells #[.slice A ks.length c, .slice S m d] 26)).heap.size = w.heap.size + 1 by simp] at hbm
  have HBM := Lib.hid hbm
  have ho := (Ex.own_new8 w [.slice A ks.length c, .slice S m d] 26).q ((Q.refl _).alloc (Obj.cells (madeCells #[.bool false] ks.length) 4))
  have HO := Lib.hid ho
  have HR := Lib.hid hrd
  have HK := Lib.hid hkeys
  have HS := Lib.hid hints
  have hz : Hid (((w.alloc (Obj.cells #[.slice A ks.length c, .slice S m d] 26)).alloc (Obj.cells (madeCells #[.bool false] ks.length) 4)).heap.size = w.heap.size + 2) := by unfold Hid; simp
  clear hrd hkeys hints q0 q1 hbm ho hm ok
  go_enter Try.func38, Try.ntmps38
  go_upto_region 2 with fail
  generalize (w.alloc (Obj.cells #[.slice A ks.length c, .slice S m d] 26)).alloc (Obj.cells (madeCells #[.bool false] ks.length) 4) = W1 at *
  go_wp2_with fail
  go_loopw [15] (fun v wr => ∃ (k : Nat) (f : Nat → Bool), v = .int .i64 k ∧ k ≤ l.length ∧ Hid (OwnB wr (w.heap.size + 1) ks.length f) ∧ Hid (∀ j, f j = true → ∃ i, i < k ∧ atI ks (keyP (gt l i)) = (j : Int)) ∧ Hid (Two (w.heap.size + 1) (w.heap.size + 1) W1 wr)) (fun v _ => l.length - (intOf v).toNat)
  case atStart => exact ⟨0, fun _ => false, rfl, Nat.zero_le _, HBM, Lib.hid (fun j hj => by cases hj), Two.refl _ _ _⟩
  case round =>
    obtain ⟨k, f, rfl, hk, HB, HF, HT⟩ := hrel
    by_cases hlt : k < l.length
    · obtain ⟨j, hj, hpl, hno⟩ := place_at HOk.out hlt
      have hq : Q w wr := HT.out.below HQ1.out (by omega) (by omega)
      have hfj : f j = false := by
        cases hf : f j with
        | false => rfl
        | true => obtain ⟨i, hi, e⟩ := HF.out j hf; exact absurd e (hno i hi)
      have HFn : Hid (∀ j', (fun i => f i || (j == i)) j' = true → ∃ i, i < k + 1 ∧ atI ks (keyP (gt l i)) = (j' : Int)) := fun j' h => by
        rw [Bool.or_eq_true] at h
        rcases h with h | h
        · obtain ⟨i, hi, e⟩ := HF.out j' h
          exact ⟨i, by omega, e⟩
        · exact ⟨k, by omega, by rw [hpl]; congr 1; simpa using h⟩
      obtain ⟨ad, rfl, hab, ca, cb⟩ := pair_at (HR.out.q hq) hlt
      have q2 := (Q.refl wr).alloc (Obj.cells #[.int .i64 l[k].1, .int .i64 l[k].2] 30)
      have HQ2 := Lib.hid q2
      have ox := Ex.own_new8 wr [.int .i64 l[k].1, .int .i64 l[k].2] 30
      have he : Ints (wr.alloc (Obj.cells #[.int .i64 l[k].1, .int .i64 l[k].2] 30)) (wr.alloc (Obj.cells #[.int .i64 l[k].1, .int .i64 l[k].2] 30)).heap.size (some ⟨wr.heap.size, 0, none⟩) (keyP l[k]) := fun _ => ⟨_, rfl, ox.1, fun i x hx => by
        rw [Hs.add_zero_head]
        match i, hx with
        | 0, hx => obtain rfl : l[k].1 = x := by simpa [keyP] using hx
                   exact (ox.2 0 _ rfl).1
        | 1, hx => obtain rfl : l[k].2 = x := by simpa [keyP] using hx
                   exact (ox.2 1 _ rfl).1
        | (i + 2), hx => simp [keyP] at hx⟩
      have HE := Lib.hid he
      have HSk := Lib.hid ((HT.out.own HO.out (by omega) (by omega)).q q2)
      have HB2 := Lib.hid (OwnB.q HB.out q2)
      have hq2 := hq.trans q2
      rw [gt_at hlt] at hpl
      have CF : Hid (∀ U, Q (wr.alloc (Obj.cells #[.int .i64 l[k].1, .int .i64 l[k].2] 30)) U → Calls Try.prog 54 #[.agg #[.slice A ks.length c, .slice S m d], .slice (some ⟨wr.heap.size, 0, none⟩) 2 2] U fun e w' => e = .returned (.int .i64 (j : Int)) ∧ Q U w') := fun U q => by
        have := findR_any A S (some ⟨wr.heap.size, 0, none⟩) ks.length c m d 2 2 ks (keyP l[k]) U rfl HM.out rfl ((HK.out.q (Nat.le_refl _) (hq2.trans q)).more (hq2.trans q).size) ((HS.out.q (Nat.le_refl _) (hq2.trans q)).more (hq2.trans q).size) ((HE.out.q (Nat.le_refl _) q).more q.size) HOk.out.dist (fun x hx => by rw [HOk.out.two x hx]; unfold maxLen; omega) (by simp [keyP, maxLen]) hl
        rwa [hpl] at this
      have HTw := Lib.hid HT
      have hj0 : ¬ (j : Int) < 0 := by omega
      have hjk : (j : Int) < (ks.length : Int) := by omega
      clear he ox q2 hno hq2 hpl HE HB
      go_upto_region 5 with fail
      generalize wr.alloc (Obj.cells #[.int .i64 l[k].1, .int .i64 l[k].2] 30) = W2 at *
      have k0 := (HSk.out.2 0 _ rfl).1
      have k1 := (HSk.out.2 1 _ rfl).1
      go_still_tail 2, (by kernel_rfl)
      change wpList _ _ _ _ _ W2.drew
      have q3 : Q W2 W2.drew := (Q.refl W2).drew
      generalize W2.drew = W3 at *
      clear ca cb
      go_upto_region 6 with (go_at_call 54; refine (CF.out _ q3).mono ?_; rintro e w4 ⟨rfl, q4⟩)
      have hb4 := OwnB.q HB2.out (q3.trans q4)
      obtain ⟨b0, b1⟩ := hb4.2 j hj
      rw [hfj] at b0
      have HB4 := Lib.hid hb4
      have HT4 := Lib.hid ((HTw.out.out.q HQ2.out).q (q3.trans q4))
      clear hb4 k0 k1 q3 q4 HSk hfj
      go_wp2_with fail
      go_roundw
      case rel => exact ⟨k + 1, fun i => f i || (j == i), by go_num, by omega, HB4.out.set, HFn, HT4.out.trans (Two.grown (setCell_grown _ _ _ _))⟩
      case measure => simp [intOf]; omega
    · go_wp2_with fail
      go_ret
      exact ⟨rfl, HT.out.below HQ1.out (by omega) (by omega)⟩
set_option maxRecDepth 100000 in
set_option maxHeartbeats 2000000 in
theorem rightW_true (B A S : Option Addr) (k0 kc n c m d : Nat) (l : List PI) (ks : List (List Int)) (w : World) (h : QRd w B A S k0 kc n c m d l ks (layI ks)) (ok : QOk l ks (layI ks)) (hll : l.length ≤ 100000) (hl : ks.length ≤ 5000) :
    Calls Try.prog 21 #[.agg #[.slice B k0 kc, .slice A n c, .slice S m d]] w fun e w' => e = .returned (.bool true) ∧ Q w w' := by
  have q0 := (Q.refl w).alloc (Obj.cells #[.slice B k0 kc, .slice A n c, .slice S m d] 28)
  have HQ0 := Lib.hid q0
  have HX := Lib.hid (Ex.own_new8 w [.slice B k0 kc, .slice A n c, .slice S m d] 28)
  have hs : ∀ x ∈ ks, x.length ≤ maxLen := fun x hx => by rw [ok.two x hx]; unfold maxLen; omega
  have C1 := Lib.hid (fun (U : World) (q : Q w U) => isHeap_true B k0 kc l U h.hk (h.q q).rd (by omega) ok.heap)
  have C2 := Lib.hid (fun (U : World) (q : Q w U) => rightT_any A S n c m d ks U h.hn (by rw [h.hm, Hs.layI_length]) (h.q q).keys (h.q q).ints ok.dist hs hl)
  have C3 := Lib.hid (fun (U : World) (q : Q w U) => arePairs_true A n c ks U h.hn (h.q q).keys ok.two hl)
  have C4 := Lib.hid (fun (U : World) (q : Q w U) => wereSeen_true B A S k0 kc n c m d l ks U (h.q q) ok hll hl)
  clear h ok hs q0
  go_enter Try.func21, Try.ntmps21
  go_upto_region 1 with fail
  generalize w.alloc (Obj.cells #[.slice B k0 kc, .slice A n c, .slice S m d] 28) = W1 at *
  have k0 := (HX.out.2 0 _ rfl).1
  have k1 := (HX.out.2 1 _ rfl).1
  have k2 := (HX.out.2 2 _ rfl).1
  go_wp2_with (first
    | (go_at_call 35; refine (C1.out _ HQ0.out).mono ?_; rintro e w2 ⟨rfl, q2⟩; have k3 := ((HX.out.q q2).2 1 _ rfl).1; have k4 := ((HX.out.q q2).2 2 _ rfl).1)
    | (go_at_call 36; refine (C2.out _ (HQ0.out.trans q2)).mono ?_; rintro e w3 ⟨rfl, q3⟩; have k5 := ((HX.out.q (q2.trans q3)).2 0 _ rfl).1; have k6 := ((HX.out.q (q2.trans q3)).2 1 _ rfl).1; have k7 := ((HX.out.q (q2.trans q3)).2 2 _ rfl).1)
    | (go_at_call 37; refine (C3.out _ ((HQ0.out.trans q2).trans q3)).mono ?_; rintro e w4 ⟨rfl, e4⟩; subst e4)
    | (go_at_call 38; refine (C4.out _ ((HQ0.out.trans q2).trans q3)).mono ?_; rintro e w5 ⟨rfl, q5⟩))
  go_ret
  exact ⟨rfl, ((HQ0.out.trans q2).trans q3).trans q5⟩
end Go.Proofs.Ytjgbheidkjgncaa.Wk
