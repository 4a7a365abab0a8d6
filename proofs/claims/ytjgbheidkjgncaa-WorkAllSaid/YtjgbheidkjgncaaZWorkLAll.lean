/-
  WorkAll: of pairs that are put into nothing all come, each once, in order: for every row of pairs.
-/
import Derived.Test.YtjgbheidkjgncaaPh
import Derived.Test.YtjgbheidkjgncaaPi
import Derived.Test.YtjgbheidkjgncaaPj
import Derived.Test.YtjgbheidkjgncaaRows
import Derived.OpenShut
import Derived.RegionTactic
import Derived.Deep.CutBlock
namespace Go.Proofs.Ytjgbheidkjgncaa.workAll
open Go.ChangeShapes Go.WideShapes Go.RowKit Kit Rw Wk
open Go.Proofs.Ytjgbheidkjgncaa.St
open Go.Proofs.Ytjgbheidkjgncaa.Hs (Keys Ints layI putL placeI newB Dist atI)
theorem QFr.q {w w' w'' : World} {B A S : Option Addr} {k kc n c m d : Nat} {l : List PI} {ks : List (List Int)} {sl : List Int} (h : QFr w w' B A S k kc n c m d l ks sl) (q : Q w' w'') : QFr w w'' B A S k kc n c m d l ks sl :=
  fun W hs hW => h W (Nat.le_trans q.size hs) fun p h1 h2 => (hW p h1 (Nat.lt_of_lt_of_le h2 q.size)).trans (q.cell h2)
/-- behind a pair is put: the answer in a box of its own -/
def PutR (wr : World) (l : List PI) (ks : List (List Int)) (b : Bool) (u v : Value) (wc : World) : Prop :=
  ∃ (t : Nat) (B A S : Option Addr) (k kc n c m d : Nat), u = .pointer (some ⟨t, 0, none⟩) ∧ v = .bool b ∧ Hid (OwnC wc t [.slice B k kc, .slice A n c, .slice S m d]) ∧ Hid (QFr wr wc B A S k kc n c m d l ks (layI ks)) ∧ Hid (Q wr wc) ∧ Hid (wr.heap.size ≤ t)
set_option maxRecDepth 100000 in
set_option maxHeartbeats 4000000 in
theorem walk {R0 : Option Addr} {n0 c0 : Nat} {l : List PI} (w : World) (hn : n0 = l.length) (hr : Rds w w.heap.size R0 (cellsQ l)) : Calls Try.prog 4 #[.slice R0 n0 c0] w fun e w' => e = .returned (.bool true) ∧ Q w w' := by
  have Hn := Lib.hid hn
  have HR := Lib.hid hr
  clear hr
  subst hn
  go_enter Try.func4, Try.ntmps4
  go_upto_region 2 with (go_at_call 8; refine (shown11_any _).mono ?_; rintro e y1 ⟨rfl, qs⟩)
  have HQ := Lib.hid qs
  clear qs
  by_cases h40 : l.length ≤ 40
  rotate_left
  · have g40 : (40 : Int) < (l.length : Int) := by omega
    go_wp2_with fail
    go_ret
    exact ⟨rfl, HQ.out⟩
  have g40 : ¬ (40 : Int) < (l.length : Int) := by omega
  go_upto_region 5 with (go_at_call 16; refine (newW_any _).mono ?_; rintro e w1 ⟨S0, m0, d0, rfl, hr0, q0⟩; have HR0 := Lib.hid hr0; have HQ0 := Lib.hid q0; clear hr0 q0)
  clear g40
  have qn := (Q.refl w1).alloc (Obj.cells #[.slice none 0 0, .slice none 0 0, .slice S0 m0 d0] 28)
  have HB4 := Lib.hid (Ex.own_new8 w1 [.slice none 0 0, .slice none 0 0, .slice S0 m0 d0] 28)
  have HRy := Lib.hid (HR0.out.self.q qn)
  have HQy := Lib.hid ((HQ.out.trans HQ0.out).trans qn)
  have hby : w1.heap.size < (w1.alloc (Obj.cells #[.slice none 0 0, .slice none 0 0, .slice S0 m0 d0] 28)).heap.size := by simp
  have hbw : w.heap.size ≤ w1.heap.size := (HQ.out.trans HQ0.out).size
  generalize hY : w1.alloc (Obj.cells #[.slice none 0 0, .slice none 0 0, .slice S0 m0 d0] 28) = y at *
  clear hY qn HR0 HQ0 HQ
  generalize hb4 : w1.heap.size = b4 at *
  clear hb4
  go_wp2_with fail
  go_loopw [5, 6] (fun u v wr => ∃ (k : Nat) (L : List PI) (ks : List (List Int)) (B0 A0 S0 : Option Addr) (k0 kc0 n0 c0 m0 d0 : Nat), v = .int .i64 (k : Int) ∧ k ≤ l.length ∧ Hid (AllOk L ks (laidK l k)) ∧ Hid (wr.ownsRow y.heap.size 30 2 u (laidK l k).length (cellsQ (laidK l k))) ∧ Hid (OwnC wr b4 [.slice B0 k0 kc0, .slice A0 n0 c0, .slice S0 m0 d0]) ∧ Hid (QRd wr B0 A0 S0 k0 kc0 n0 c0 m0 d0 L ks (layI ks)) ∧ Hid (Two b4 b4 y wr) ∧ Hid (ks.length ≤ k)) (fun _ v _ => l.length - (intOf v).toNat)
  case atStart => exact ⟨0, [], [], none, none, S0, 0, 0, 0, 0, m0, d0, by go_num, Nat.zero_le _, all_none, World.ownsRow_nil _ _ _ _, HB4, HRy, Two.refl _ _ _, Nat.le_refl _⟩
  case round =>
    clear HB4 HRy
    obtain ⟨k, L, ks, B0, A0, S0, k0, kc0, n0, c0, m0, d0, rfl, hk, HAl, HOw, HB, HRq, HT, HKl⟩ := hrel
    have hqr : Q w wr := HT.out.below HQy.out hbw hbw
    have hsl := HKl.out
    have hLl : L.length ≤ k := by rw [HAl.out.perm.length_eq]; exact laid_len l k hk
    have hys : y.heap.size ≤ wr.heap.size := HT.out.size
    by_cases hlt : k < l.length
    · obtain ⟨ad, e0, hab, ca, cb⟩ := pair_at (HR.out.q hqr) hlt
      subst e0
      have hls := laid_succ l k hlt
      have hp : l[k] = l[k] := rfl
      obtain ⟨p, hp⟩ : ∃ p, p = l[k] := ⟨_, rfl⟩
      rw [← hp] at ca cb hls
      have HPl := Lib.hid hp
      obtain ⟨p1, p2⟩ := p
      have CP := Lib.hid (fun (U : World) (q : Q wr U) => putF_all _ _ _ _ _ _ _ _ _ L ks p1 p2 U (HRq.out.q q) HAl.out.ok (by omega) (by omega))
      have hnew := HAl.out.new_is (p1, p2)
      have HAp := HAl.out.put (p1, p2)
      rw [← hls] at HAp
      have HAp := Lib.hid HAp
      have hkp : (putK ks (p1, p2)).length ≤ k + 1 := by rw [putK_len]; split <;> omega
      have HKp := Lib.hid hkp
      have HLs := Lib.hid hls
      obtain ⟨A5, c5, e5, hc5, hr5⟩ := own_read HOw.out
      subst e5
      have CI := fun (U : World) (q : Q wr U) => refIn10_any A5 (laidK l k).length c5 (laidK l k) (p1, p2) U rfl (hr5.q q) (by have := laid_len l k hk; omega)
      have hlk : (laidK l k).length ≤ 40 := by have := laid_len l k hk; omega
      generalize laidK l k = a at *
      generalize newB ks (keyP (p1, p2)) = b at *
      generalize decide ((p1, p2) ∈ a) = bi at *
      have hbb : (b == bi) = false := by rw [hnew]; cases bi <;> rfl
      generalize hal : a.length = al at *
      have Hal := Lib.hid hal
      clear hal
      have HCI := Lib.hid CI
      have hkl' : (k : Int) < (l.length : Int) := by omega
      clear hnew hp CI hls hkp hr5
      have ca0 := ca
      have cb0 := cb
      have hz4 : b4 < wr.heap.size := by omega
      go_upto_region 9 with fail
      go_cut [7, 8] (PutR wr (putQ L ks (p1, p2)) (putK ks (p1, p2)) b)
      case first =>
        have x0 := (HB.out.2 0 _ rfl).1
        have x1 := (HB.out.2 1 _ rfl).1
        have x2 := (HB.out.2 2 _ rfl).1
        have Q1 : Hid (Q wr wr.drew) := (Q.refl wr).drew
        have Q2 : Hid (Q wr (wr.alloc (Obj.cells #[.slice none 0 0, .slice none 0 0, .slice none 0 0] 28)).drew) := ((Q.refl wr).alloc _).drew
        have HXa : Hid (OwnC (wr.alloc (Obj.cells #[.slice none 0 0, .slice none 0 0, .slice none 0 0] 28)).drew wr.heap.size [.slice none 0 0, .slice none 0 0, .slice none 0 0]) := Ex.own_new8 wr [.slice none 0 0, .slice none 0 0, .slice none 0 0] 28
        go_region_held3 (fun w' => w'.cell? ⟨b4, 0, none⟩ = some (.slice B0 k0 kc0) ∧ w'.cell? ⟨b4, 1, none⟩ = some (.slice A0 n0 c0) ∧ w'.cell? ⟨b4, 2, none⟩ = some (.slice S0 m0 d0) ∧ w'.cell? (ad.add (k * 2)) = some (.int .i64 p1) ∧ w'.cell? ⟨(ad.add (k * 2)).block, (ad.add (k * 2)).off + 1, none⟩ = some (.int .i64 p2))
          (first
            | go_keep
            | exact ⟨(r1.cell (p := ⟨b4, 0, none⟩) hz4).trans x0, (r1.cell (p := ⟨b4, 1, none⟩) hz4).trans x1, (r1.cell (p := ⟨b4, 2, none⟩) hz4).trans x2, (r1.cell (p := ad.add (k * 2)) (by rw [add_block]; exact hab)).trans ca0, (r1.cell (p := ⟨(ad.add (k * 2)).block, (ad.add (k * 2)).off + 1, none⟩) (by rw [add_block]; exact hab)).trans cb0⟩
            | exact ⟨((r1.alloc _).cell (p := ⟨b4, 0, none⟩) hz4).trans x0, ((r1.alloc _).cell (p := ⟨b4, 1, none⟩) hz4).trans x1, ((r1.alloc _).cell (p := ⟨b4, 2, none⟩) hz4).trans x2, ((r1.alloc _).cell (p := ad.add (k * 2)) (by rw [add_block]; exact hab)).trans ca0, ((r1.alloc _).cell (p := ⟨(ad.add (k * 2)).block, (ad.add (k * 2)).off + 1, none⟩) (by rw [add_block]; exact hab)).trans cb0⟩
            | exact ⟨far3 ((r1.cell (p := ⟨b4, 0, none⟩) hz4).trans x0) (show wr.heap.size ≠ b4 by omega), far3 ((r1.cell (p := ⟨b4, 1, none⟩) hz4).trans x1) (show wr.heap.size ≠ b4 by omega), far3 ((r1.cell (p := ⟨b4, 2, none⟩) hz4).trans x2) (show wr.heap.size ≠ b4 by omega), far3 ((r1.cell (p := ad.add (k * 2)) (by rw [add_block]; exact hab)).trans ca0) (show wr.heap.size ≠ (ad.add (k * 2)).block by rw [add_block]; omega), far3 ((r1.cell (p := ⟨(ad.add (k * 2)).block, (ad.add (k * 2)).off + 1, none⟩) (by rw [add_block]; exact hab)).trans cb0) (show wr.heap.size ≠ (ad.add (k * 2)).block by rw [add_block]; omega)⟩)
          (first
            | (go_at_call 11; refine (CP.out _ (by first | with_reducible exact Q2.out | exact Q1.out)).mono ?_; rintro e w5 ⟨B, k', kc, A, n, c, S, m, d, rfl, hfr, q5⟩; have HFr := Lib.hid hfr; clear hfr; have r1 : Q wr w5 := (by first | exact Q2.out.trans q5 | exact Q1.out.trans q5); (first | (have bx := HXa.out.q q5; have y0 := (bx.2 0 _ rfl).1; have y1' := (bx.2 1 _ rfl).1; have y2 := (bx.2 2 _ rfl).1; have z0 := (bx.2 0 _ rfl).2; have z1 := (bx.2 1 _ rfl).2; have z2 := (bx.2 2 _ rfl).2) | skip)))
        · go_wp2_with fail
          go_meet
          exact ⟨w5.heap.size, B, A, S, k', kc, n, c, m, d, rfl, rfl, Ex.own_new8 w5 [.slice B k' kc, .slice A n c, .slice S m d] _, QFr.q (w := wr) HFr.out ((Q.refl w5).alloc (Obj.cells #[.slice B k' kc, .slice A n c, .slice S m d] 28)), r1.alloc _, r1.size⟩
        · go_wp2_with fail
          go_meet
          have e1 : (wr.alloc (Obj.cells #[.slice none 0 0, .slice none 0 0, .slice none 0 0] 28)).drew.heap.size = wr.heap.size + 1 := by show (wr.alloc _).heap.size = _; simp
          refine ⟨wr.heap.size, B, A, S, k', kc, n, c, m, d, rfl, rfl, own_three bx _ _ _, fun W hs hW => HFr.out W (by simpa [World.setCell] using hs) (fun p h1 h2 => (hW p (by have h1' : (wr.alloc (Obj.cells #[.slice none 0 0, .slice none 0 0, .slice none 0 0] 28)).drew.heap.size ≤ p.block := h1; omega) (by simpa [World.setCell] using h2)).trans ?_), ((r1.setCell (p := ⟨wr.heap.size, 0, none⟩) (Nat.le_refl _) _).setCell (p := ⟨wr.heap.size, 1, none⟩) (Nat.le_refl _) _).setCell (p := ⟨wr.heap.size, 2, none⟩) (Nat.le_refl _) _, Nat.le_refl _⟩
          have h1' : (wr.alloc (Obj.cells #[.slice none 0 0, .slice none 0 0, .slice none 0 0] 28)).drew.heap.size ≤ p.block := h1
          exact (World.cell?_setCell_far _ _ _ _ (show wr.heap.size ≠ p.block by omega)).trans ((World.cell?_setCell_far _ _ _ _ (show wr.heap.size ≠ p.block by omega)).trans (World.cell?_setCell_far _ _ _ _ (show wr.heap.size ≠ p.block by omega)))
      case rest =>
        obtain ⟨t, B', A', S', k', kc', n', c', m', d', rfl, rfl, HBt, HFr, Hqc, Htz⟩ := hcut
        have ca1 := (Hqc.out.cell (p := ad.add (k * 2)) (by rw [add_block]; exact hab)).trans ca0
        have cb1 := (Hqc.out.cell (p := ⟨(ad.add (k * 2)).block, (ad.add (k * 2)).off + 1, none⟩) (by rw [add_block]; exact hab)).trans cb0
        clear ca cb CP
        have htz := Htz.out
        go_upto_region 12 with (go_at_call 15; refine (HCI.out _ Hqc.out).mono ?_; rintro e w6 ⟨rfl, q6⟩)
        clear ca1 cb1 HCI
        have HBt6 := HBt.out.q q6
        have HB6 := HB.out.q (Hqc.out.trans q6)
        have x0 := (HBt6.2 0 _ rfl).1
        have x1 := (HBt6.2 1 _ rfl).1
        have x2 := (HBt6.2 2 _ rfl).1
        have v0 := (HB6.2 0 _ rfl).1
        have v1 := (HB6.2 1 _ rfl).1
        have v2 := (HB6.2 2 _ rfl).1
        have f0 := (HB6.2 0 _ rfl).2
        have f1 := (HB6.2 1 _ rfl).2
        have f2 := (HB6.2 2 _ rfl).2
        have HBn := Lib.hid (own_three HB6 (.slice B' k' kc') (.slice A' n' c') (.slice S' m' d'))
        have HTn := Lib.hid (((HT.out.q (Hqc.out.trans q6)).trans (Two.grown (g := b4) (setCell_grown w6 b4 0 (.slice B' k' kc')))).trans ((Two.grown (g := b4) (setCell_grown _ b4 1 (.slice A' n' c'))).trans (Two.grown (g := b4) (setCell_grown _ b4 2 (.slice S' m' d')))))
        have hO6 := row_kept HOw.out (Hqc.out.trans q6) (Nat.le_refl _)
        have hne : ∀ v : Value, v = .slice A5 al c5 → v.ownBlock = none ∨ v.ownBlock ≠ some b4 := fun v hv => by
          subst hv
          cases hB : (Value.slice A5 al c5).ownBlock with
          | none => exact .inl rfl
          | some u => exact .inr (fun e => by cases e; have h5 : y.heap.size ≤ b4 := (HOw.out.lt b4 hB).1; omega)
        have HOn := Lib.hid (World.ownsRow.kept (World.ownsRow.kept (World.ownsRow.kept hO6 (setCell_grown w6 b4 0 (.slice B' k' kc')) (hne _ rfl)) (setCell_grown _ b4 1 (.slice A' n' c')) (hne _ rfl)) (setCell_grown _ b4 2 (.slice S' m' d')) (hne _ rfl))
        have hag : ∀ p : Addr, wr.heap.size ≤ p.block → p.block < wc.heap.size → (((w6.setCell ⟨b4, 0, none⟩ (.slice B' k' kc')).setCell ⟨b4, 1, none⟩ (.slice A' n' c')).setCell ⟨b4, 2, none⟩ (.slice S' m' d')).cell? p = wc.cell? p := fun p h1 h2 =>
          (World.cell?_setCell_far _ _ _ _ (show b4 ≠ p.block by omega)).trans ((World.cell?_setCell_far _ _ _ _ (show b4 ≠ p.block by omega)).trans ((World.cell?_setCell_far _ _ _ _ (show b4 ≠ p.block by omega)).trans (q6.cell h2)))
        have HAg := Lib.hid hag
        have hs7 : wc.heap.size ≤ (((w6.setCell ⟨b4, 0, none⟩ (.slice B' k' kc')).setCell ⟨b4, 1, none⟩ (.slice A' n' c')).setCell ⟨b4, 2, none⟩ (.slice S' m' d')).heap.size := by
          simp only [World.size_setCell]; exact q6.size
        have Hs7 := Lib.hid hs7
        clear hag hO6 hne HB6 HBt6 hs7
        go_upto_region 13 with fail
        generalize ((w6.setCell ⟨b4, 0, none⟩ (.slice B' k' kc')).setCell ⟨b4, 1, none⟩ (.slice A' n' c')).setCell ⟨b4, 2, none⟩ (.slice S' m' d') = W7 at *
        clear x0 x1 x2 v0 v1 v2 f0 f1 f2 q6
        have hq7 : Q w W7 := HTn.out.below HQy.out hbw hbw
        obtain ⟨ad', e0, _, ca, cb⟩ := pair_at (HR.out.q hq7) hlt
        obtain rfl : ad = ad' := by cases e0; rfl
        rw [← HPl.out] at ca cb
        obtain ⟨A6, c6, e6, hc6, hr6⟩ := own_read HOn.out
        obtain ⟨rfl, rfl⟩ : A5 = A6 ∧ c5 = c6 := by cases e6; exact ⟨rfl, rfl⟩
        have CL := refLayP_any A5 al c5 a (p1, p2) W7 Hal.out.symm (by rw [Hal.out]; exact hc6) hr6 (by rw [Hal.out]; omega)
        rw [← HLs.out] at CL
        have HCL := Lib.hid CL
        clear e0 e6 hc6 hr6 CL
        go_wp2_with (go_at_call 17; refine HCL.out.mono ?_; rintro e w8 ⟨v8, rfl, own8, q8⟩; have HOw8 := Lib.hid own8; clear own8)
        go_roundw
        case rel =>
          refine ⟨k + 1, putQ L ks (p1, p2), putK ks (p1, p2), B', A', S', k', kc', n', c', m', d', by go_num, by omega, HAp, row_kept HOw8.out (Q.refl w8) HTn.out.size, HBn.out.q q8, HFr.out w8 (Nat.le_trans Hs7.out q8.size) (fun p h1 h2 => (q8.cell (Nat.lt_of_lt_of_le h2 Hs7.out)).trans (HAg.out p h1 h2)), HTn.out.q q8, HKp.out⟩
        case measure => simp [intOf]; omega
    · have hlk : ¬ (k : Int) < (l.length : Int) := by omega
      have hll := laid_len l k hk
      have HDr := Lib.hid HAl.out.drain
      have HRi := Lib.hid HAl.out.rise
      obtain ⟨A5, c5, e5, hc5, hr5⟩ := own_read HOw.out
      subst e5
      clear hc5 hr5
      generalize laidK l k = a at *
      generalize hal : a.length = al at *
      have Hal := Lib.hid hal
      have hal40 : al ≤ 40 := by omega
      clear hal hlt
      obtain ⟨we, rfl⟩ : ∃ we, we = wr := ⟨wr, rfl⟩
      go_upto_region 14 with fail
      clear hlk
      go_wp2_with fail
      go_loopw [9] (fun v wr => ∃ (i : Nat) (L2 : List PI) (B0 A0 S0 : Option Addr) (k0 kc0 n0 c0 m0 d0 : Nat), v = .int .i64 (i : Int) ∧ i ≤ al ∧ Hid (Drain L2 ks a i) ∧ Hid (OwnC wr b4 [.slice B0 k0 kc0, .slice A0 n0 c0, .slice S0 m0 d0]) ∧ Hid (QRd wr B0 A0 S0 k0 kc0 n0 c0 m0 d0 L2 ks (layI ks)) ∧ Hid (Two b4 b4 we wr)) (fun v _ => al - (intOf v).toNat)
      case atStart => exact ⟨0, L, B0, A0, S0, k0, kc0, n0, c0, m0, d0, by go_num, Nat.zero_le _, HDr, HB, HRq, Two.refl _ _ _⟩
      case round =>
        clear HB HRq
        obtain ⟨i, L2, B0, A0, S0, k0, kc0, n0, c0, m0, d0, rfl, hi, HD, HB, HRq, HT2⟩ := hrel
        have hL2 : L2.length ≤ 40 := by rw [HD.out.perm.length_eq, List.length_drop, Hal.out]; omega
        have CN := nextF_all _ _ _ _ _ _ _ _ _ L2 ks wr HRq.out HD.out.ok (by omega) (by omega)
        have x0 := (HB.out.2 0 _ rfl).1
        have x1 := (HB.out.2 1 _ rfl).1
        have x2 := (HB.out.2 2 _ rfl).1
        by_cases hlt : i < al
        · have hlk : (i : Int) < (al : Int) := by omega
          obtain ⟨h1, h2, h3⟩ := HD.out.next HRi.out (i := i) (by rw [Hal.out]; exact hlt)
          have H3 := Lib.hid h3
          have H2 := Lib.hid h2
          rw [decide_eq_true h1] at CN
          have CN := Lib.hid CN
          have hO2 := World.ownsRow.kept (row := some b4) (row_kept HOw.out (Q.refl _) (Nat.le_refl _)) ⟨HT2.out.os, HT2.out.tape, HT2.out.output, HT2.out.size, fun j hj hb => HT2.out.block j hj (fun e => hb (by rw [e])) (fun e => hb (by rw [e]))⟩ (by
            cases hB : (Value.slice A5 al c5).ownBlock with
            | none => exact .inl rfl
            | some u => exact .inr (fun e => by cases e; have h5 : y.heap.size ≤ b4 := (HOw.out.lt b4 hB).1; omega))
          have HO2 := Lib.hid hO2
          have hz4 : b4 < wr.heap.size := HB.out.1
          have Hsz := Lib.hid HT2.out.size
          clear h1 h2 h3 hO2
          go_upto_region 18 with (go_at_call 12; refine CN.out.mono ?_; rintro e w5 ⟨Bn, kn, kcn, An, nn, cn, Sn, mn, dn, rfl, hfr, q5⟩; have HFr := Lib.hid hfr; have HQ5 := Lib.hid q5; clear hfr q5)
          have HBt := (Ex.own_new8 w5 [.slice Bn kn kcn, .slice An nn cn, .slice Sn mn dn] 28).q ((Q.refl _).alloc (Obj.cells #[.int .i64 (nextX L2).1, .int .i64 (nextX L2).2] 30))
          have hx := Ex.own_new8 (w5.alloc (Obj.cells #[.slice Bn kn kcn, .slice An nn cn, .slice Sn mn dn] 28)) [.int .i64 (nextX L2).1, .int .i64 (nextX L2).2] 30
          rw [show (w5.alloc (Obj.cells #[.slice Bn kn kcn, .slice An nn cn, .slice Sn mn dn] 28)).heap.size = w5.heap.size + 1 by simp] at hx
          have hqn := HQ5.out.trans (((Q.refl w5).alloc (Obj.cells #[.slice Bn kn kcn, .slice An nn cn, .slice Sn mn dn] 28)).alloc (Obj.cells #[.int .i64 (nextX L2).1, .int .i64 (nextX L2).2] 30))
          have HQn := Lib.hid hqn
          have HFn := Lib.hid (QFr.q HFr.out (((Q.refl w5).alloc (Obj.cells #[.slice Bn kn kcn, .slice An nn cn, .slice Sn mn dn] 28)).alloc (Obj.cells #[.int .i64 (nextX L2).1, .int .i64 (nextX L2).2] 30)))
          have HBt := Lib.hid HBt
          have HX := Lib.hid hx
          clear x0 x1 x2 hx hqn HFr HQ5
          generalize (w5.alloc (Obj.cells #[.slice Bn kn kcn, .slice An nn cn, .slice Sn mn dn] 28)).alloc (Obj.cells #[.int .i64 (nextX L2).1, .int .i64 (nextX L2).2] 30) = w6 at *
          obtain ⟨A6, c6, e6, hc6, hr6⟩ := own_read HO2.out
          obtain ⟨rfl, rfl⟩ : A5 = A6 ∧ c5 = c6 := by cases e6; exact ⟨rfl, rfl⟩
          obtain ⟨ad5, e5, _, ca, cb⟩ := pair_at (hr6.q HQn.out) (k := i) (by rw [Hal.out]; exact hlt)
          subst e5
          rw [← H2.out] at ca cb
          clear H2
          generalize nextX L2 = x at *
          obtain ⟨x1, x2⟩ := x
          have v0 := (HX.out.2 0 _ rfl).1
          have v1 := (HX.out.2 1 _ rfl).1
          have hne : ∀ u, (binOp .neq 30 (.agg #[.int .i64 x1, .int .i64 x2]) (.agg #[.int .i64 x1, .int .i64 x2])).run Try.prog u = .ok (.bool false) u := fun u => by
            have := run_neq_pair u (x1, x2) (x1, x2)
            rwa [(eqP_iff (x1, x2) (x1, x2)).2 rfl] at this
          clear e6 hc6 hr6
          go_region
          have qd : Q w6 w6.drew := (Q.refl w6).drew
          generalize w6.drew = w7 at *
          clear ca cb v0 v1 hne
          go_upto_region 20 with fail
          have HBt7 := HBt.out.q qd
          have HB7 := HB.out.q (HQn.out.trans qd)
          have x0 := (HBt7.2 0 _ rfl).1
          have x1' := (HBt7.2 1 _ rfl).1
          have x2' := (HBt7.2 2 _ rfl).1
          have v0 := (HB7.2 0 _ rfl).1
          have v1 := (HB7.2 1 _ rfl).1
          have v2 := (HB7.2 2 _ rfl).1
          have f0 := (HB7.2 0 _ rfl).2
          have f1 := (HB7.2 1 _ rfl).2
          have f2 := (HB7.2 2 _ rfl).2
          have HBn := Lib.hid (own_three HB7 (.slice Bn kn kcn) (.slice An nn cn) (.slice Sn mn dn))
          have HTn := Lib.hid (((HT2.out.q (HQn.out.trans qd)).trans (Two.grown (g := b4) (setCell_grown w7 b4 0 (.slice Bn kn kcn)))).trans ((Two.grown (g := b4) (setCell_grown _ b4 1 (.slice An nn cn))).trans (Two.grown (g := b4) (setCell_grown _ b4 2 (.slice Sn mn dn)))))
          have HRn := Lib.hid (HFn.out (((w7.setCell ⟨b4, 0, none⟩ (.slice Bn kn kcn)).setCell ⟨b4, 1, none⟩ (.slice An nn cn)).setCell ⟨b4, 2, none⟩ (.slice Sn mn dn)) (by simp only [World.size_setCell]; exact qd.size) (fun p h1 h2 =>
            (World.cell?_setCell_far _ _ _ _ (show b4 ≠ p.block by omega)).trans ((World.cell?_setCell_far _ _ _ _ (show b4 ≠ p.block by omega)).trans ((World.cell?_setCell_far _ _ _ _ (show b4 ≠ p.block by omega)).trans (qd.cell h2)))))
          clear HBt7 HB7 qd
          go_wp2_with fail
          go_roundw
          case rel => exact ⟨i + 1, nextQ L2, Bn, An, Sn, kn, kcn, nn, cn, mn, dn, by go_num, by omega, H3, HBn, HRn, HTn⟩
          case measure => simp [intOf]; omega
        · have hlk : ¬ (i : Int) < (al : Int) := by omega
          have h1 := HD.out.done (by rw [Hal.out]; omega)
          rw [decide_eq_false h1] at CN
          have CN := Lib.hid CN
          clear h1
          have hqe : Q w wr := HT2.out.below hqr hbw hbw
          go_wp2_with (go_at_call 12; refine CN.out.mono ?_; rintro e w5 ⟨Bn, kn, kcn, An, nn, cn, Sn, mn, dn, rfl, hfr, q5⟩; clear hfr)
          go_ret
          exact ⟨rfl, ((hqe.trans q5).alloc _).alloc _⟩

set_option maxRecDepth 100000 in
theorem lifted (os : Os) (started : os.Started) (H : Type) (enc : TypeId × Value → H) :
    ReturnsInHanded {} Try.checked os 4 .any (Rows.workAllSpec.pre6 enc Try.prog Try.f4 Rows.workAllRow.domain false) (Rows.workAllSpec.post enc Try.prog Try.f4 false true false false) := by
  refine returnsInHanded_of_change (C := Try.checked) own started (by kernel_rfl) Try.func4
    (ChangeSpec.witness6 (enc := enc) (C := Try.checked) false ⟨#[], #[.slice none 0 0], []⟩ 8 (by kernel_rfl) (by kernel_rfl) (by kernel_rfl) (by kernel_rfl)) ?_
  intro W base args ds gs before hval0 hW hcnd _
  have hval : ∀ (j : Nat) t v, Try.f4.params[j]? = some t → args[j]? = some v → Value.okWide Try.prog W .any base t v := hval0
  have hW' := hW
  obtain ⟨p, q, hA0, hV, rfl, hfz, hnd⟩ := hW
  have hA : DataW.TrodAll enc Try.prog W 0 (fun _ => true) true Try.f4.params.toList args.toList ds p := hA0
  rw [Try.params4] at hA hval
  obtain ⟨v0, vs0, d0, ds0, p0, q0, hargs, rfl, rfl, h0, r0⟩ := trodAll_cons hA
  obtain ⟨rfl, rfl, rfl⟩ := trodAll_nil r0
  obtain rfl : args = #[v0] := by cases args; simp_all
  obtain ⟨rfl, rfl⟩ := trodVars_none hV
  obtain ⟨A, n, c, l, rfl, hn, _, hr, _⟩ := open_pairs (hval 0 22 v0 rfl rfl) h0
  clear hA0 hval0
  refine (walk W hn hr).mono fun e W' ⟨he, hg⟩ => ?_
  subst he
  exact ⟨_, rfl, post_law laid (by rw [Try.params4]; decide +kernel) rfl rfl (by kernel_rfl) Try.underlying4 hW' hg⟩

/-- THE STATEMENT -/
theorem proved : Rows.WorkAllSaid :=
  OpenClaim.holds_of_wide 4 Try.f4 rfl rfl rfl rfl rfl rfl rfl ⟨rfl, rfl, rfl, rfl, rfl⟩ rfl rfl rfl rfl rfl (by kernel_rfl) Try.func4 (by kernel_rfl)
    (of_decide_eq_true (by kernel_rfl)) (by unfold Func.isWrapper; first | (rw [if_pos (by decide +kernel)]; kernel_rfl) | (rw [if_neg (by decide +kernel)]; exact ⟨rfl, rfl⟩))
    (fun os started H enc _ => lifted os started H enc)
end Go.Proofs.Ytjgbheidkjgncaa.workAll
