/-
  What the proofs lean on, part 9 of 10.
-/
import Derived.Test.YtjgbheidkjgncaaPc
import Derived.Test.YtjgbheidkjgncaaPf
import Derived.Test.YtjgbheidkjgncaaPh
namespace Go.Proofs.Ytjgbheidkjgncaa.Wk
open Go.RowKit Kit Rw
open Go.Proofs.Ytjgbheidkjgncaa.St
open Go.Proofs.Ytjgbheidkjgncaa.Hs (Keys Ints layI atI rightB refAt_any)
theorem cells_take (l : List PI) (k : Nat) : cellsQ (l.take k) = (cellsQ l).take (k * 2) := by
  induction l generalizing k with
  | nil => simp [cellsQ]
  | cons a l ih =>
    cases k with
    | zero => simp [cellsQ]
    | succ k =>
      rw [List.take_succ_cons, show (k + 1) * 2 = k * 2 + 1 + 1 by omega]
      simp only [cellsQ, List.take_succ_cons, ih]
theorem Rds.cut {w : World} {B : Nat} {A : Option Addr} {l : List PI} (h : Rds w B A (cellsQ l)) (k : Nat) : Rds w B A (cellsQ (l.take k)) := fun h0 => by
  rw [cells_take] at h0 ⊢
  have hl : 0 < (cellsQ l).length := by rw [List.length_take] at h0; omega
  obtain ⟨ad, e, hb, hc⟩ := h hl
  exact ⟨ad, e, hb, fun j v hv => hc j v (by rw [List.getElem?_take] at hv; split at hv; exact hv; cases hv)⟩
theorem slice_to (A : Option Addr) (n c k : Nat) (h : k ≤ c) (u : World) : (Instr.slice 22 (.slice A n c) none (some (.int .i64 (k : Int))) none).run Try.prog u = .ok (.slice A k c) u := by
  obtain ⟨i0, hi, hz0, hz1, hz2⟩ := info_parts pairInfo
  simp [Instr.slice, run_underlying Try.underlying22, Instr.sliceBounds, Instr.sliceBound, asIntOf, sizeOf, typeInfo, hi, h, Addr.add]
def okJ (l : List PI) (k j : Nat) : Bool := !(decide (j < l.length) && decide (ltP (gt l j) (gt l k)))
theorem okAt_is (l : List PI) (ks : List (List Int)) (k : Nat) : okAt l ks k = (!decide (atI ks (keyP (gt l k)) < 0) && !decide (gt l k ∈ l.take k) && okJ l k (2 * k + 1) && okJ l k (2 * k + 2)) := rfl
set_option maxRecDepth 100000 in
set_option maxHeartbeats 4000000 in
theorem refRight11_any (B A S : Option Addr) (k0 kc n c m d : Nat) (l : List PI) (ks : List (List Int)) (sl : List Int) (w : World) (h : QRd w B A S k0 kc n c m d l ks sl) (hll : l.length ≤ 1000) (hl : ks.length ≤ 5000) (hs : ∀ k ∈ ks, k.length ≤ maxLen) (hsl : sl.length ≤ maxLen) :
    Calls Try.prog 10 #[.agg #[.slice B k0 kc, .slice A n c, .slice S m d]] w fun e w' => e = .returned (.bool (rightQB l ks sl)) ∧ Q w w' := by
  obtain ⟨hk, hn, hm, hcap, hrd, hkeys, hints⟩ := h
  subst hk hn
  have q0 := (Q.refl w).alloc (Obj.cells #[.slice B l.length kc, .slice A ks.length c, .slice S m d] 28)
  have HQ0 := Lib.hid q0
  have HX := Lib.hid (Ex.own_new8 w [.slice B l.length kc, .slice A ks.length c, .slice S m d] 28)
  have CR := Lib.hid (Hs.refRight_any A S ks.length c m d ks sl _ rfl hm ((hkeys.q (Nat.le_refl _) q0).more q0.size) ((hints.q (Nat.le_refl _) q0).more q0.size) hs hl hsl)
  have HR := Lib.hid hrd
  have HK := Lib.hid hkeys
  have Hs1 := Lib.hid hs
  obtain ⟨R, hR⟩ : ∃ R, R = rightQB l ks sl := ⟨_, rfl⟩
  have HR0 : Hid (R = (rightB ks sl && ks.all (fun k => k.length == 2) && okL l ks)) := hR
  rw [← hR]
  have hw0 : Hid (w.heap.size < (w.alloc (Obj.cells #[.slice B l.length kc, .slice A ks.length c, .slice S m d] 28)).heap.size) := by unfold Hid; simp
  clear hrd hkeys hints q0 hs hR hm hsl
  cases hr : rightB ks sl
  · rw [hr] at CR HR0
    simp only [Bool.false_and] at HR0
    clear hr
    go_enter Try.func10, Try.ntmps10
    go_upto_region 1 with fail
    generalize w.alloc (Obj.cells #[.slice B l.length kc, .slice A ks.length c, .slice S m d] 28) = W1 at *
    have k1 := (HX.out.2 1 _ rfl).1
    have k2 := (HX.out.2 2 _ rfl).1
    go_wp2_with (go_at_call 23; refine CR.out.mono ?_; rintro e w2 ⟨rfl, q2⟩)
    go_ret
    exact ⟨by rw [HR0.out]; rfl, HQ0.out.trans q2⟩
  · rw [hr] at CR HR0
    simp only [Bool.true_and] at HR0
    clear hr
    go_enter Try.func10, Try.ntmps10
    go_upto_region 1 with fail
    generalize w.alloc (Obj.cells #[.slice B l.length kc, .slice A ks.length c, .slice S m d] 28) = W1 at *
    have k1 := (HX.out.2 1 _ rfl).1
    have k2 := (HX.out.2 2 _ rfl).1
    go_upto_region 4 with (go_at_call 23; refine CR.out.mono ?_; rintro e w2 ⟨rfl, q2⟩; have HX2 := Lib.hid (HX.out.q q2); have HQ2 := Lib.hid (HQ0.out.trans q2))
    clear k1 k2 q2 CR HX HQ0
    have k1 := (HX2.out.2 1 _ rfl).1
    go_wp2_with fail
    go_loopw [4] (fun v wr => ∃ k : Nat, v = .int .i64 k ∧ k ≤ ks.length ∧ w2 = wr ∧ Hid (R = ((ks.drop k).all (fun k => k.length == 2) && okL l ks))) (fun v _ => ks.length - (intOf v).toNat)
    case atStart => exact ⟨0, rfl, Nat.zero_le _, by trivial, by rw [List.drop_zero]; exact HR0⟩
    case round =>
      obtain ⟨k, rfl, hk, rfl, HE⟩ := hrel
      by_cases hlt : k < ks.length
      · obtain ⟨ad, rfl, _, a, c1, _, hc, _⟩ := ((HK.out.q (Nat.le_refl _) HQ2.out).more HQ2.out.size).at_ hlt
        have hd := List.drop_eq_getElem_cons hlt
        by_cases h2 : ks[k].length = 2
        · have HE2 : Hid (R = ((ks.drop (k + 1)).all (fun k => k.length == 2) && okL l ks)) := by unfold Hid; rw [HE.out, hd, List.all_cons, h2]; rfl
          rw [h2] at hc
          clear h2 hd HE
          go_wp2_with fail
          go_roundw
          case rel => exact ⟨k + 1, by go_num, by omega, by trivial, HE2⟩
          case measure => simp [intOf]; omega
        · have HE2 : Hid (R = false) := by unfold Hid; rw [HE.out, hd, List.all_cons, beq_eq_false_iff_ne.2 h2]; rfl
          have h3 : ((ks[k].length : Int) != 2) = true := by rw [bne_iff_ne]; omega
          generalize ks[k].length = z at *
          clear h2 hd HE
          go_wp2_with fail
          go_ret
          exact ⟨by rw [HE2.out]; rfl, HQ2.out⟩
      · have HE2 : Hid (R = okL l ks) := by unfold Hid; rw [HE.out, List.drop_of_length_le (by omega)]; rfl
        clear HE
        have HX2 := HX2
        go_upto_region 9 with fail
        clear hk k1
        have k1 := (HX2.out.2 0 _ rfl).1
        go_wp2_with fail
        go_loopw [5] (fun v wr => ∃ k : Nat, v = .int .i64 k ∧ k ≤ l.length ∧ Hid (Q w2 wr) ∧ Hid (R = ((List.range l.length).drop k).all (okAt l ks))) (fun v _ => l.length - (intOf v).toNat)
        case atStart => exact ⟨0, rfl, Nat.zero_le _, Q.refl _, by rw [List.drop_zero]; exact HE2⟩
        case round =>
          clear k1
          obtain ⟨k, rfl, hk, HQ, HE⟩ := hrel
          have HXr := Lib.hid (HX2.out.q HQ.out)
          have k1 := (HXr.out.2 0 _ rfl).1
          by_cases hlt : k < l.length
          · have hqr := HQ2.out.trans HQ.out
            have HQr := Lib.hid hqr
            obtain ⟨ad, rfl, hab, ca, cb⟩ := pair_at (HR.out.q hqr) hlt
            rw [← gt_at hlt] at ca cb
            have HE' : Hid (R = (okAt l ks k && ((List.range l.length).drop (k + 1)).all (okAt l ks))) := by unfold Hid; rw [HE.out, range_at _ hlt]
            rw [okAt_is] at HE'
            have hkc : k ≤ kc := by omega
            have sto := fun u => slice_to (some ad) l.length kc k hkc u
            have q3 := (Q.refl wr).alloc (Obj.cells #[.int .i64 (gt l k).1, .int .i64 (gt l k).2] 30)
            have HQ3 := Lib.hid q3
            have hx3 := Ex.own_new8 wr [.int .i64 (gt l k).1, .int .i64 (gt l k).2] 30
            have HX3 := Lib.hid hx3
            have HXw := Lib.hid (HXr.out.q q3)
            obtain ⟨p, hp⟩ : ∃ p, p = gt l k := ⟨_, rfl⟩
            have Hp := Lib.hid hp
            rw [← hp] at ca cb HE'
            rw [← hp] at hx3 HX3 HXw HQ3
            go_upto_region 13 with fail
            rw [← hp]
            obtain ⟨p1, p2⟩ := p
            obtain ⟨W3, hW3⟩ : ∃ W3, W3 = wr.alloc (Obj.cells #[.int .i64 p1, .int .i64 p2] 30) := ⟨_, rfl⟩
            obtain ⟨pb, hpb⟩ : ∃ pb, pb = wr.heap.size := ⟨_, rfl⟩
            rw [← hW3, ← hpb]
            have HX3' := HX3
            rw [← hW3] at HXw HQ3
            unfold Hid at HX3'
            rw [← hW3, ← hpb] at HX3'
            have HX3 := Lib.hid HX3'
            clear HX3'
            have hm0 := (HX3.out.2 0 _ rfl).1
            have hm1 := (HX3.out.2 1 _ rfl).1
            have hx0 := (HXw.out.2 0 _ rfl).1
            have hx1 := (HXw.out.2 1 _ rfl).1
            have hlw : w.heap.size < W3.heap.size := HXw.out.1
            have hlp : pb < W3.heap.size := HX3.out.1
            have HS0 : Hid (∀ w', Q W3 w' → w'.cell? ⟨w.heap.size, 0, none⟩ = some (.slice (some ad) l.length kc) ∧ w'.cell? ⟨w.heap.size, 1, none⟩ = some (.slice A ks.length c) ∧ w'.cell? ⟨pb, 0, none⟩ = some (.int .i64 p1) ∧ w'.cell? ⟨pb, 1, none⟩ = some (.int .i64 p2)) := fun w' q => ⟨(q.cell (p := ⟨w.heap.size, 0, none⟩) hlw).trans hx0, (q.cell (p := ⟨w.heap.size, 1, none⟩) hlw).trans hx1, (q.cell (p := ⟨pb, 0, none⟩) hlp).trans hm0, (q.cell (p := ⟨pb, 1, none⟩) hlp).trans hm1⟩
            have hqw3 := hqr.trans HQ3.out
            have HQw3 := Lib.hid hqw3
            obtain ⟨a, ha⟩ : ∃ a, a = atI ks (keyP (p1, p2)) := ⟨_, rfl⟩
            have oi := Ex.own_new8 W3.drew [.int .i64 p1, .int .i64 p2] 3
            have he : Ints (W3.drew.alloc (Obj.cells #[.int .i64 p1, .int .i64 p2] 3)) (W3.drew.alloc (Obj.cells #[.int .i64 p1, .int .i64 p2] 3)).heap.size (some ⟨W3.heap.size, 0, none⟩) (keyP (p1, p2)) := fun _ => ⟨_, rfl, oi.1, fun i x hx => by
              rw [Hs.add_zero_head]
              match i, hx with
              | 0, hx => obtain rfl : p1 = x := by simpa [keyP] using hx
                         exact (oi.2 0 _ rfl).1
              | 1, hx => obtain rfl : p2 = x := by simpa [keyP] using hx
                         exact (oi.2 1 _ rfl).1
              | (i + 2), hx => simp [keyP] at hx⟩
            have ca1 := refAt_any A (some ⟨W3.heap.size, 0, none⟩) ks.length c 2 2 ks (keyP (p1, p2)) (W3.drew.alloc (Obj.cells #[.int .i64 p1, .int .i64 p2] 3)) rfl rfl ((HK.out.q (Nat.le_refl _) (hqw3.trans ((Q.refl W3).drew.alloc (Obj.cells #[.int .i64 p1, .int .i64 p2] 3)))).more (hqw3.trans ((Q.refl W3).drew.alloc (Obj.cells #[.int .i64 p1, .int .i64 p2] 3))).size) he (by unfold maxLen; omega) Hs1.out
            rw [← ha] at ca1 HE'
            have CA : Hid (Calls Try.prog 18 #[.slice A ks.length c, .slice (some ⟨W3.heap.size, 0, none⟩) 2 2] (W3.drew.alloc (Obj.cells #[.int .i64 p1, .int .i64 p2] 3)) fun e w' => e = .returned (.int .i64 a) ∧ Q (W3.drew.alloc (Obj.cells #[.int .i64 p1, .int .i64 p2] 3)) w') := ca1.mono fun e w' ⟨h1, d, h2⟩ => ⟨h1, by rw [h2]; exact (Q.refl _).drewN d⟩
            have CI : Hid (∀ U, Q W3 U → Calls Try.prog 15 #[.slice (some ad) k kc, .agg #[.int .i64 p1, .int .i64 p2]] U fun e w' => e = .returned (.bool (decide ((p1, p2) ∈ l.take k))) ∧ Q U w') := fun U q => refIn10_any (some ad) k kc (l.take k) (p1, p2) U (by rw [List.length_take]; omega) ((Rds.cut HR.out k).q (hqw3.trans q)) (by rw [List.length_take]; omega)
            clear ca1 he oi ha ca cb hx3 hp HE HXr hm0 hm1 hx0 hx1 k1 hW3 hpb HX2 HX3 HXw
            by_cases hA : a < 0
            · have HF : Hid (R = false) := by unfold Hid; rw [HE'.out, decide_eq_true hA]; rfl
              clear HE'
              refine wp_region_held_drew (S := fun w' => w'.cell? ⟨w.heap.size, 0, none⟩ = some (.slice (some ad) l.length kc) ∧ w'.cell? ⟨w.heap.size, 1, none⟩ = some (.slice A ks.length c) ∧ w'.cell? ⟨pb, 0, none⟩ = some (.int .i64 p1) ∧ w'.cell? ⟨pb, 1, none⟩ = some (.int .i64 p2)) (by kernel_rfl) ?_ (fun hHeld => ?_)
              · exact HS0.out _ (Q.refl W3).drew
              refine take_w (i := 0) (d := some 41) (v := ?_) rfl (by kernel_rfl) (by kernel_rfl) (by kernel_rfl) (fun _ _ _ h => h) rfl (by rfl) ?_ (by assumption) ?_
              rotate_left
              · (intro w hSw; (try dsimp only at hSw); go_simp; (try with_reducible rfl))
              try simp only [Act.put, List.setIfInBounds_toArray, List.set_cons_zero, List.set_cons_succ]
              refine take_w (i := 1) (d := some 42) (v := ?_) rfl (by kernel_rfl) (by kernel_rfl) (by kernel_rfl) (fun _ _ _ h => h) rfl (by rfl) ?_ (by assumption) ?_
              rotate_left
              · (intro w hSw; (try dsimp only at hSw); go_simp; (try with_reducible rfl))
              try simp only [Act.put, List.setIfInBounds_toArray, List.set_cons_zero, List.set_cons_succ]
              refine take_w (i := 2) (d := some 43) (v := ?_) rfl (by kernel_rfl) (by kernel_rfl) (by kernel_rfl) (fun _ _ _ h => h) rfl (by rfl) ?_ (by assumption) ?_
              rotate_left
              · (intro w hSw; (try dsimp only at hSw); go_simp; (try with_reducible rfl))
              try simp only [Act.put, List.setIfInBounds_toArray, List.set_cons_zero, List.set_cons_succ]
              refine take_w (i := 3) (d := some 44) (v := ?_) rfl (by kernel_rfl) (by kernel_rfl) (by kernel_rfl) (fun _ _ _ h => h) rfl (by rfl) ?_ (by assumption) ?_
              rotate_left
              · (intro w hSw; (try dsimp only at hSw); go_simp; (try with_reducible rfl))
              try simp only [Act.put, List.setIfInBounds_toArray, List.set_cons_zero, List.set_cons_succ]
              refine take_w (i := 4) (d := some 45) (v := ?_) rfl (by kernel_rfl) (by kernel_rfl) (by kernel_rfl) (fun _ _ _ h => h) rfl (by rfl) ?_ (by assumption) ?_
              rotate_left
              · (intro w hSw; (try dsimp only at hSw); go_simp; (try with_reducible rfl))
              try simp only [Act.put, List.setIfInBounds_toArray, List.set_cons_zero, List.set_cons_succ]
              refine take_w (i := 5) (d := some 46) (v := ?_) rfl (by kernel_rfl) (by kernel_rfl) (by kernel_rfl) (fun _ _ _ h => h) rfl (by rfl) ?_ (by assumption) ?_
              rotate_left
              · (intro w hSw; (try dsimp only at hSw); go_simp; (try with_reducible rfl))
              try simp only [Act.put, List.setIfInBounds_toArray, List.set_cons_zero, List.set_cons_succ]
              refine take_w (i := 6) (d := some 47) (v := ?_) rfl (by kernel_rfl) (by kernel_rfl) (by kernel_rfl) (fun _ _ _ h => h) rfl (by rfl) ?_ (by assumption) ?_
              rotate_left
              · (intro w hSw; (try dsimp only at hSw); go_simp; (try with_reducible rfl))
              try simp only [Act.put, List.setIfInBounds_toArray, List.set_cons_zero, List.set_cons_succ]
              refine call_w (i := 7) rfl (by kernel_rfl) (by rfl) (fun K hK => ?_)
              go_simp
              refine hK.out _ _ ?_ (fun hHeld => ?_)
              · exact HS0.out _ ((Q.refl W3).drew.alloc _)
              clear hK K
              try simp only [Act.put, List.setIfInBounds_toArray, List.set_cons_zero, List.set_cons_succ]
              refine call_w (i := 8) rfl (by kernel_rfl) (by rfl) (fun K hK => ?_)
              go_simp
              go_at_call 18
              refine CA.out.mono ?_
              rintro e w5 ⟨rfl, q5⟩
              have q5 := ((Q.refl W3).drew.alloc _).trans q5
              refine hK.out _ _ ?_ (fun hHeld => ?_)
              · exact HS0.out _ q5
              clear hK K
              try simp only [Act.put, List.setIfInBounds_toArray, List.set_cons_zero, List.set_cons_succ]
              refine take_w (i := 9) (d := some 50) (v := ?_) rfl (by kernel_rfl) (by kernel_rfl) (by kernel_rfl) (fun _ _ _ h => h) rfl (by rfl) ?_ (by assumption) ?_
              rotate_left
              · (intro w hSw; (try dsimp only at hSw); go_simp; (try with_reducible rfl))
              try simp only [Act.put, List.setIfInBounds_toArray, List.set_cons_zero, List.set_cons_succ]
              refine take_w (i := 10) (d := some 51) (v := ?_) rfl (by kernel_rfl) (by kernel_rfl) (by kernel_rfl) (fun _ _ _ h => h) rfl (by rfl) ?_ (by assumption) ?_
              rotate_left
              · (intro w hSw; (try dsimp only at hSw); go_simp; (try with_reducible rfl))
              try simp only [Act.put, List.setIfInBounds_toArray, List.set_cons_zero, List.set_cons_succ]
              refine take_u (i := 11) (d := some 52) rfl (by kernel_rfl) (by kernel_rfl) (by kernel_rfl) (fun _ _ _ h => h) rfl (by rfl) (by assumption) ?_
              try simp only [Act.put, List.setIfInBounds_toArray, List.set_cons_zero, List.set_cons_succ]
              refine take_u (i := 12) (d := some 53) rfl (by kernel_rfl) (by kernel_rfl) (by kernel_rfl) (fun _ _ _ h => h) rfl (by rfl) (by assumption) ?_
              try simp only [Act.put, List.setIfInBounds_toArray, List.set_cons_zero, List.set_cons_succ]
              refine take_u (i := 13) (d := some 54) rfl (by kernel_rfl) (by kernel_rfl) (by kernel_rfl) (fun _ _ _ h => h) rfl (by rfl) (by assumption) ?_
              try simp only [Act.put, List.setIfInBounds_toArray, List.set_cons_zero, List.set_cons_succ]
              refine take_u (i := 14) (d := some 55) rfl (by kernel_rfl) (by kernel_rfl) (by kernel_rfl) (fun _ _ _ h => h) rfl (by rfl) (by assumption) ?_
              try simp only [Act.put, List.setIfInBounds_toArray, List.set_cons_zero, List.set_cons_succ]
              refine take_u (i := 15) (d := some 56) rfl (by kernel_rfl) (by kernel_rfl) (by kernel_rfl) (fun _ _ _ h => h) rfl (by rfl) (by assumption) ?_
              try simp only [Act.put, List.setIfInBounds_toArray, List.set_cons_zero, List.set_cons_succ]
              refine take_u (i := 16) (d := some 57) rfl (by kernel_rfl) (by kernel_rfl) (by kernel_rfl) (fun _ _ _ h => h) rfl (by rfl) (by assumption) ?_
              try simp only [Act.put, List.setIfInBounds_toArray, List.set_cons_zero, List.set_cons_succ]
              refine take_w (i := 17) (d := some 58) (v := ?_) rfl (by kernel_rfl) (by kernel_rfl) (by kernel_rfl) (fun _ _ _ h => h) rfl (by rfl) ?_ (by assumption) ?_
              rotate_left
              · (intro w hSw; (try dsimp only at hSw); go_simp; (try with_reducible rfl))
              try simp only [Act.put, List.setIfInBounds_toArray, List.set_cons_zero, List.set_cons_succ]
              refine wpAnyH_done (by kernel_rfl) ?_ _
              go_wp2_with fail
              go_ret
              exact ⟨by rw [HF.out]; rfl, HQw3.out.trans q5⟩
            · have hA' : decide (a < 0) = false := decide_eq_false hA
              by_cases hI : (p1, p2) ∈ l.take k
              · have HF : Hid (R = false) := by unfold Hid; rw [HE'.out, hA', decide_eq_true hI]; rfl
                rw [decide_eq_true hI] at CI
                clear HE' hI
                refine wp_region_held_drew (S := fun w' => w'.cell? ⟨w.heap.size, 0, none⟩ = some (.slice (some ad) l.length kc) ∧ w'.cell? ⟨w.heap.size, 1, none⟩ = some (.slice A ks.length c) ∧ w'.cell? ⟨pb, 0, none⟩ = some (.int .i64 p1) ∧ w'.cell? ⟨pb, 1, none⟩ = some (.int .i64 p2)) (by kernel_rfl) ?_ (fun hHeld => ?_)
                · exact HS0.out _ (Q.refl W3).drew
                refine take_w (i := 0) (d := some 41) (v := ?_) rfl (by kernel_rfl) (by kernel_rfl) (by kernel_rfl) (fun _ _ _ h => h) rfl (by rfl) ?_ (by assumption) ?_
                rotate_left
                · (intro w hSw; (try dsimp only at hSw); go_simp; (try with_reducible rfl))
                try simp only [Act.put, List.setIfInBounds_toArray, List.set_cons_zero, List.set_cons_succ]
                refine take_w (i := 1) (d := some 42) (v := ?_) rfl (by kernel_rfl) (by kernel_rfl) (by kernel_rfl) (fun _ _ _ h => h) rfl (by rfl) ?_ (by assumption) ?_
                rotate_left
                · (intro w hSw; (try dsimp only at hSw); go_simp; (try with_reducible rfl))
                try simp only [Act.put, List.setIfInBounds_toArray, List.set_cons_zero, List.set_cons_succ]
                refine take_w (i := 2) (d := some 43) (v := ?_) rfl (by kernel_rfl) (by kernel_rfl) (by kernel_rfl) (fun _ _ _ h => h) rfl (by rfl) ?_ (by assumption) ?_
                rotate_left
                · (intro w hSw; (try dsimp only at hSw); go_simp; (try with_reducible rfl))
                try simp only [Act.put, List.setIfInBounds_toArray, List.set_cons_zero, List.set_cons_succ]
                refine take_w (i := 3) (d := some 44) (v := ?_) rfl (by kernel_rfl) (by kernel_rfl) (by kernel_rfl) (fun _ _ _ h => h) rfl (by rfl) ?_ (by assumption) ?_
                rotate_left
                · (intro w hSw; (try dsimp only at hSw); go_simp; (try with_reducible rfl))
                try simp only [Act.put, List.setIfInBounds_toArray, List.set_cons_zero, List.set_cons_succ]
                refine take_w (i := 4) (d := some 45) (v := ?_) rfl (by kernel_rfl) (by kernel_rfl) (by kernel_rfl) (fun _ _ _ h => h) rfl (by rfl) ?_ (by assumption) ?_
                rotate_left
                · (intro w hSw; (try dsimp only at hSw); go_simp; (try with_reducible rfl))
                try simp only [Act.put, List.setIfInBounds_toArray, List.set_cons_zero, List.set_cons_succ]
                refine take_w (i := 5) (d := some 46) (v := ?_) rfl (by kernel_rfl) (by kernel_rfl) (by kernel_rfl) (fun _ _ _ h => h) rfl (by rfl) ?_ (by assumption) ?_
                rotate_left
                · (intro w hSw; (try dsimp only at hSw); go_simp; (try with_reducible rfl))
                try simp only [Act.put, List.setIfInBounds_toArray, List.set_cons_zero, List.set_cons_succ]
                refine take_w (i := 6) (d := some 47) (v := ?_) rfl (by kernel_rfl) (by kernel_rfl) (by kernel_rfl) (fun _ _ _ h => h) rfl (by rfl) ?_ (by assumption) ?_
                rotate_left
                · (intro w hSw; (try dsimp only at hSw); go_simp; (try with_reducible rfl))
                try simp only [Act.put, List.setIfInBounds_toArray, List.set_cons_zero, List.set_cons_succ]
                refine call_w (i := 7) rfl (by kernel_rfl) (by rfl) (fun K hK => ?_)
                go_simp
                refine hK.out _ _ ?_ (fun hHeld => ?_)
                · exact HS0.out _ ((Q.refl W3).drew.alloc _)
                clear hK K
                try simp only [Act.put, List.setIfInBounds_toArray, List.set_cons_zero, List.set_cons_succ]
                refine call_w (i := 8) rfl (by kernel_rfl) (by rfl) (fun K hK => ?_)
                go_simp
                go_at_call 18
                refine CA.out.mono ?_
                rintro e w5 ⟨rfl, q5⟩
                have q5 := ((Q.refl W3).drew.alloc _).trans q5
                refine hK.out _ _ ?_ (fun hHeld => ?_)
                · exact HS0.out _ q5
                clear hK K
                try simp only [Act.put, List.setIfInBounds_toArray, List.set_cons_zero, List.set_cons_succ]
                refine take_w (i := 9) (d := some 50) (v := ?_) rfl (by kernel_rfl) (by kernel_rfl) (by kernel_rfl) (fun _ _ _ h => h) rfl (by rfl) ?_ (by assumption) ?_
                rotate_left
                · (intro w hSw; (try dsimp only at hSw); go_simp; (try with_reducible rfl))
                try simp only [Act.put, List.setIfInBounds_toArray, List.set_cons_zero, List.set_cons_succ]
                refine take_w (i := 10) (d := some 51) (v := ?_) rfl (by kernel_rfl) (by kernel_rfl) (by kernel_rfl) (fun _ _ _ h => h) rfl (by rfl) ?_ (by assumption) ?_
                rotate_left
                · (intro w hSw; (try dsimp only at hSw); go_simp; (try with_reducible rfl))
                try simp only [Act.put, List.setIfInBounds_toArray, List.set_cons_zero, List.set_cons_succ]
                refine take_w (i := 11) (d := some 52) (v := ?_) rfl (by kernel_rfl) (by kernel_rfl) (by kernel_rfl) (fun _ _ _ h => h) rfl (by rfl) ?_ (by assumption) ?_
                rotate_left
                · (intro w hSw; (try dsimp only at hSw); go_simp; (try with_reducible rfl))
                try simp only [Act.put, List.setIfInBounds_toArray, List.set_cons_zero, List.set_cons_succ]
                refine take_w (i := 12) (d := some 53) (v := ?_) rfl (by kernel_rfl) (by kernel_rfl) (by kernel_rfl) (fun _ _ _ h => h) rfl (by rfl) ?_ (by assumption) ?_
                rotate_left
                · (intro w hSw; (try dsimp only at hSw); go_simp; (try with_reducible rfl))
                try simp only [Act.put, List.setIfInBounds_toArray, List.set_cons_zero, List.set_cons_succ]
                refine take_w (i := 13) (d := some 54) (v := ?_) rfl (by kernel_rfl) (by kernel_rfl) (by kernel_rfl) (fun _ _ _ h => h) rfl (by rfl) ?_ (by assumption) ?_
                rotate_left
                · (intro w hSw; (try dsimp only at hSw); go_simp; (try with_reducible rfl))
                try simp only [Act.put, List.setIfInBounds_toArray, List.set_cons_zero, List.set_cons_succ]
                refine take_w (i := 14) (d := some 55) (v := ?_) rfl (by kernel_rfl) (by kernel_rfl) (by kernel_rfl) (fun _ _ _ h => h) rfl (by rfl) ?_ (by assumption) ?_
                rotate_left
                · (intro w hSw; (try dsimp only at hSw); go_simp; (try with_reducible rfl))
                try simp only [Act.put, List.setIfInBounds_toArray, List.set_cons_zero, List.set_cons_succ]
                refine take_w (i := 15) (d := some 56) (v := ?_) rfl (by kernel_rfl) (by kernel_rfl) (by kernel_rfl) (fun _ _ _ h => h) rfl (by rfl) ?_ (by assumption) ?_
                rotate_left
                · (intro w hSw; (try dsimp only at hSw); go_simp; (try with_reducible rfl))
                try simp only [Act.put, List.setIfInBounds_toArray, List.set_cons_zero, List.set_cons_succ]
                refine call_w (i := 16) rfl (by kernel_rfl) (by rfl) (fun K hK => ?_)
                go_simp
                go_at_call 15
                refine (CI.out _ q5).mono ?_
                rintro e w6 ⟨rfl, q6⟩
                have q6 := q5.trans q6
                refine hK.out _ _ ?_ (fun hHeld => ?_)
                · exact HS0.out _ q6
                clear hK K
                try simp only [Act.put, List.setIfInBounds_toArray, List.set_cons_zero, List.set_cons_succ]
                refine take_w (i := 17) (d := some 58) (v := ?_) rfl (by kernel_rfl) (by kernel_rfl) (by kernel_rfl) (fun _ _ _ h => h) rfl (by rfl) ?_ (by assumption) ?_
                rotate_left
                · (intro w hSw; (try dsimp only at hSw); go_simp; (try with_reducible rfl))
                try simp only [Act.put, List.setIfInBounds_toArray, List.set_cons_zero, List.set_cons_succ]
                refine wpAnyH_done (by kernel_rfl) ?_ _
                go_wp2_with fail
                go_ret
                exact ⟨by rw [HF.out]; rfl, HQw3.out.trans q6⟩
              · have HF : Hid (R = (okJ l k (2 * k + 1) && okJ l k (2 * k + 2) && ((List.range l.length).drop (k + 1)).all (okAt l ks))) := by unfold Hid; rw [HE'.out, hA', decide_eq_false hI]; rfl
                rw [decide_eq_false hI] at CI
                clear HE' hI
                refine wp_region_held_drew (S := fun w' => w'.cell? ⟨w.heap.size, 0, none⟩ = some (.slice (some ad) l.length kc) ∧ w'.cell? ⟨w.heap.size, 1, none⟩ = some (.slice A ks.length c) ∧ w'.cell? ⟨pb, 0, none⟩ = some (.int .i64 p1) ∧ w'.cell? ⟨pb, 1, none⟩ = some (.int .i64 p2)) (by kernel_rfl) ?_ (fun hHeld => ?_)
                · exact HS0.out _ (Q.refl W3).drew
                refine take_w (i := 0) (d := some 41) (v := ?_) rfl (by kernel_rfl) (by kernel_rfl) (by kernel_rfl) (fun _ _ _ h => h) rfl (by rfl) ?_ (by assumption) ?_
                rotate_left
                · (intro w hSw; (try dsimp only at hSw); go_simp; (try with_reducible rfl))
                try simp only [Act.put, List.setIfInBounds_toArray, List.set_cons_zero, List.set_cons_succ]
                refine take_w (i := 1) (d := some 42) (v := ?_) rfl (by kernel_rfl) (by kernel_rfl) (by kernel_rfl) (fun _ _ _ h => h) rfl (by rfl) ?_ (by assumption) ?_
                rotate_left
                · (intro w hSw; (try dsimp only at hSw); go_simp; (try with_reducible rfl))
                try simp only [Act.put, List.setIfInBounds_toArray, List.set_cons_zero, List.set_cons_succ]
                refine take_w (i := 2) (d := some 43) (v := ?_) rfl (by kernel_rfl) (by kernel_rfl) (by kernel_rfl) (fun _ _ _ h => h) rfl (by rfl) ?_ (by assumption) ?_
                rotate_left
                · (intro w hSw; (try dsimp only at hSw); go_simp; (try with_reducible rfl))
                try simp only [Act.put, List.setIfInBounds_toArray, List.set_cons_zero, List.set_cons_succ]
                refine take_w (i := 3) (d := some 44) (v := ?_) rfl (by kernel_rfl) (by kernel_rfl) (by kernel_rfl) (fun _ _ _ h => h) rfl (by rfl) ?_ (by assumption) ?_
                rotate_left
                · (intro w hSw; (try dsimp only at hSw); go_simp; (try with_reducible rfl))
                try simp only [Act.put, List.setIfInBounds_toArray, List.set_cons_zero, List.set_cons_succ]
                refine take_w (i := 4) (d := some 45) (v := ?_) rfl (by kernel_rfl) (by kernel_rfl) (by kernel_rfl) (fun _ _ _ h => h) rfl (by rfl) ?_ (by assumption) ?_
                rotate_left
                · (intro w hSw; (try dsimp only at hSw); go_simp; (try with_reducible rfl))
                try simp only [Act.put, List.setIfInBounds_toArray, List.set_cons_zero, List.set_cons_succ]
                refine take_w (i := 5) (d := some 46) (v := ?_) rfl (by kernel_rfl) (by kernel_rfl) (by kernel_rfl) (fun _ _ _ h => h) rfl (by rfl) ?_ (by assumption) ?_
                rotate_left
                · (intro w hSw; (try dsimp only at hSw); go_simp; (try with_reducible rfl))
                try simp only [Act.put, List.setIfInBounds_toArray, List.set_cons_zero, List.set_cons_succ]
                refine take_w (i := 6) (d := some 47) (v := ?_) rfl (by kernel_rfl) (by kernel_rfl) (by kernel_rfl) (fun _ _ _ h => h) rfl (by rfl) ?_ (by assumption) ?_
                rotate_left
                · (intro w hSw; (try dsimp only at hSw); go_simp; (try with_reducible rfl))
                try simp only [Act.put, List.setIfInBounds_toArray, List.set_cons_zero, List.set_cons_succ]
                refine call_w (i := 7) rfl (by kernel_rfl) (by rfl) (fun K hK => ?_)
                go_simp
                refine hK.out _ _ ?_ (fun hHeld => ?_)
                · exact HS0.out _ ((Q.refl W3).drew.alloc _)
                clear hK K
                try simp only [Act.put, List.setIfInBounds_toArray, List.set_cons_zero, List.set_cons_succ]
                refine call_w (i := 8) rfl (by kernel_rfl) (by rfl) (fun K hK => ?_)
                go_simp
                go_at_call 18
                refine CA.out.mono ?_
                rintro e w5 ⟨rfl, q5⟩
                have q5 := ((Q.refl W3).drew.alloc _).trans q5
                refine hK.out _ _ ?_ (fun hHeld => ?_)
                · exact HS0.out _ q5
                clear hK K
                try simp only [Act.put, List.setIfInBounds_toArray, List.set_cons_zero, List.set_cons_succ]
                refine take_w (i := 9) (d := some 50) (v := ?_) rfl (by kernel_rfl) (by kernel_rfl) (by kernel_rfl) (fun _ _ _ h => h) rfl (by rfl) ?_ (by assumption) ?_
                rotate_left
                · (intro w hSw; (try dsimp only at hSw); go_simp; (try with_reducible rfl))
                try simp only [Act.put, List.setIfInBounds_toArray, List.set_cons_zero, List.set_cons_succ]
                refine take_w (i := 10) (d := some 51) (v := ?_) rfl (by kernel_rfl) (by kernel_rfl) (by kernel_rfl) (fun _ _ _ h => h) rfl (by rfl) ?_ (by assumption) ?_
                rotate_left
                · (intro w hSw; (try dsimp only at hSw); go_simp; (try with_reducible rfl))
                try simp only [Act.put, List.setIfInBounds_toArray, List.set_cons_zero, List.set_cons_succ]
                refine take_w (i := 11) (d := some 52) (v := ?_) rfl (by kernel_rfl) (by kernel_rfl) (by kernel_rfl) (fun _ _ _ h => h) rfl (by rfl) ?_ (by assumption) ?_
                rotate_left
                · (intro w hSw; (try dsimp only at hSw); go_simp; (try with_reducible rfl))
                try simp only [Act.put, List.setIfInBounds_toArray, List.set_cons_zero, List.set_cons_succ]
                refine take_w (i := 12) (d := some 53) (v := ?_) rfl (by kernel_rfl) (by kernel_rfl) (by kernel_rfl) (fun _ _ _ h => h) rfl (by rfl) ?_ (by assumption) ?_
                rotate_left
                · (intro w hSw; (try dsimp only at hSw); go_simp; (try with_reducible rfl))
                try simp only [Act.put, List.setIfInBounds_toArray, List.set_cons_zero, List.set_cons_succ]
                refine take_w (i := 13) (d := some 54) (v := ?_) rfl (by kernel_rfl) (by kernel_rfl) (by kernel_rfl) (fun _ _ _ h => h) rfl (by rfl) ?_ (by assumption) ?_
                rotate_left
                · (intro w hSw; (try dsimp only at hSw); go_simp; (try with_reducible rfl))
                try simp only [Act.put, List.setIfInBounds_toArray, List.set_cons_zero, List.set_cons_succ]
                refine take_w (i := 14) (d := some 55) (v := ?_) rfl (by kernel_rfl) (by kernel_rfl) (by kernel_rfl) (fun _ _ _ h => h) rfl (by rfl) ?_ (by assumption) ?_
                rotate_left
                · (intro w hSw; (try dsimp only at hSw); go_simp; (try with_reducible rfl))
                try simp only [Act.put, List.setIfInBounds_toArray, List.set_cons_zero, List.set_cons_succ]
                refine take_w (i := 15) (d := some 56) (v := ?_) rfl (by kernel_rfl) (by kernel_rfl) (by kernel_rfl) (fun _ _ _ h => h) rfl (by rfl) ?_ (by assumption) ?_
                rotate_left
                · (intro w hSw; (try dsimp only at hSw); go_simp; (try with_reducible rfl))
                try simp only [Act.put, List.setIfInBounds_toArray, List.set_cons_zero, List.set_cons_succ]
                refine call_w (i := 16) rfl (by kernel_rfl) (by rfl) (fun K hK => ?_)
                go_simp
                go_at_call 15
                refine (CI.out _ q5).mono ?_
                rintro e w6 ⟨rfl, q6⟩
                have q6 := q5.trans q6
                refine hK.out _ _ ?_ (fun hHeld => ?_)
                · exact HS0.out _ q6
                clear hK K
                try simp only [Act.put, List.setIfInBounds_toArray, List.set_cons_zero, List.set_cons_succ]
                refine take_w (i := 17) (d := some 58) (v := ?_) rfl (by kernel_rfl) (by kernel_rfl) (by kernel_rfl) (fun _ _ _ h => h) rfl (by rfl) ?_ (by assumption) ?_
                rotate_left
                · (intro w hSw; (try dsimp only at hSw); go_simp; (try with_reducible rfl))
                try simp only [Act.put, List.setIfInBounds_toArray, List.set_cons_zero, List.set_cons_succ]
                refine wpAnyH_done (by kernel_rfl) ?_ _
                have HQ6 := Lib.hid q6
                clear q5 q6 CI CA
                go_wp2_with fail
                go_loopw [7] (fun v wz => ∃ j : Nat, v = .int .i64 (j : Int) ∧ 2 * k + 1 ≤ j ∧ j ≤ 2 * k + 3 ∧ Hid (Q w6 wz) ∧ Hid (2 * k + 2 ≤ j → okJ l k (2 * k + 1) = true) ∧ Hid (2 * k + 3 ≤ j → okJ l k (2 * k + 2) = true)) (fun v _ => 2 * k + 4 - (intOf v).toNat)
                case atStart => exact ⟨2 * k + 1, by go_num, Nat.le_refl _, by omega, Q.refl _, Lib.hid (fun h => absurd h (by omega)), Lib.hid (fun h => absurd h (by omega))⟩
                case round =>
                  obtain ⟨j, rfl, hj1, hj3, HQz, HJ1, HJ2⟩ := hrel
                  have hq6z := HQ6.out.trans HQz.out
                  obtain ⟨x0, _, x2, x3⟩ := HS0.out _ hq6z
                  by_cases hj : j ≤ 2 * k + 2
                  · have hj' : (j : Int) ≤ 2 * (k : Int) + 2 := by omega
                    by_cases hjl : j < l.length
                    · obtain ⟨ad', e', hab', cc, cd⟩ := pair_at (HR.out.q (HQw3.out.trans hq6z)) hjl
                      obtain rfl : ad = ad' := by cases e'; rfl
                      rw [← gt_at hjl] at cc cd
                      have hjl' : (j : Int) < (l.length : Int) := by omega
                      have CLs := fun U => refLess11_any (gt l j) (p1, p2) U
                      obtain ⟨y, hy⟩ : ∃ y, y = gt l j := ⟨_, rfl⟩
                      rw [← hy] at CLs cc cd
                      have hq6w := HQz.out
                      by_cases hlt : ltP y (p1, p2)
                      · have HN : Hid (R = false) := by
                          unfold Hid
                          have hok : okJ l k j = false := by unfold okJ; rw [decide_eq_true hjl, ← Hp.out, ← hy, decide_eq_true hlt]; rfl
                          rw [HF.out]
                          rcases (show j = 2 * k + 1 ∨ j = 2 * k + 2 by omega) with e | e <;> rw [← e, hok] <;> simp
                        rw [decide_eq_true hlt] at CLs
                        have HCL := Lib.hid CLs
                        clear hlt hy CLs e' hab'
                        obtain ⟨y1, y2⟩ := y
                        go_upto_region 18 with fail
                        go_still_tail 12, (by kernel_rfl)
                        change wpList _ _ _ _ _ wr.drew
                        have qz : Q wr wr.drew := (Q.refl wr).drew
                        generalize wr.drew = wy at *
                        go_wp2_with (go_at_call 24; refine (HCL.out _).mono ?_; rintro e w7 ⟨rfl, q7⟩)
                        go_ret
                        exact ⟨by rw [HN.out]; rfl, (HQw3.out.trans hq6z).trans (qz.trans q7)⟩
                      · have hok : okJ l k j = true := by unfold okJ; rw [decide_eq_true hjl, ← Hp.out, ← hy, decide_eq_false hlt]; rfl
                        have HN1 : Hid (2 * k + 2 ≤ j + 1 → okJ l k (2 * k + 1) = true) := fun h => by
                          by_cases e : j = 2 * k + 1
                          · rw [← e]; exact hok
                          · exact HJ1.out (by omega)
                        have HN2 : Hid (2 * k + 3 ≤ j + 1 → okJ l k (2 * k + 2) = true) := fun h => by
                          rw [show 2 * k + 2 = j by omega]; exact hok
                        rw [decide_eq_false hlt] at CLs
                        have HCL := Lib.hid CLs
                        clear hlt hy CLs e' hab' hok
                        obtain ⟨y1, y2⟩ := y
                        go_upto_region 18 with fail
                        go_still_tail 12, (by kernel_rfl)
                        change wpList _ _ _ _ _ wr.drew
                        have qz : Q wr wr.drew := (Q.refl wr).drew
                        generalize wr.drew = wy at *
                        go_wp2_with (go_at_call 24; refine (HCL.out _).mono ?_; rintro e w7 ⟨rfl, q7⟩)
                        go_roundw
                        case rel => exact ⟨j + 1, by go_num, by omega, by omega, hq6w.trans (qz.trans q7), HN1, HN2⟩
                        case measure => simp [intOf]; omega
                    · have hjl' : ¬ (j : Int) < (l.length : Int) := by omega
                      have hok : okJ l k j = true := by unfold okJ; rw [decide_eq_false hjl]; rfl
                      have HN1 : Hid (2 * k + 2 ≤ j + 1 → okJ l k (2 * k + 1) = true) := fun h => by
                        by_cases e : j = 2 * k + 1
                        · rw [← e]; exact hok
                        · exact HJ1.out (by omega)
                      have HN2 : Hid (2 * k + 3 ≤ j + 1 → okJ l k (2 * k + 2) = true) := fun h => by
                        rw [show 2 * k + 2 = j by omega]; exact hok
                      clear hok
                      go_upto_region 18 with fail
                      go_quiet (fail)
                      go_wp2_with fail
                      go_roundw
                      case rel => exact ⟨j + 1, by go_num, by omega, by omega, HQz.out.drewN _, HN1, HN2⟩
                      case measure => simp [intOf]; omega
                  · have hj' : ¬ (j : Int) ≤ 2 * (k : Int) + 2 := by omega
                    have HFn : Hid (R = ((List.range l.length).drop (k + 1)).all (okAt l ks)) := by unfold Hid; rw [HF.out, HJ1.out (by omega), HJ2.out (by omega)]; rfl
                    have HQn : Hid (Q w2 _) := HQ.out.trans (HQ3.out.trans hq6z)
                    go_wp2_with fail
                    go_roundw
                    case rel => exact ⟨k + 1, by go_num, by omega, HQn, HFn⟩
                    case measure => simp [intOf]; omega
          · go_wp2_with fail
            go_ret
            exact ⟨by rw [HE.out, List.drop_of_length_le (by simp; omega)]; rfl, HQ2.out.trans HQ.out⟩
end Go.Proofs.Ytjgbheidkjgncaa.Wk

namespace Go.Proofs.Ytjgbheidkjgncaa.Wk
open Go.RowKit Kit Rw
open Go.Proofs.Ytjgbheidkjgncaa.St
open Go.Proofs.Ytjgbheidkjgncaa.Hs (Keys Ints tabB)
set_option maxRecDepth 100000 in
set_option maxHeartbeats 2000000 in
theorem refSame11_any (B A S B' A' S' : Option Addr) (k kc n c m d k' kc' n' c' m' d' : Nat) (l l' : List PI) (ks ks' : List (List Int)) (sl sl' : List Int) (w : World) (hk0 : k = l.length) (hn : n = ks.length) (hm : m = sl.length) (hk0' : k' = l'.length) (hn' : n' = ks'.length) (hm' : m' = sl'.length)
    (hr : Rds w w.heap.size B (cellsQ l)) (hk : Keys w w.heap.size A ks) (hS : Ints w w.heap.size S sl) (hr' : Rds w w.heap.size B' (cellsQ l')) (hk' : Keys w w.heap.size A' ks') (hS' : Ints w w.heap.size S' sl') (hll : l.length ≤ 1000000) (hl : ks.length ≤ maxLen) (hs : ∀ k ∈ ks, k.length ≤ maxLen) (hsl : sl.length ≤ maxLen) :
    Calls Try.prog 14 #[.agg #[.slice B k kc, .slice A n c, .slice S m d], .agg #[.slice B' k' kc', .slice A' n' c', .slice S' m' d']] w fun e w' => e = .returned (.bool (sameQ l l' && tabB ks sl ks' sl')) ∧ Q w w' := by
  subst hk0 hn hm hk0' hn' hm'
  have q1 := (Q.refl w).alloc (Obj.cells #[.slice B l.length kc, .slice A ks.length c, .slice S sl.length d] 28)
  have q2 := q1.alloc (Obj.cells #[.slice B' l'.length kc', .slice A' ks'.length c', .slice S' sl'.length d'] 28)
  have HQ0 := Lib.hid q2
  have HX := Lib.hid ((Ex.own_new8 w [.slice B l.length kc, .slice A ks.length c, .slice S sl.length d] 28).q ((Q.refl (w.alloc (Obj.cells #[.slice B l.length kc, .slice A ks.length c, .slice S sl.length d] 28))).alloc (Obj.cells #[.slice B' l'.length kc', .slice A' ks'.length c', .slice S' sl'.length d'] 28)))
  have hy := Ex.own_new8 (w.alloc (Obj.cells #[.slice B l.length kc, .slice A ks.length c, .slice S sl.length d] 28)) [.slice B' l'.length kc', .slice A' ks'.length c', .slice S' sl'.length d'] 28
  rw [show (w.alloc (Obj.cells #[.slice B l.length kc, .slice A ks.length c, .slice S sl.length d] 28)).heap.size = w.heap.size + 1 by simp] at hy
  have HY := Lib.hid hy
  clear hy
  have CP := Lib.hid (fun (U : World) (p : Q w U) => refPairsEq_any B B' l.length kc l'.length kc' l l' U rfl rfl (hr.q p) (hr'.q p) hll)
  have CS := Lib.hid (fun (U : World) (p : Q w U) => Hs.refSame_any A S A' S' ks.length c sl.length d ks'.length c' sl'.length d' ks ks' sl sl' U rfl rfl rfl rfl ((hk.q (Nat.le_refl _) p).more p.size) ((hS.q (Nat.le_refl _) p).more p.size) ((hk'.q (Nat.le_refl _) p).more p.size) ((hS'.q (Nat.le_refl _) p).more p.size) hl hs hsl)
  clear hr hk hS hr' hk' hS' hll hl hs hsl q1 q2
  cases hq : sameQ l l'
  · rw [hq] at CP
    go_enter Try.func14, Try.ntmps14
    go_upto_region 1 with fail
    generalize hW : (w.alloc (Obj.cells #[.slice B l.length kc, .slice A ks.length c, .slice S sl.length d] 28)).alloc (Obj.cells #[.slice B' l'.length kc', .slice A' ks'.length c', .slice S' sl'.length d'] 28) = W at *
    clear hW
    have x0 := (HX.out.2 0 _ rfl).1
    have y0 := (HY.out.2 0 _ rfl).1
    go_wp2_with fail
    refine (CP.out _ HQ0.out).mono ?_
    rintro e w1 ⟨rfl, q1⟩
    have p1 := Lib.hid (HQ0.out.trans q1)
    have HX1 := Lib.hid (HX.out.q q1)
    have HY1 := Lib.hid (HY.out.q q1)
    clear x0 y0 q1
    go_wp2_with fail
    go_ret
    exact ⟨by simp, p1.out⟩
  · rw [hq] at CP
    go_enter Try.func14, Try.ntmps14
    go_upto_region 1 with fail
    generalize hW : (w.alloc (Obj.cells #[.slice B l.length kc, .slice A ks.length c, .slice S sl.length d] 28)).alloc (Obj.cells #[.slice B' l'.length kc', .slice A' ks'.length c', .slice S' sl'.length d'] 28) = W at *
    clear hW
    have x0 := (HX.out.2 0 _ rfl).1
    have y0 := (HY.out.2 0 _ rfl).1
    go_wp2_with fail
    refine (CP.out _ HQ0.out).mono ?_
    rintro e w1 ⟨rfl, q1⟩
    have p1 := Lib.hid (HQ0.out.trans q1)
    have HX1 := Lib.hid (HX.out.q q1)
    have HY1 := Lib.hid (HY.out.q q1)
    clear x0 y0 q1
    have x1 := (HX1.out.2 1 _ rfl).1
    have x2 := (HX1.out.2 2 _ rfl).1
    have y1 := (HY1.out.2 1 _ rfl).1
    have y2 := (HY1.out.2 2 _ rfl).1
    go_wp2_with fail
    refine (CS.out _ p1.out).mono ?_
    rintro e w2 ⟨rfl, q2⟩
    have p2 := Lib.hid (p1.out.trans q2)
    clear x1 x2 y1 y2 q2
    go_wp2_with fail
    go_ret
    exact ⟨by simp, p2.out⟩
end Go.Proofs.Ytjgbheidkjgncaa.Wk

namespace Go.Proofs.Ytjgbheidkjgncaa.Wk
open Go.RowKit Kit Rw
open Go.Proofs.Ytjgbheidkjgncaa.St
open Go.Proofs.Ytjgbheidkjgncaa.Hs (Keys Ints layI putL placeI newB Dist atI refAt_any tabB)
theorem at11 (A : Option Addr) (n c : Nat) (ks : List (List Int)) (p1 p2 : Int) (w : World) (hn : n = ks.length) (hk : Keys w w.heap.size A ks) (hl : ks.length ≤ 5000) (h2 : ∀ k ∈ ks, k.length = 2) :
    Calls Try.prog 18 #[.slice A n c, .slice (some ⟨w.heap.size, 0, none⟩) 2 2] (w.alloc (Obj.cells #[.int .i64 p1, .int .i64 p2] 3)) fun e w' => e = .returned (.int .i64 (atI ks (keyP (p1, p2)))) ∧ Q w w' := by
  have q0 := (Q.refl w).alloc (Obj.cells #[.int .i64 p1, .int .i64 p2] 3)
  have oi := Ex.own_new8 w [.int .i64 p1, .int .i64 p2] 3
  have he : Ints (w.alloc (Obj.cells #[.int .i64 p1, .int .i64 p2] 3)) (w.alloc (Obj.cells #[.int .i64 p1, .int .i64 p2] 3)).heap.size (some ⟨w.heap.size, 0, none⟩) (keyP (p1, p2)) := fun _ => ⟨_, rfl, oi.1, fun i x hx => by
    rw [Hs.add_zero_head]
    match i, hx with
    | 0, hx => obtain rfl : p1 = x := by simpa [keyP] using hx
               exact (oi.2 0 _ rfl).1
    | 1, hx => obtain rfl : p2 = x := by simpa [keyP] using hx
               exact (oi.2 1 _ rfl).1
    | (i + 2), hx => simp [keyP] at hx⟩
  refine (refAt_any A (some ⟨w.heap.size, 0, none⟩) n c 2 2 ks (keyP (p1, p2)) _ hn rfl ((hk.q (Nat.le_refl _) q0).more q0.size) he (by unfold maxLen; omega) (fun k hk => by rw [h2 k hk]; unfold maxLen; omega)).mono ?_
  rintro e w' ⟨h1, d, rfl⟩
  exact ⟨h1, q0.drewN d⟩
theorem tab_self (ks : List (List Int)) (sl : List Int) : tabB ks sl ks sl = true := by
  unfold tabB; rw [(Hs.rowsB_iff _ _).2 rfl, (Hs.eqL_iff _ _).2 rfl]; rfl
theorem same_self11 (l : List PI) : sameQ l l = true := (sameQ_iff l l).2 rfl
theorem again11 {l : List PI} {ks : List (List Int)} (ok : QOk l ks (layI ks)) (p : PI) : newB (putK ks p) (keyP p) = false := Hs.new_again ok.dist
theorem seen11 {l : List PI} {ks : List (List Int)} (ok : QOk l ks (layI ks)) (p : PI) : 0 ≤ atI (putK ks p) (keyP p) := by
  unfold putK
  rw [Hs.putL_at ok.dist]
  exact Hs.placeI_nonneg
theorem nextQ_le (l : List PI) : (nextQ l).length ≤ l.length := by
  unfold nextQ
  split
  · rename_i h; have := nextH_len h; omega
  · exact Nat.le_refl _
theorem next_len {l : List PI} (h : 0 < l.length) : (nextQ l).length + 1 = l.length := by
  unfold nextQ; rw [if_pos h]; exact nextH_len h
end Go.Proofs.Ytjgbheidkjgncaa.Wk

namespace Go.Proofs.Ytjgbheidkjgncaa.Wk
open Go.Proofs.Ytjgbheidkjgncaa.St
open Go.Proofs.Ytjgbheidkjgncaa.Hs (layI putL placeI newB Dist atI)
theorem at_neg {ks : List (List Int)} {key : List Int} : atI ks key < 0 ↔ key ∉ ks := by
  rcases Hs.atI_cases ks key with ⟨h1, h2⟩ | ⟨i, h1, h2⟩
  · exact ⟨fun _ hm => by obtain ⟨i, hi, e⟩ := List.getElem_of_mem hm; exact h2 i _ (List.getElem?_eq_getElem hi) e, fun _ => by omega⟩
  · exact ⟨fun h => by omega, fun h => absurd (List.mem_of_getElem? h1) h⟩
/-- what waits, when pairs were put one by one into nothing: all of them, each once -/
structure AllOk (L : List PI) (ks : List (List Int)) (a : List PI) : Prop where
  ok : QOk L ks (layI ks)
  perm : L.Perm a
  rise : a.Pairwise ltP
  seen : ∀ p, keyP p ∈ ks ↔ p ∈ a
theorem AllOk.new_is {L : List PI} {ks : List (List Int)} {a : List PI} (h : AllOk L ks a) (p : PI) : newB ks (keyP p) = !decide (p ∈ a) := by
  unfold newB
  by_cases hp : p ∈ a
  · rw [decide_eq_true hp, decide_eq_false]
    · rfl
    · rw [at_neg, h.seen]; exact fun hh => hh hp
  · rw [decide_eq_false hp, decide_eq_true]
    · rfl
    · rw [at_neg, h.seen]; exact hp
theorem AllOk.put {L : List PI} {ks : List (List Int)} {a : List PI} (h : AllOk L ks a) (p : PI) : AllOk (putQ L ks p) (putK ks p) (layP a p) := by
  have hn := h.new_is p
  refine ⟨h.ok.putQ p, ?_, layP_rise h.rise, fun q => ?_⟩
  · unfold putQ
    by_cases hp : p ∈ a
    · rw [hn, decide_eq_true hp, layP_same h.rise hp]; exact h.perm
    · rw [hn, decide_eq_false hp]
      exact put_lay h.perm hp
  · rw [layP_mem]
    unfold putK putL
    by_cases hp : p ∈ a
    · have h1 : ¬ atI ks (keyP p) < 0 := by rw [at_neg, h.seen]; exact fun hh => hh hp
      rw [if_neg h1, h.seen]
      exact ⟨.inl, fun hh => hh.elim id (fun e => e ▸ hp)⟩
    · have h1 : atI ks (keyP p) < 0 := by rw [at_neg, h.seen]; exact hp
      rw [if_pos h1, List.mem_append, h.seen, List.mem_singleton]
      exact ⟨fun hh => hh.elim .inl (fun e => .inr (keyP_inj e)), fun hh => hh.elim .inl (fun e => .inr (by rw [e]))⟩
theorem all_none : AllOk [] [] [] := ⟨ok_none, .refl _, .nil, fun _ => ⟨fun h => absurd h List.not_mem_nil, fun h => absurd h List.not_mem_nil⟩⟩
/-- what was laid of the first k -/
def laidK (l : List PI) (k : Nat) : List PI := (l.take k).foldl layP []
theorem laid_succ (l : List PI) (k : Nat) (h : k < l.length) : laidK l (k + 1) = layP (laidK l k) l[k] := by
  unfold laidK
  rw [List.take_succ_eq_append_getElem h, List.foldl_append]
  rfl
theorem laid_len (l : List PI) : ∀ k, k ≤ l.length → (laidK l k).length ≤ k
  | 0, _ => by unfold laidK; simp
  | k + 1, h => by
    rw [laid_succ l k (by omega)]
    have := layP_len l[k] (laidK l k)
    have := laid_len l k (by omega)
    omega
/-- what waits while all come -/
structure Drain (L : List PI) (ks : List (List Int)) (a : List PI) (i : Nat) : Prop where
  ok : QOk L ks (layI ks)
  perm : L.Perm (a.drop i)
theorem AllOk.drain {L : List PI} {ks : List (List Int)} {a : List PI} (h : AllOk L ks a) : Drain L ks a 0 := ⟨h.ok, by rw [List.drop_zero]; exact h.perm⟩
theorem Drain.next {L : List PI} {ks : List (List Int)} {a : List PI} {i : Nat} (h : Drain L ks a i) (hr : a.Pairwise ltP) (hi : i < a.length) : 0 < L.length ∧ nextX L = a[i] ∧ Drain (nextQ L) ks a (i + 1) := by
  obtain ⟨h1, h2, h3⟩ := drain_at h.ok.heap h.perm hr hi
  refine ⟨h1, by unfold nextX; rw [if_pos h1]; exact h2, h.ok.nextQ, ?_⟩
  unfold nextQ; rw [if_pos h1]; exact h3
theorem Drain.done {L : List PI} {ks : List (List Int)} {a : List PI} {i : Nat} (h : Drain L ks a i) (hi : a.length ≤ i) : ¬ 0 < L.length := by
  rw [h.perm.length_eq, List.length_drop]; omega
/-- two queues from which the same come -/
structure Both (L M : List PI) (ks kz : List (List Int)) : Prop where
  okL : QOk L ks (layI ks)
  okM : QOk M kz (layI kz)
  perm : L.Perm M
theorem Both.next {L M : List PI} {ks kz : List (List Int)} (h : Both L M ks kz) : nextX L = nextX M ∧ Both (nextQ L) (nextQ M) ks kz := by
  have hl := h.perm.length_eq
  unfold nextX
  by_cases h0 : 0 < L.length
  · have h1 : 0 < M.length := by omega
    obtain ⟨a, b⟩ := heads_same h.okL.heap h.okM.heap h.perm h0
    rw [if_pos h0, if_pos h1]
    refine ⟨a, h.okL.nextQ, h.okM.nextQ, ?_⟩
    unfold nextQ
    rw [if_pos h0, if_pos h1]
    exact b
  · have h1 : ¬ 0 < M.length := by omega
    rw [if_neg h0, if_neg h1]
    refine ⟨rfl, h.okL.nextQ, h.okM.nextQ, ?_⟩
    unfold nextQ
    rw [if_neg h0, if_neg h1]
    exact h.perm
theorem put_in (ks : List (List Int)) (p q : PI) : atI (ks ++ [keyP p]) (keyP q) < 0 ↔ atI ks (keyP q) < 0 ∧ q ≠ p := by
  rw [at_neg, at_neg, List.mem_append, List.mem_singleton, not_or]
  exact ⟨fun h => ⟨h.1, fun e => h.2 (by rw [e])⟩, fun h => ⟨h.1, fun e => h.2 (keyP_inj e)⟩⟩
theorem both_put {l : List PI} {ks : List (List Int)} (ok : QOk l ks (layI ks)) (p q : PI) : Both (putQ (putQ l ks p) (putK ks p) q) (putQ (putQ l ks q) (putK ks q) p) (putK (putK ks p) q) (putK (putK ks q) p) := by
  refine ⟨(ok.putQ p).putQ q, (ok.putQ q).putQ p, ?_⟩
  by_cases hp : atI ks (keyP p) < 0 <;> by_cases hq : atI ks (keyP q) < 0
  · by_cases e : q = p
    · subst e; exact .refl _
    · have h1 : atI (ks ++ [keyP p]) (keyP q) < 0 := (put_in ks p q).2 ⟨hq, e⟩
      have h2 : atI (ks ++ [keyP q]) (keyP p) < 0 := (put_in ks q p).2 ⟨hp, fun e2 => e e2.symm⟩
      unfold putQ putK putL newB
      rw [if_pos hp, if_pos hq]
      simp only [decide_eq_true hp, decide_eq_true hq, decide_eq_true h1, decide_eq_true h2, if_true]
      exact put_both l p q
  · have h1 : ¬ atI (ks ++ [keyP p]) (keyP q) < 0 := fun h => hq ((put_in ks p q).1 h).1
    unfold putQ putK putL newB
    rw [if_pos hp, if_neg hq]
    simp only [decide_eq_true hp, decide_eq_false hq, decide_eq_false h1, if_true, Bool.false_eq_true, if_false]
    exact .refl _
  · have h1 : ¬ atI (ks ++ [keyP q]) (keyP p) < 0 := fun h => hp ((put_in ks q p).1 h).1
    unfold putQ putK putL newB
    rw [if_neg hp, if_pos hq]
    simp only [decide_eq_true hq, decide_eq_false hp, decide_eq_false h1, if_true, Bool.false_eq_true, if_false]
    exact .refl _
  · unfold putQ putK putL newB
    rw [if_neg hp, if_neg hq]
    simp only [decide_eq_false hp, decide_eq_false hq, Bool.false_eq_true, if_false]
    exact .refl _
end Go.Proofs.Ytjgbheidkjgncaa.Wk
