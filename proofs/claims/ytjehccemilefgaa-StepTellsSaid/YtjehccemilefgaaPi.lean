/-
  What the proofs lean on, part 9 of 11.
-/
import Derived.Test.YtjehccemilefgaaPf
import Derived.Test.YtjehccemilefgaaPh
namespace Go.Proofs.Ytjehccemilefgaa.St
open Go.RowKit Kit Rw
open Go.Proofs.Ytjehccemilefgaa.Sg (Sig Row)
open Go.Proofs.Ytjehccemilefgaa.Hs (Ints Keys BoxT)
open Go.Proofs.Ytjehccemilefgaa.Tm (Tm Store termAt Box4 isPl isPl_iff)
set_option maxRecDepth 100000 in
set_option maxHeartbeats 4000000 in
theorem eachOfBoth10_any (B : Nat) (R : Option Addr) (cl : Nat) (L : List Sig) (x y : Int) (s : Tm) (A1 : Option Addr) (c1 : Nat) (t : Tm) (A2 : Option Addr) (c2 : Nat) (w : World) (h : PairB w B R cl L x y s A1 c1 t A2 c2) (a b : Nat) (hs : TOk L a s) (ht : TOk L b t) (k3 : s.k = 3) (m3 : t.k = 3) (hss : s.s = t.s) (hl8 : ∀ s ∈ L, s.2.size ≤ 8) :
    Calls Try.prog 57 #[.pointer (some ⟨B, 0, none⟩)] w (WayPost (1, conF L s.s 0 s.xs t.xs) w) := by
  have q0 := (Q.refl w).alloc (Obj.cells #[.int .i64 0, .slice none 0 0] 33)
  have HB := Lib.hid (h.q q0)
  have HQ0 := Lib.hid q0
  have HR8 := Lib.hid (way_kind w)
  clear h q0
  obtain ⟨j1, hj1, es, hls⟩ : ∃ (j1 : Nat) (h : j1 < L.length), s.s = (j1 : Int) ∧ s.xs.length = L[j1].2.size := by
    cases hs with
    | leaf _ h => omega
    | con j h _ a b _ => exact ⟨j, h, a, b⟩
    | two _ _ h => omega
    | proj j m h e h6 => omega
  obtain ⟨j2, hj2, et, hlt⟩ : ∃ (j2 : Nat) (h : j2 < L.length), t.s = (j2 : Int) ∧ t.xs.length = L[j2].2.size := by
    cases ht with
    | leaf _ h => omega
    | con j h _ a b _ => exact ⟨j, h, a, b⟩
    | two _ _ h => omega
    | proj j m h e h6 => omega
  obtain rfl : j1 = j2 := by omega
  have hll : t.xs.length = s.xs.length := by rw [hlt, hls]
  have h8 : s.xs.length ≤ 8 := by rw [hls]; exact hl8 _ (List.getElem_mem hj1)
  have HT := Lib.hid hs
  have H8 := Lib.hid hl8
  have HLL := Lib.hid hll
  have K3 := Lib.hid k3
  clear hs ht hl8 hlt hls es et hss m3 k3 hll
  go_enter Try.func57, Try.ntmps57
  go_upto_region 2 with fail
  generalize w.alloc (Obj.cells #[.int .i64 0, .slice none 0 0] 33) = W at *
  have hS : Hid (∀ U, Q W U → (U.cell? ⟨B, 0, none⟩ = some (.slice R L.length cl) ∧ U.cell? ⟨B, 3, none⟩ = some (.int .i64 s.k) ∧ U.cell? ⟨B, 4, none⟩ = some (.int .i64 s.s) ∧ U.cell? ⟨B, 5, none⟩ = some (.int .i64 s.p) ∧ U.cell? ⟨B, 6, none⟩ = some (.slice A1 s.xs.length c1))) := fun U q => ⟨((HB.out.q q).box.2 0 _ rfl).1, ((HB.out.q q).box.2 3 _ rfl).1, ((HB.out.q q).box.2 4 _ rfl).1, ((HB.out.q q).box.2 5 _ rfl).1, ((HB.out.q q).box.2 6 _ rfl).1⟩
  have CV := Lib.hid (fun U (q : Q W U) => vary10_any R A1 L.length cl s.xs.length c1 a L s U rfl (HB.out.q q).row HT.out H8.out)
  refine wp_region_held_drew (S := fun w' => w'.cell? ⟨B, 0, none⟩ = some (.slice R L.length cl) ∧ w'.cell? ⟨B, 3, none⟩ = some (.int .i64 s.k) ∧ w'.cell? ⟨B, 4, none⟩ = some (.int .i64 s.s) ∧ w'.cell? ⟨B, 5, none⟩ = some (.int .i64 s.p) ∧ w'.cell? ⟨B, 6, none⟩ = some (.slice A1 s.xs.length c1)) (by kernel_rfl) ?_ (fun hHeld => ?_)
  · exact hS.out _ (Q.refl W).drew
  refine take_w (i := 0) (d := some 8) (v := ?_) rfl (by kernel_rfl) (by kernel_rfl) (by kernel_rfl) (fun _ _ _ h => h) rfl (by rfl) ?_ (by assumption) ?_
  rotate_left
  · (intro w hSw; (try dsimp only at hSw); go_simp; (try with_reducible rfl))
  try simp only [Act.put, List.setIfInBounds_toArray, List.set_cons_zero, List.set_cons_succ]
  refine take_w (i := 1) (d := some 9) (v := ?_) rfl (by kernel_rfl) (by kernel_rfl) (by kernel_rfl) (fun _ _ _ h => h) rfl (by rfl) ?_ (by assumption) ?_
  rotate_left
  · (intro w hSw; (try dsimp only at hSw); go_simp; (try with_reducible rfl))
  try simp only [Act.put, List.setIfInBounds_toArray, List.set_cons_zero, List.set_cons_succ]
  refine take_w (i := 2) (d := some 10) (v := ?_) rfl (by kernel_rfl) (by kernel_rfl) (by kernel_rfl) (fun _ _ _ h => h) rfl (by rfl) ?_ (by assumption) ?_
  rotate_left
  · (intro w hSw; (try dsimp only at hSw); go_simp; (try with_reducible rfl))
  try simp only [Act.put, List.setIfInBounds_toArray, List.set_cons_zero, List.set_cons_succ]
  refine take_w (i := 3) (d := some 11) (v := ?_) rfl (by kernel_rfl) (by kernel_rfl) (by kernel_rfl) (fun _ _ _ h => h) rfl (by rfl) ?_ (by assumption) ?_
  rotate_left
  · (intro w hSw; (try dsimp only at hSw); go_simp; (try with_reducible rfl))
  try simp only [Act.put, List.setIfInBounds_toArray, List.set_cons_zero, List.set_cons_succ]
  refine take_w (i := 4) (d := some 12) (v := ?_) rfl (by kernel_rfl) (by kernel_rfl) (by kernel_rfl) (fun _ _ _ h => h) rfl (by rfl) ?_ (by assumption) ?_
  rotate_left
  · (intro w hSw; (try dsimp only at hSw); go_simp; (try with_reducible rfl))
  try simp only [Act.put, List.setIfInBounds_toArray, List.set_cons_zero, List.set_cons_succ]
  refine take_w (i := 5) (d := some 13) (v := ?_) rfl (by kernel_rfl) (by kernel_rfl) (by kernel_rfl) (fun _ _ _ h => h) rfl (by rfl) ?_ (by assumption) ?_
  rotate_left
  · (intro w hSw; (try dsimp only at hSw); go_simp; (try with_reducible rfl))
  try simp only [Act.put, List.setIfInBounds_toArray, List.set_cons_zero, List.set_cons_succ]
  refine take_w (i := 6) (d := some 14) (v := ?_) rfl (by kernel_rfl) (by kernel_rfl) (by kernel_rfl) (fun _ _ _ h => h) rfl (by rfl) ?_ (by assumption) ?_
  rotate_left
  · (intro w hSw; (try dsimp only at hSw); go_simp; (try with_reducible rfl))
  try simp only [Act.put, List.setIfInBounds_toArray, List.set_cons_zero, List.set_cons_succ]
  refine take_w (i := 7) (d := some 15) (v := ?_) rfl (by kernel_rfl) (by kernel_rfl) (by kernel_rfl) (fun _ _ _ h => h) rfl (by rfl) ?_ (by assumption) ?_
  rotate_left
  · (intro w hSw; (try dsimp only at hSw); go_simp; (try with_reducible rfl))
  try simp only [Act.put, List.setIfInBounds_toArray, List.set_cons_zero, List.set_cons_succ]
  refine call_w (i := 8) rfl (by kernel_rfl) (by rfl) (fun K hK => ?_)
  go_simp
  go_at_call 33
  refine (CV.out _ (Q.refl W).drew).mono ?_
  rintro e5 w5 ⟨bs, rfl, hvb, _, q5⟩
  have p5 := (Q.refl W).drew.trans q5
  have HVB := Lib.hid hvb
  clear hvb
  refine hK.out _ _ ?_ (fun hHeld => ?_)
  · exact hS.out _ p5
  clear hK K
  try simp only [Act.put, List.setIfInBounds_toArray, List.set_cons_zero, List.set_cons_succ]
  refine take_w (i := 9) (d := some 4) (v := ?_) rfl (by kernel_rfl) (by kernel_rfl) (by kernel_rfl) (fun _ _ _ h => h) rfl (by rfl) ?_ (by assumption) ?_
  rotate_left
  · (intro w hSw; (try dsimp only at hSw); go_simp; (try with_reducible rfl))
  try simp only [Act.put, List.setIfInBounds_toArray, List.set_cons_zero, List.set_cons_succ]
  refine wpAnyH_done (by kernel_rfl) ?_ _
  have x6 := (hS.out _ p5).2.2.2.2
  go_wp2_with fail
  clear x6
  go_loopw [3, 23] (fun u iv wr => ∃ (k : Nat) (P : List PI) (v : Value), k ≤ s.xs.length ∧ iv = .int .i64 k ∧ v = u ∧ P.length ≤ 2 * k ∧ Hid (conF L s.s 0 s.xs t.xs = P ++ conF L s.s k (s.xs.drop k) (t.xs.drop k)) ∧ Hid (wr.ownsRow W.heap.size 46 2 v P.length (cellsQ P)) ∧ Hid (Q W wr)) (fun _ iv _ => s.xs.length - (intOf iv).toNat)
  case atStart => exact ⟨0, [], _, Nat.zero_le _, rfl, rfl, Nat.zero_le _, Lib.hid (by simp), Lib.hid (own_nil w5 _ _ _), Lib.hid p5⟩
  case round =>
    obtain ⟨k, P, v, hk, rfl, rfl, hPl, HD, HO, HQ⟩ := hrel
    by_cases hkl : k < s.xs.length
    · have hkt : k < t.xs.length := by rw [HLL.out]; exact hkl
      obtain ⟨ad1, rfl, had1, e1⟩ := (HB.out.q HQ.out).i1.at_ hkl
      obtain ⟨ad2, rfl, had2, e2⟩ := (HB.out.q HQ.out).i2.at_ hkt
      have z10 : wr.cell? ⟨B, 10, none⟩ = some (.slice (some ad2) s.xs.length c2) := ((HB.out.q HQ.out).box.2 10 _ rfl).1.trans (by rw [HLL.out])
      have hkz : k < bs.size := Nat.lt_of_lt_of_le hkl HVB.out.1
      have hv : varyN L s.s k = bs[k] := by rw [HVB.out.2 k hkz hkl]; unfold varyT; rw [if_pos K3.out]
      have CP := Lib.hid (fun (U : World) (q : Q wr U) => varied10_any W.heap.size P v bs[k] (s.xs[k], t.xs[k]) (t.xs[k], s.xs[k]) U (row_kept HO.out q (Nat.le_refl _)) (Nat.le_trans HQ.out.size q.size) (by omega))
      have HD2 : Hid (conF L s.s 0 s.xs t.xs = (P ++ pairsA (s.xs[k], t.xs[k]) (t.xs[k], s.xs[k]) bs[k]) ++ conF L s.s (k + 1) (s.xs.drop (k + 1)) (t.xs.drop (k + 1))) := by
        unfold Hid
        rw [HD.out, conF_at _ _ k hkl hkt, hv, List.append_assoc]; rfl
      have hP2 : (P ++ pairsA (s.xs[k], t.xs[k]) (t.xs[k], s.xs[k]) bs[k]).length ≤ 2 * (k + 1) := by
        have : (pairsA (s.xs[k], t.xs[k]) (t.xs[k], s.xs[k]) bs[k]).length ≤ 2 := pairsF_len s.xs[k] t.xs[k] bs[k]
        rw [List.length_append]; omega
      generalize P ++ pairsA (s.xs[k], t.xs[k]) (t.xs[k], s.xs[k]) bs[k] = X at *
      have i0 : (k : Int) < (s.xs.length : Int) := by omega
      have i1 : (0 : Int) ≤ (k : Int) := Int.natCast_nonneg _
      have i2 : (k : Int) < (bs.size : Int) := by omega
      have i5 : decide ((k : Int) < (s.xs.length : Int)) = true := decide_eq_true i0
      clear hv HD
      go_wp2_with fail
      refine (CP.out _ (Q.refl wr)).mono ?_
      rintro e w4 ⟨v4, rfl, own4, b4⟩
      have Q4 : Hid (Q W w4) := Below.trans HQ.out b4
      have Own := Lib.hid own4
      clear own4 b4
      go_wp2_with fail
      go_roundw
      case rel => exact ⟨k + 1, X, v4, by omega, by go_num, rfl, hP2, HD2, Own, Q4⟩
      case measure => simp [intOf]; omega
    · have hkx : k = s.xs.length := by omega
      have HCF : Hid (conF L s.s 0 s.xs t.xs = P) := by
        unfold Hid
        rw [HD.out, conF_end _ _ k (by omega), List.append_nil]
      have i5 : decide ((k : Int) < (s.xs.length : Int)) = false := decide_eq_false (by omega)
      obtain ⟨A5, c5, rfl, hr5, hA5⟩ := own_open HO.out
      obtain ⟨⟨y0, y1⟩, hrd, hqw⟩ := way_close (w := w) (l := P) (.int .i64 1) (.slice A5 P.length c5) (HR8.out.q HQ.out) (Nat.le_refl _) (HQ0.out.trans HQ.out) hr5 (fun _ ad ha => Nat.ne_of_gt (Nat.lt_of_lt_of_le HR8.out.1 (hA5 ad ha)))
      have Y0 := Lib.hid y0
      have Y1 := Lib.hid y1
      have HRD := Lib.hid hrd
      have HQW := Lib.hid hqw
      have HFA := Lib.hid hA5
      obtain ⟨z00, z01⟩ := (HR8.out.q HQ.out).2 0 _ rfl
      obtain ⟨z10, z11⟩ := (HR8.out.q HQ.out).2 1 _ rfl
      clear y0 y1 hrd hqw hr5 hA5 HD hkx hk
      go_wp2_with fail
      have y0 := Y0.out
      have y1 := Y1.out
      exact bodyPost_ret (v := .agg #[.int .i64 1, .slice A5 P.length c5]) (by simp [results, Try.f57, go_sem, y0, y1]) rfl ⟨_, _, by rw [HCF.out], by rw [HCF.out]; exact HRD.out, HQW.out, fun ad ha => Nat.le_trans HQ0.out.size (HFA.out ad ha)⟩
end Go.Proofs.Ytjehccemilefgaa.St

namespace Go.Proofs.Ytjehccemilefgaa.St
open Go.RowKit Kit Rw
open Go.Proofs.Ytjehccemilefgaa.Sg (Sig Row)
open Go.Proofs.Ytjehccemilefgaa.Hs (Ints Keys BoxT)
open Go.Proofs.Ytjehccemilefgaa.Tm (Tm Store termAt Box4 isPl isPl_iff)
def Tells (B : Nat) (wy : Int × List PI) (w : World) (e : Ending) (w' : World) : Prop :=
  ∃ g, e = .returned (.func (.func g) #[.pointer (some ⟨B, 0, none⟩)] #[]) ∧ (∀ U, Q w U → Calls Try.prog g #[.pointer (some ⟨B, 0, none⟩)] U (WayPost wy U)) ∧ (∀ a U, (callFunc g a).run Try.prog U = .ok (.enter g a) U) ∧ Q w w'
set_option maxRecDepth 100000 in
set_option maxHeartbeats 8000000 in
theorem told10_any (B : Nat) (R : Option Addr) (cl : Nat) (L : List Sig) (x y : Int) (s : Tm) (A1 : Option Addr) (c1 : Nat) (t : Tm) (A2 : Option Addr) (c2 : Nat) (w : World) (h : PairB w B R cl L x y s A1 c1 t A2 c2) (a b : Nat) (hs : TOk L a s) (ht : TOk L b t) (hl8 : ∀ s ∈ L, s.2.size ≤ 8) (hx1 : s.k = 1 → x = 1) :
    Calls Try.prog 26 #[.pointer (some ⟨B, 0, none⟩)] w (Tells B (stepT L x y s t) w) := by
  have HB := Lib.hid h
  have HS1 := Lib.hid hs
  have HT1 := Lib.hid ht
  have H8 := Lib.hid hl8
  have HX1 := Lib.hid hx1
  have q1 := (Q.refl w).drew
  have q2 := (Q.refl w).drew.drew
  have hA : (w.drew.cell? ⟨B, 3, none⟩ = some (.int .i64 s.k) ∧ w.drew.cell? ⟨B, 7, none⟩ = some (.int .i64 t.k) ∧ w.drew.cell? ⟨B, 4, none⟩ = some (.int .i64 s.s) ∧ w.drew.cell? ⟨B, 8, none⟩ = some (.int .i64 t.s)) := ⟨((h.q q1).box.2 3 _ rfl).1, ((h.q q1).box.2 7 _ rfl).1, ((h.q q1).box.2 4 _ rfl).1, ((h.q q1).box.2 8 _ rfl).1⟩
  have hB : (w.drew.drew.cell? ⟨B, 1, none⟩ = some (.int .i64 x) ∧ w.drew.drew.cell? ⟨B, 2, none⟩ = some (.int .i64 y)) := ⟨((h.q q2).box.2 1 _ rfl).1, ((h.q q2).box.2 2 _ rfl).1⟩
  have HA := Lib.hid hA
  have HBB := Lib.hid hB
  have HQ2 := Lib.hid q2
  have HF : Hid (stepT L x y s t = stepT L x y s t) := rfl
  obtain ⟨wy, hwy⟩ : ∃ r, stepT L x y s t = r := ⟨_, rfl⟩
  rw [hwy]
  have HW := Lib.hid hwy
  clear h hs ht hl8 hx1 q1 q2 hA hB HF hwy
  go_enter Try.func26, Try.ntmps26
  go_upto_region 1 with fail
  refine wp_region_held_drew (S := fun w' => w'.cell? ⟨B, 3, none⟩ = some (.int .i64 s.k) ∧ w'.cell? ⟨B, 7, none⟩ = some (.int .i64 t.k) ∧ w'.cell? ⟨B, 4, none⟩ = some (.int .i64 s.s) ∧ w'.cell? ⟨B, 8, none⟩ = some (.int .i64 t.s)) (by kernel_rfl) ?_ (fun hHeld => ?_)
  · exact HA.out
  refine take_w (i := 0) (d := some 6) (v := ?_) rfl (by kernel_rfl) (by kernel_rfl) (by kernel_rfl) (fun _ _ _ h => h) rfl (by rfl) ?_ (by assumption) ?_
  rotate_left
  · (intro w hSw; (try dsimp only at hSw); go_simp; (try with_reducible rfl))
  try simp only [Act.put, List.setIfInBounds_toArray, List.set_cons_zero, List.set_cons_succ]
  refine take_w (i := 1) (d := some 7) (v := ?_) rfl (by kernel_rfl) (by kernel_rfl) (by kernel_rfl) (fun _ _ _ h => h) rfl (by rfl) ?_ (by assumption) ?_
  rotate_left
  · (intro w hSw; (try dsimp only at hSw); go_simp; (try with_reducible rfl))
  try simp only [Act.put, List.setIfInBounds_toArray, List.set_cons_zero, List.set_cons_succ]
  refine take_w (i := 2) (d := some 8) (v := ?_) rfl (by kernel_rfl) (by kernel_rfl) (by kernel_rfl) (fun _ _ _ h => h) rfl (by rfl) ?_ (by assumption) ?_
  rotate_left
  · (intro w hSw; (try dsimp only at hSw); go_simp; (try with_reducible rfl))
  try simp only [Act.put, List.setIfInBounds_toArray, List.set_cons_zero, List.set_cons_succ]
  refine take_w (i := 3) (d := some 9) (v := ?_) rfl (by kernel_rfl) (by kernel_rfl) (by kernel_rfl) (fun _ _ _ h => h) rfl (by rfl) ?_ (by assumption) ?_
  rotate_left
  · (intro w hSw; (try dsimp only at hSw); go_simp; (try with_reducible rfl))
  try simp only [Act.put, List.setIfInBounds_toArray, List.set_cons_zero, List.set_cons_succ]
  refine take_w (i := 4) (d := some 10) (v := ?_) rfl (by kernel_rfl) (by kernel_rfl) (by kernel_rfl) (fun _ _ _ h => h) rfl (by rfl) ?_ (by assumption) ?_
  rotate_left
  · (intro w hSw; (try dsimp only at hSw); go_simp; (try with_reducible rfl))
  try simp only [Act.put, List.setIfInBounds_toArray, List.set_cons_zero, List.set_cons_succ]
  refine take_w (i := 5) (d := some 11) (v := ?_) rfl (by kernel_rfl) (by kernel_rfl) (by kernel_rfl) (fun _ _ _ h => h) rfl (by rfl) ?_ (by assumption) ?_
  rotate_left
  · (intro w hSw; (try dsimp only at hSw); go_simp; (try with_reducible rfl))
  try simp only [Act.put, List.setIfInBounds_toArray, List.set_cons_zero, List.set_cons_succ]
  refine take_w (i := 6) (d := some 12) (v := ?_) rfl (by kernel_rfl) (by kernel_rfl) (by kernel_rfl) (fun _ _ _ h => h) rfl (by rfl) ?_ (by assumption) ?_
  rotate_left
  · (intro w hSw; (try dsimp only at hSw); go_simp; (try with_reducible rfl))
  try simp only [Act.put, List.setIfInBounds_toArray, List.set_cons_zero, List.set_cons_succ]
  refine take_w (i := 7) (d := some 13) (v := ?_) rfl (by kernel_rfl) (by kernel_rfl) (by kernel_rfl) (fun _ _ _ h => h) rfl (by rfl) ?_ (by assumption) ?_
  rotate_left
  · (intro w hSw; (try dsimp only at hSw); go_simp; (try with_reducible rfl))
  try simp only [Act.put, List.setIfInBounds_toArray, List.set_cons_zero, List.set_cons_succ]
  refine take_w (i := 8) (d := some 14) (v := ?_) rfl (by kernel_rfl) (by kernel_rfl) (by kernel_rfl) (fun _ _ _ h => h) rfl (by rfl) ?_ (by assumption) ?_
  rotate_left
  · (intro w hSw; (try dsimp only at hSw); go_simp; (try with_reducible rfl))
  try simp only [Act.put, List.setIfInBounds_toArray, List.set_cons_zero, List.set_cons_succ]
  refine take_w (i := 9) (d := some 15) (v := ?_) rfl (by kernel_rfl) (by kernel_rfl) (by kernel_rfl) (fun _ _ _ h => h) rfl (by rfl) ?_ (by assumption) ?_
  rotate_left
  · (intro w hSw; (try dsimp only at hSw); go_simp; (try with_reducible rfl))
  try simp only [Act.put, List.setIfInBounds_toArray, List.set_cons_zero, List.set_cons_succ]
  refine take_w (i := 10) (d := some 16) (v := ?_) rfl (by kernel_rfl) (by kernel_rfl) (by kernel_rfl) (fun _ _ _ h => h) rfl (by rfl) ?_ (by assumption) ?_
  rotate_left
  · (intro w hSw; (try dsimp only at hSw); go_simp; (try with_reducible rfl))
  try simp only [Act.put, List.setIfInBounds_toArray, List.set_cons_zero, List.set_cons_succ]
  refine take_w (i := 11) (d := some 17) (v := ?_) rfl (by kernel_rfl) (by kernel_rfl) (by kernel_rfl) (fun _ _ _ h => h) rfl (by rfl) ?_ (by assumption) ?_
  rotate_left
  · (intro w hSw; (try dsimp only at hSw); go_simp; (try with_reducible rfl))
  try simp only [Act.put, List.setIfInBounds_toArray, List.set_cons_zero, List.set_cons_succ]
  refine take_w (i := 12) (d := some 18) (v := ?_) rfl (by kernel_rfl) (by kernel_rfl) (by kernel_rfl) (fun _ _ _ h => h) rfl (by rfl) ?_ (by assumption) ?_
  rotate_left
  · (intro w hSw; (try dsimp only at hSw); go_simp; (try with_reducible rfl))
  try simp only [Act.put, List.setIfInBounds_toArray, List.set_cons_zero, List.set_cons_succ]
  refine take_w (i := 13) (d := some 19) (v := ?_) rfl (by kernel_rfl) (by kernel_rfl) (by kernel_rfl) (fun _ _ _ h => h) rfl (by rfl) ?_ (by assumption) ?_
  rotate_left
  · (intro w hSw; (try dsimp only at hSw); go_simp; (try with_reducible rfl))
  try simp only [Act.put, List.setIfInBounds_toArray, List.set_cons_zero, List.set_cons_succ]
  refine take_w (i := 14) (d := some 20) (v := ?_) rfl (by kernel_rfl) (by kernel_rfl) (by kernel_rfl) (fun _ _ _ h => h) rfl (by rfl) ?_ (by assumption) ?_
  rotate_left
  · (intro w hSw; (try dsimp only at hSw); go_simp; (try with_reducible rfl))
  try simp only [Act.put, List.setIfInBounds_toArray, List.set_cons_zero, List.set_cons_succ]
  refine take_w (i := 15) (d := some 21) (v := ?_) rfl (by kernel_rfl) (by kernel_rfl) (by kernel_rfl) (fun _ _ _ h => h) rfl (by rfl) ?_ (by assumption) ?_
  rotate_left
  · (intro w hSw; (try dsimp only at hSw); go_simp; (try with_reducible rfl))
  try simp only [Act.put, List.setIfInBounds_toArray, List.set_cons_zero, List.set_cons_succ]
  refine take_w (i := 16) (d := some 22) (v := ?_) rfl (by kernel_rfl) (by kernel_rfl) (by kernel_rfl) (fun _ _ _ h => h) rfl (by rfl) ?_ (by assumption) ?_
  rotate_left
  · (intro w hSw; (try dsimp only at hSw); go_simp; (try with_reducible rfl))
  try simp only [Act.put, List.setIfInBounds_toArray, List.set_cons_zero, List.set_cons_succ]
  refine take_w (i := 17) (d := some 23) (v := ?_) rfl (by kernel_rfl) (by kernel_rfl) (by kernel_rfl) (fun _ _ _ h => h) rfl (by rfl) ?_ (by assumption) ?_
  rotate_left
  · (intro w hSw; (try dsimp only at hSw); go_simp; (try with_reducible rfl))
  try simp only [Act.put, List.setIfInBounds_toArray, List.set_cons_zero, List.set_cons_succ]
  refine take_w (i := 18) (d := some 24) (v := ?_) rfl (by kernel_rfl) (by kernel_rfl) (by kernel_rfl) (fun _ _ _ h => h) rfl (by rfl) ?_ (by assumption) ?_
  rotate_left
  · (intro w hSw; (try dsimp only at hSw); go_simp; (try with_reducible rfl))
  try simp only [Act.put, List.setIfInBounds_toArray, List.set_cons_zero, List.set_cons_succ]
  refine take_w (i := 19) (d := some 25) (v := ?_) rfl (by kernel_rfl) (by kernel_rfl) (by kernel_rfl) (fun _ _ _ h => h) rfl (by rfl) ?_ (by assumption) ?_
  rotate_left
  · (intro w hSw; (try dsimp only at hSw); go_simp; (try with_reducible rfl))
  try simp only [Act.put, List.setIfInBounds_toArray, List.set_cons_zero, List.set_cons_succ]
  refine take_w (i := 20) (d := some 26) (v := ?_) rfl (by kernel_rfl) (by kernel_rfl) (by kernel_rfl) (fun _ _ _ h => h) rfl (by rfl) ?_ (by assumption) ?_
  rotate_left
  · (intro w hSw; (try dsimp only at hSw); go_simp; (try with_reducible rfl))
  try simp only [Act.put, List.setIfInBounds_toArray, List.set_cons_zero, List.set_cons_succ]
  refine take_w (i := 21) (d := some 3) (v := ?_) rfl (by kernel_rfl) (by kernel_rfl) (by kernel_rfl) (fun _ _ _ h => h) rfl (by rfl) ?_ (by assumption) ?_
  rotate_left
  · (intro w hSw; (try dsimp only at hSw); go_simp; (try with_reducible rfl))
  try simp only [Act.put, List.setIfInBounds_toArray, List.set_cons_zero, List.set_cons_succ]
  refine take_w (i := 22) (d := some 4) (v := ?_) rfl (by kernel_rfl) (by kernel_rfl) (by kernel_rfl) (fun _ _ _ h => h) rfl (by rfl) ?_ (by assumption) ?_
  rotate_left
  · (intro w hSw; (try dsimp only at hSw); go_simp; (try with_reducible rfl))
  try simp only [Act.put, List.setIfInBounds_toArray, List.set_cons_zero, List.set_cons_succ]
  refine take_w (i := 23) (d := some 5) (v := ?_) rfl (by kernel_rfl) (by kernel_rfl) (by kernel_rfl) (fun _ _ _ h => h) rfl (by rfl) ?_ (by assumption) ?_
  rotate_left
  · (intro w hSw; (try dsimp only at hSw); go_simp; (try with_reducible rfl))
  try simp only [Act.put, List.setIfInBounds_toArray, List.set_cons_zero, List.set_cons_succ]
  refine wpAnyH_done (by kernel_rfl) ?_ _
  go_upto_region 2 with fail
  refine wp_region_held_drew (S := fun w' => w'.cell? ⟨B, 1, none⟩ = some (.int .i64 x) ∧ w'.cell? ⟨B, 2, none⟩ = some (.int .i64 y)) (by kernel_rfl) ?_ (fun hHeld => ?_)
  · exact HBB.out
  refine take_w (i := 0) (d := some 28) (v := ?_) rfl (by kernel_rfl) (by kernel_rfl) (by kernel_rfl) (fun _ _ _ h => h) rfl (by rfl) ?_ (by assumption) ?_
  rotate_left
  · (intro w hSw; (try dsimp only at hSw); go_simp; (try with_reducible rfl))
  try simp only [Act.put, List.setIfInBounds_toArray, List.set_cons_zero, List.set_cons_succ]
  refine take_w (i := 1) (d := some 29) (v := ?_) rfl (by kernel_rfl) (by kernel_rfl) (by kernel_rfl) (fun _ _ _ h => h) rfl (by rfl) ?_ (by assumption) ?_
  rotate_left
  · (intro w hSw; (try dsimp only at hSw); go_simp; (try with_reducible rfl))
  try simp only [Act.put, List.setIfInBounds_toArray, List.set_cons_zero, List.set_cons_succ]
  refine take_w (i := 2) (d := some 30) (v := ?_) rfl (by kernel_rfl) (by kernel_rfl) (by kernel_rfl) (fun _ _ _ h => h) rfl (by rfl) ?_ (by assumption) ?_
  rotate_left
  · (intro w hSw; (try dsimp only at hSw); go_simp; (try with_reducible rfl))
  try simp only [Act.put, List.setIfInBounds_toArray, List.set_cons_zero, List.set_cons_succ]
  refine take_w (i := 3) (d := some 31) (v := ?_) rfl (by kernel_rfl) (by kernel_rfl) (by kernel_rfl) (fun _ _ _ h => h) rfl (by rfl) ?_ (by assumption) ?_
  rotate_left
  · (intro w hSw; (try dsimp only at hSw); go_simp; (try with_reducible rfl))
  try simp only [Act.put, List.setIfInBounds_toArray, List.set_cons_zero, List.set_cons_succ]
  refine take_w (i := 4) (d := some 32) (v := ?_) rfl (by kernel_rfl) (by kernel_rfl) (by kernel_rfl) (fun _ _ _ h => h) rfl (by rfl) ?_ (by assumption) ?_
  rotate_left
  · (intro w hSw; (try dsimp only at hSw); go_simp; (try with_reducible rfl))
  try simp only [Act.put, List.setIfInBounds_toArray, List.set_cons_zero, List.set_cons_succ]
  refine take_w (i := 5) (d := some 33) (v := ?_) rfl (by kernel_rfl) (by kernel_rfl) (by kernel_rfl) (fun _ _ _ h => h) rfl (by rfl) ?_ (by assumption) ?_
  rotate_left
  · (intro w hSw; (try dsimp only at hSw); go_simp; (try with_reducible rfl))
  try simp only [Act.put, List.setIfInBounds_toArray, List.set_cons_zero, List.set_cons_succ]
  refine take_w (i := 6) (d := some 34) (v := ?_) rfl (by kernel_rfl) (by kernel_rfl) (by kernel_rfl) (fun _ _ _ h => h) rfl (by rfl) ?_ (by assumption) ?_
  rotate_left
  · (intro w hSw; (try dsimp only at hSw); go_simp; (try with_reducible rfl))
  try simp only [Act.put, List.setIfInBounds_toArray, List.set_cons_zero, List.set_cons_succ]
  refine take_w (i := 7) (d := some 35) (v := ?_) rfl (by kernel_rfl) (by kernel_rfl) (by kernel_rfl) (fun _ _ _ h => h) rfl (by rfl) ?_ (by assumption) ?_
  rotate_left
  · (intro w hSw; (try dsimp only at hSw); go_simp; (try with_reducible rfl))
  try simp only [Act.put, List.setIfInBounds_toArray, List.set_cons_zero, List.set_cons_succ]
  refine take_w (i := 8) (d := some 36) (v := ?_) rfl (by kernel_rfl) (by kernel_rfl) (by kernel_rfl) (fun _ _ _ h => h) rfl (by rfl) ?_ (by assumption) ?_
  rotate_left
  · (intro w hSw; (try dsimp only at hSw); go_simp; (try with_reducible rfl))
  try simp only [Act.put, List.setIfInBounds_toArray, List.set_cons_zero, List.set_cons_succ]
  refine take_w (i := 9) (d := some 27) (v := ?_) rfl (by kernel_rfl) (by kernel_rfl) (by kernel_rfl) (fun _ _ _ h => h) rfl (by rfl) ?_ (by assumption) ?_
  rotate_left
  · (intro w hSw; (try dsimp only at hSw); go_simp; (try with_reducible rfl))
  try simp only [Act.put, List.setIfInBounds_toArray, List.set_cons_zero, List.set_cons_succ]
  refine wpAnyH_done (by kernel_rfl) ?_ _
  by_cases hxy : x = y
  · have d0 : (x == y) = true := beq_iff_eq.2 hxy
    have HFx : Hid (wy = (0, [])) := by unfold Hid; rw [← HW.out]; unfold stepT; rw [if_pos (.inl hxy)]
    clear hxy
    go_wp2_with fail
    go_ret
    exact ⟨51, rfl, fun U q => by rw [HFx.out]; exact done10_any _ U, enters_of Try.func51 (by kernel_rfl) rfl, HQ2.out⟩
  · have HNhxy : Hid True := trivial
    by_cases k0 : s.k = 0
    · have d0 : (x == y) = false := beq_eq_false_iff_ne.2 hxy
      have d1 : (s.k == 0) = true := beq_iff_eq.2 k0
      have HFx : Hid (wy = (0, [])) := by unfold Hid; rw [← HW.out]; unfold stepT; rw [if_pos (.inr (.inl k0))]
      clear hxy k0
      go_wp2_with fail
      go_ret
      exact ⟨51, rfl, fun U q => by rw [HFx.out]; exact done10_any _ U, enters_of Try.func51 (by kernel_rfl) rfl, HQ2.out⟩
    · have HNk0 : Hid True := trivial
      by_cases k1 : t.k = 1
      · have d0 : (x == y) = false := beq_eq_false_iff_ne.2 hxy
        have d1 : (s.k == 0) = false := beq_eq_false_iff_ne.2 k0
        have d2 : (t.k == 1) = true := beq_iff_eq.2 k1
        have HFx : Hid (wy = (0, [])) := by unfold Hid; rw [← HW.out]; unfold stepT; rw [if_pos (.inr (.inr k1))]
        clear hxy k0 k1
        go_wp2_with fail
        go_ret
        exact ⟨51, rfl, fun U q => by rw [HFx.out]; exact done10_any _ U, enters_of Try.func51 (by kernel_rfl) rfl, HQ2.out⟩
      · have HNk1 : Hid True := trivial
        by_cases k4 : s.k = 4
        · obtain ⟨u, v, hxs⟩ : ∃ u v, s.xs = [u, v] := by
            cases HS1.out with
            | leaf _ h => omega
            | con j h h3 => omega
            | two a b _ hx => exact ⟨a, b, hx⟩
            | proj j m h e h6 => omega
          have d0 : (x == y) = false := beq_eq_false_iff_ne.2 hxy
          have d1 : (s.k == 0) = false := beq_eq_false_iff_ne.2 k0
          have d2 : (t.k == 1) = false := beq_eq_false_iff_ne.2 k1
          have d3 : (s.k == 4) = true := beq_iff_eq.2 k4
          have HFx : Hid (wy = (1, s.xs.map (fun a : Int => ((a, y) : PI)))) := by unfold Hid; rw [← HW.out]; unfold stepT; rw [if_neg (by rintro (h | h | h) <;> contradiction), if_pos k4, hxs]; rfl
          have HLX : Hid (s.xs.length ≤ 1000) := by unfold Hid; rw [hxs]; simp
          clear hxy k0 k1 k4 hxs
          go_wp2_with fail
          go_ret
          exact ⟨52, rfl, fun U q => by rw [HFx.out]; exact eachOnLeft10_any B R cl L x y s A1 c1 t A2 c2 U (HB.out.q q) HLX.out, enters_of Try.func52 (by kernel_rfl) rfl, HQ2.out⟩
        · have HNk4 : Hid True := trivial
          by_cases k5 : t.k = 5
          · obtain ⟨u, v, hxs⟩ : ∃ u v, t.xs = [u, v] := by
              cases HT1.out with
              | leaf _ h => omega
              | con j h h3 => omega
              | two a b _ hx => exact ⟨a, b, hx⟩
              | proj j m h e h6 => omega
            have d0 : (x == y) = false := beq_eq_false_iff_ne.2 hxy
            have d1 : (s.k == 0) = false := beq_eq_false_iff_ne.2 k0
            have d2 : (t.k == 1) = false := beq_eq_false_iff_ne.2 k1
            have d3 : (s.k == 4) = false := beq_eq_false_iff_ne.2 k4
            have d4 : (t.k == 5) = true := beq_iff_eq.2 k5
            have HFx : Hid (wy = (1, t.xs.map (fun a : Int => ((x, a) : PI)))) := by unfold Hid; rw [← HW.out]; unfold stepT; rw [if_neg (by rintro (h | h | h) <;> contradiction), if_neg k4, if_pos k5, hxs]; rfl
            have HLX : Hid (t.xs.length ≤ 1000) := by unfold Hid; rw [hxs]; simp
            clear hxy k0 k1 k4 k5 hxs
            go_wp2_with fail
            go_ret
            exact ⟨53, rfl, fun U q => by rw [HFx.out]; exact eachOnRight10_any B R cl L x y s A1 c1 t A2 c2 U (HB.out.q q) HLX.out, enters_of Try.func53 (by kernel_rfl) rfl, HQ2.out⟩
          · have HNk5 : Hid True := trivial
            by_cases k2 : s.k = 2
            · have d0 : (x == y) = false := beq_eq_false_iff_ne.2 hxy
              have d1 : (s.k == 0) = false := beq_eq_false_iff_ne.2 k0
              have d2 : (t.k == 1) = false := beq_eq_false_iff_ne.2 k1
              have d3 : (s.k == 4) = false := beq_eq_false_iff_ne.2 k4
              have d4 : (t.k == 5) = false := beq_eq_false_iff_ne.2 k5
              have d5 : (s.k == 2) = true := beq_iff_eq.2 k2
              have HFx : Hid (wy = (2, [])) := by unfold Hid; rw [← HW.out]; unfold stepT; rw [if_neg (by rintro (h | h | h) <;> contradiction), if_neg k4, if_neg k5, if_pos (.inl k2)]
              clear hxy k0 k1 k4 k5 k2
              go_wp2_with fail
              go_ret
              exact ⟨54, rfl, fun U q => by rw [HFx.out]; exact atom10_any _ U, enters_of Try.func54 (by kernel_rfl) rfl, HQ2.out⟩
            · have HNk2 : Hid True := trivial
              by_cases m2 : t.k = 2
              · have d0 : (x == y) = false := beq_eq_false_iff_ne.2 hxy
                have d1 : (s.k == 0) = false := beq_eq_false_iff_ne.2 k0
                have d2 : (t.k == 1) = false := beq_eq_false_iff_ne.2 k1
                have d3 : (s.k == 4) = false := beq_eq_false_iff_ne.2 k4
                have d4 : (t.k == 5) = false := beq_eq_false_iff_ne.2 k5
                have d5 : (s.k == 2) = false := beq_eq_false_iff_ne.2 k2
                have d6 : (t.k == 2) = true := beq_iff_eq.2 m2
                have HFx : Hid (wy = (2, [])) := by unfold Hid; rw [← HW.out]; unfold stepT; rw [if_neg (by rintro (h | h | h) <;> contradiction), if_neg k4, if_neg k5, if_pos (.inr m2)]
                clear hxy k0 k1 k4 k5 k2 m2
                go_wp2_with fail
                go_ret
                exact ⟨54, rfl, fun U q => by rw [HFx.out]; exact atom10_any _ U, enters_of Try.func54 (by kernel_rfl) rfl, HQ2.out⟩
              · have HNm2 : Hid True := trivial
                by_cases m6 : t.k = 6
                · by_cases a1 : s.k = 1
                  · have d0 : (x == y) = false := beq_eq_false_iff_ne.2 hxy
                    have d1 : (s.k == 0) = false := beq_eq_false_iff_ne.2 k0
                    have d2 : (t.k == 1) = false := beq_eq_false_iff_ne.2 k1
                    have d3 : (s.k == 4) = false := beq_eq_false_iff_ne.2 k4
                    have d4 : (t.k == 5) = false := beq_eq_false_iff_ne.2 k5
                    have d5 : (s.k == 2) = false := beq_eq_false_iff_ne.2 k2
                    have d6 : (t.k == 2) = false := beq_eq_false_iff_ne.2 m2
                    have d7 : (t.k == 6) = true := beq_iff_eq.2 m6
                    have d8 : (s.k == 1) = true := beq_iff_eq.2 a1
                    have HFx : Hid (wy = (1, pairsA (x, t.xs.headD 0) (t.xs.headD 0, 0) (varyN L t.s t.p.toNat))) := by unfold Hid; rw [← HW.out]; unfold stepT; rw [if_neg (by rintro (h | h | h) <;> contradiction), if_neg k4, if_neg k5, if_neg (by rintro (h | h) <;> contradiction), if_pos m6]; unfold projF; rw [if_pos a1]; rw [show x = 1 from HX1.out a1]; rfl
                    have M6 := Lib.hid m6
                    clear hxy k0 k1 k4 k5 k2 m2 m6 a1
                    go_wp2_with fail
                    go_ret
                    exact ⟨55, rfl, fun U q => by rw [HFx.out]; exact partOfAll10_any B R cl L x y s A1 c1 t A2 c2 U (HB.out.q q) b HT1.out M6.out H8.out, enters_of Try.func55 (by kernel_rfl) rfl, HQ2.out⟩
                  · by_cases a3 : s.k = 3
                    · by_cases ess : s.s = t.s
                      · obtain ⟨m, hm, hms⟩ : ∃ m : Nat, t.p = (m : Int) ∧ m < s.xs.length := by
                          cases HT1.out with
                          | leaf _ h => omega
                          | con j h h3 => omega
                          | two a b h => omega
                          | proj j m h e _ g1 g2 g3 =>
                            cases HS1.out with
                            | leaf _ h => omega
                            | con j' h' _ f1 f2 =>
                              have : j' = j := by omega
                              subst this
                              exact ⟨m, g2, by omega⟩
                            | two _ _ h => omega
                            | proj _ _ _ _ h => omega
                        have HMS := Lib.hid hms
                        have HM := Lib.hid hm
                        have M6 := Lib.hid m6
                        have d0 : (x == y) = false := beq_eq_false_iff_ne.2 hxy
                        have d1 : (s.k == 0) = false := beq_eq_false_iff_ne.2 k0
                        have d2 : (t.k == 1) = false := beq_eq_false_iff_ne.2 k1
                        have d3 : (s.k == 4) = false := beq_eq_false_iff_ne.2 k4
                        have d4 : (t.k == 5) = false := beq_eq_false_iff_ne.2 k5
                        have d5 : (s.k == 2) = false := beq_eq_false_iff_ne.2 k2
                        have d6 : (t.k == 2) = false := beq_eq_false_iff_ne.2 m2
                        have d7 : (t.k == 6) = true := beq_iff_eq.2 m6
                        have d8 : (s.k == 1) = false := beq_eq_false_iff_ne.2 a1
                        have d9 : (s.k == 3) = true := beq_iff_eq.2 a3
                        have d10 : (s.s == t.s) = true := beq_iff_eq.2 ess
                        have HFx : Hid (wy = (1, pairsA (s.xs[m]?.getD 0, t.xs.headD 0) (t.xs.headD 0, s.xs[m]?.getD 0) (varyN L t.s t.p.toNat))) := by unfold Hid; rw [← HW.out]; unfold stepT; rw [if_neg (by rintro (h | h | h) <;> contradiction), if_neg k4, if_neg k5, if_neg (by rintro (h | h) <;> contradiction), if_pos m6]; unfold projF; rw [if_neg a1, if_pos ⟨a3, ess⟩]; simp only [hm, Int.toNat_natCast]; rfl
                        clear hxy k0 k1 k4 k5 k2 m2 m6 a1 a3 ess hm hms
                        go_wp2_with fail
                        go_ret
                        exact ⟨56, rfl, fun U q => by rw [HFx.out]; exact partOfCon10_any B R cl L x y s A1 c1 t A2 c2 U (HB.out.q q) b HT1.out M6.out H8.out m HM.out HMS.out, enters_of Try.func56 (by kernel_rfl) rfl, HQ2.out⟩
                      · have d0 : (x == y) = false := beq_eq_false_iff_ne.2 hxy
                        have d1 : (s.k == 0) = false := beq_eq_false_iff_ne.2 k0
                        have d2 : (t.k == 1) = false := beq_eq_false_iff_ne.2 k1
                        have d3 : (s.k == 4) = false := beq_eq_false_iff_ne.2 k4
                        have d4 : (t.k == 5) = false := beq_eq_false_iff_ne.2 k5
                        have d5 : (s.k == 2) = false := beq_eq_false_iff_ne.2 k2
                        have d6 : (t.k == 2) = false := beq_eq_false_iff_ne.2 m2
                        have d7 : (t.k == 6) = true := beq_iff_eq.2 m6
                        have d8 : (s.k == 1) = false := beq_eq_false_iff_ne.2 a1
                        have d9 : (s.k == 3) = true := beq_iff_eq.2 a3
                        have d10 : (s.s == t.s) = false := beq_eq_false_iff_ne.2 ess
                        have HFx : Hid (wy = (0, [])) := by unfold Hid; rw [← HW.out]; unfold stepT; rw [if_neg (by rintro (h | h | h) <;> contradiction), if_neg k4, if_neg k5, if_neg (by rintro (h | h) <;> contradiction), if_pos m6]; unfold projF; rw [if_neg a1, if_neg (fun h => ess h.2)]
                        clear hxy k0 k1 k4 k5 k2 m2 m6 a1 a3 ess
                        go_wp2_with fail
                        go_ret
                        exact ⟨51, rfl, fun U q => by rw [HFx.out]; exact done10_any _ U, enters_of Try.func51 (by kernel_rfl) rfl, HQ2.out⟩
                    · have b3 : ¬ t.k = 3 := by omega
                      have b0 : ¬ t.k = 0 := by omega
                      have d0 : (x == y) = false := beq_eq_false_iff_ne.2 hxy
                      have d1 : (s.k == 0) = false := beq_eq_false_iff_ne.2 k0
                      have d2 : (t.k == 1) = false := beq_eq_false_iff_ne.2 k1
                      have d3 : (s.k == 4) = false := beq_eq_false_iff_ne.2 k4
                      have d4 : (t.k == 5) = false := beq_eq_false_iff_ne.2 k5
                      have d5 : (s.k == 2) = false := beq_eq_false_iff_ne.2 k2
                      have d6 : (t.k == 2) = false := beq_eq_false_iff_ne.2 m2
                      have d7 : (t.k == 6) = true := beq_iff_eq.2 m6
                      have d8 : (s.k == 1) = false := beq_eq_false_iff_ne.2 a1
                      have d9 : (s.k == 3) = false := beq_eq_false_iff_ne.2 a3
                      have HFx : Hid (wy = (0, [])) := by unfold Hid; rw [← HW.out]; unfold stepT; rw [if_neg (by rintro (h | h | h) <;> contradiction), if_neg k4, if_neg k5, if_neg (by rintro (h | h) <;> contradiction), if_pos m6]; unfold projF; rw [if_neg a1, if_neg (fun h => a3 h.1)]
                      clear hxy k0 k1 k4 k5 k2 m2 m6 a1 a3 b3 b0
                      go_wp2_with fail
                      go_ret
                      exact ⟨51, rfl, fun U q => by rw [HFx.out]; exact done10_any _ U, enters_of Try.func51 (by kernel_rfl) rfl, HQ2.out⟩
                · by_cases a3 : s.k = 3
                  · by_cases b3 : t.k = 3
                    · by_cases ess : s.s = t.s
                      · have A3 := Lib.hid a3
                        have B3 := Lib.hid b3
                        have ES := Lib.hid ess
                        have d0 : (x == y) = false := beq_eq_false_iff_ne.2 hxy
                        have d1 : (s.k == 0) = false := beq_eq_false_iff_ne.2 k0
                        have d2 : (t.k == 1) = false := beq_eq_false_iff_ne.2 k1
                        have d3 : (s.k == 4) = false := beq_eq_false_iff_ne.2 k4
                        have d4 : (t.k == 5) = false := beq_eq_false_iff_ne.2 k5
                        have d5 : (s.k == 2) = false := beq_eq_false_iff_ne.2 k2
                        have d6 : (t.k == 2) = false := beq_eq_false_iff_ne.2 m2
                        have d7 : (t.k == 6) = false := beq_eq_false_iff_ne.2 m6
                        have d8 : (s.k == 3) = true := beq_iff_eq.2 a3
                        have d9 : (t.k == 3) = true := beq_iff_eq.2 b3
                        have d10 : (s.s == t.s) = true := beq_iff_eq.2 ess
                        have HFx : Hid (wy = (1, conF L s.s 0 s.xs t.xs)) := by unfold Hid; rw [← HW.out]; unfold stepT; rw [if_neg (by rintro (h | h | h) <;> contradiction), if_neg k4, if_neg k5, if_neg (by rintro (h | h) <;> contradiction), if_neg m6, if_pos ⟨a3, b3, ess⟩]
                        clear hxy k0 k1 k4 k5 k2 m2 m6 a3 b3 ess
                        go_wp2_with fail
                        go_ret
                        exact ⟨57, rfl, fun U q => by rw [HFx.out]; exact eachOfBoth10_any B R cl L x y s A1 c1 t A2 c2 U (HB.out.q q) a b HS1.out HT1.out A3.out B3.out ES.out H8.out, enters_of Try.func57 (by kernel_rfl) rfl, HQ2.out⟩
                      · have a1 : ¬ s.k = 1 := by omega
                        have b0 : ¬ t.k = 0 := by omega
                        have d0 : (x == y) = false := beq_eq_false_iff_ne.2 hxy
                        have d1 : (s.k == 0) = false := beq_eq_false_iff_ne.2 k0
                        have d2 : (t.k == 1) = false := beq_eq_false_iff_ne.2 k1
                        have d3 : (s.k == 4) = false := beq_eq_false_iff_ne.2 k4
                        have d4 : (t.k == 5) = false := beq_eq_false_iff_ne.2 k5
                        have d5 : (s.k == 2) = false := beq_eq_false_iff_ne.2 k2
                        have d6 : (t.k == 2) = false := beq_eq_false_iff_ne.2 m2
                        have d7 : (t.k == 6) = false := beq_eq_false_iff_ne.2 m6
                        have d8 : (s.k == 3) = true := beq_iff_eq.2 a3
                        have d9 : (t.k == 3) = true := beq_iff_eq.2 b3
                        have d10 : (s.s == t.s) = false := beq_eq_false_iff_ne.2 ess
                        have d11 : (s.k == 1) = false := beq_eq_false_iff_ne.2 a1
                        have d12 : (t.k == 0) = false := beq_eq_false_iff_ne.2 b0
                        have HFx : Hid (wy = (3, [])) := by unfold Hid; rw [← HW.out]; unfold stepT; rw [if_neg (by rintro (h | h | h) <;> contradiction), if_neg k4, if_neg k5, if_neg (by rintro (h | h) <;> contradiction), if_neg m6, if_neg (fun h => ess h.2.2), if_pos ⟨.inr a3, .inr b3⟩]
                        clear hxy k0 k1 k4 k5 k2 m2 m6 a3 b3 ess a1 b0
                        go_wp2_with fail
                        go_ret
                        exact ⟨58, rfl, fun U q => by rw [HFx.out]; exact clash10_any _ U, enters_of Try.func58 (by kernel_rfl) rfl, HQ2.out⟩
                    · by_cases b0 : t.k = 0
                      · have a1 : ¬ s.k = 1 := by omega
                        have d0 : (x == y) = false := beq_eq_false_iff_ne.2 hxy
                        have d1 : (s.k == 0) = false := beq_eq_false_iff_ne.2 k0
                        have d2 : (t.k == 1) = false := beq_eq_false_iff_ne.2 k1
                        have d3 : (s.k == 4) = false := beq_eq_false_iff_ne.2 k4
                        have d4 : (t.k == 5) = false := beq_eq_false_iff_ne.2 k5
                        have d5 : (s.k == 2) = false := beq_eq_false_iff_ne.2 k2
                        have d6 : (t.k == 2) = false := beq_eq_false_iff_ne.2 m2
                        have d7 : (t.k == 6) = false := beq_eq_false_iff_ne.2 m6
                        have d8 : (s.k == 3) = true := beq_iff_eq.2 a3
                        have d9 : (t.k == 3) = false := beq_eq_false_iff_ne.2 b3
                        have d10 : (s.k == 1) = false := beq_eq_false_iff_ne.2 a1
                        have d11 : (t.k == 0) = true := beq_iff_eq.2 b0
                        have HFx : Hid (wy = (3, [])) := by unfold Hid; rw [← HW.out]; unfold stepT; rw [if_neg (by rintro (h | h | h) <;> contradiction), if_neg k4, if_neg k5, if_neg (by rintro (h | h) <;> contradiction), if_neg m6, if_neg (fun h => b3 h.2.1), if_pos ⟨.inr a3, .inl b0⟩]
                        clear hxy k0 k1 k4 k5 k2 m2 m6 a3 b3 a1 b0
                        go_wp2_with fail
                        go_ret
                        exact ⟨58, rfl, fun U q => by rw [HFx.out]; exact clash10_any _ U, enters_of Try.func58 (by kernel_rfl) rfl, HQ2.out⟩
                      · have a1 : ¬ s.k = 1 := by omega
                        have d0 : (x == y) = false := beq_eq_false_iff_ne.2 hxy
                        have d1 : (s.k == 0) = false := beq_eq_false_iff_ne.2 k0
                        have d2 : (t.k == 1) = false := beq_eq_false_iff_ne.2 k1
                        have d3 : (s.k == 4) = false := beq_eq_false_iff_ne.2 k4
                        have d4 : (t.k == 5) = false := beq_eq_false_iff_ne.2 k5
                        have d5 : (s.k == 2) = false := beq_eq_false_iff_ne.2 k2
                        have d6 : (t.k == 2) = false := beq_eq_false_iff_ne.2 m2
                        have d7 : (t.k == 6) = false := beq_eq_false_iff_ne.2 m6
                        have d8 : (s.k == 3) = true := beq_iff_eq.2 a3
                        have d9 : (t.k == 3) = false := beq_eq_false_iff_ne.2 b3
                        have d10 : (s.k == 1) = false := beq_eq_false_iff_ne.2 a1
                        have d11 : (t.k == 0) = false := beq_eq_false_iff_ne.2 b0
                        have HFx : Hid (wy = (0, [])) := by unfold Hid; rw [← HW.out]; unfold stepT; rw [if_neg (by rintro (h | h | h) <;> contradiction), if_neg k4, if_neg k5, if_neg (by rintro (h | h) <;> contradiction), if_neg m6, if_neg (fun h => b3 h.2.1), if_neg (by omega)]
                        clear hxy k0 k1 k4 k5 k2 m2 m6 a3 b3 a1 b0
                        go_wp2_with fail
                        go_ret
                        exact ⟨51, rfl, fun U q => by rw [HFx.out]; exact done10_any _ U, enters_of Try.func51 (by kernel_rfl) rfl, HQ2.out⟩
                  · by_cases a1 : s.k = 1
                    · by_cases b0 : t.k = 0
                      · have b3 : ¬ t.k = 3 := by omega
                        have d0 : (x == y) = false := beq_eq_false_iff_ne.2 hxy
                        have d1 : (s.k == 0) = false := beq_eq_false_iff_ne.2 k0
                        have d2 : (t.k == 1) = false := beq_eq_false_iff_ne.2 k1
                        have d3 : (s.k == 4) = false := beq_eq_false_iff_ne.2 k4
                        have d4 : (t.k == 5) = false := beq_eq_false_iff_ne.2 k5
                        have d5 : (s.k == 2) = false := beq_eq_false_iff_ne.2 k2
                        have d6 : (t.k == 2) = false := beq_eq_false_iff_ne.2 m2
                        have d7 : (t.k == 6) = false := beq_eq_false_iff_ne.2 m6
                        have d8 : (s.k == 3) = false := beq_eq_false_iff_ne.2 a3
                        have d9 : (s.k == 1) = true := beq_iff_eq.2 a1
                        have d10 : (t.k == 0) = true := beq_iff_eq.2 b0
                        have d11 : (t.k == 3) = false := beq_eq_false_iff_ne.2 b3
                        have HFx : Hid (wy = (3, [])) := by unfold Hid; rw [← HW.out]; unfold stepT; rw [if_neg (by rintro (h | h | h) <;> contradiction), if_neg k4, if_neg k5, if_neg (by rintro (h | h) <;> contradiction), if_neg m6, if_neg (fun h => a3 h.1), if_pos ⟨.inl a1, .inl b0⟩]
                        clear hxy k0 k1 k4 k5 k2 m2 m6 a3 a1 b0 b3
                        go_wp2_with fail
                        go_ret
                        exact ⟨58, rfl, fun U q => by rw [HFx.out]; exact clash10_any _ U, enters_of Try.func58 (by kernel_rfl) rfl, HQ2.out⟩
                      · by_cases b3 : t.k = 3
                        · have d0 : (x == y) = false := beq_eq_false_iff_ne.2 hxy
                          have d1 : (s.k == 0) = false := beq_eq_false_iff_ne.2 k0
                          have d2 : (t.k == 1) = false := beq_eq_false_iff_ne.2 k1
                          have d3 : (s.k == 4) = false := beq_eq_false_iff_ne.2 k4
                          have d4 : (t.k == 5) = false := beq_eq_false_iff_ne.2 k5
                          have d5 : (s.k == 2) = false := beq_eq_false_iff_ne.2 k2
                          have d6 : (t.k == 2) = false := beq_eq_false_iff_ne.2 m2
                          have d7 : (t.k == 6) = false := beq_eq_false_iff_ne.2 m6
                          have d8 : (s.k == 3) = false := beq_eq_false_iff_ne.2 a3
                          have d9 : (s.k == 1) = true := beq_iff_eq.2 a1
                          have d10 : (t.k == 0) = false := beq_eq_false_iff_ne.2 b0
                          have d11 : (t.k == 3) = true := beq_iff_eq.2 b3
                          have HFx : Hid (wy = (3, [])) := by unfold Hid; rw [← HW.out]; unfold stepT; rw [if_neg (by rintro (h | h | h) <;> contradiction), if_neg k4, if_neg k5, if_neg (by rintro (h | h) <;> contradiction), if_neg m6, if_neg (fun h => a3 h.1), if_pos ⟨.inl a1, .inr b3⟩]
                          clear hxy k0 k1 k4 k5 k2 m2 m6 a3 a1 b0 b3
                          go_wp2_with fail
                          go_ret
                          exact ⟨58, rfl, fun U q => by rw [HFx.out]; exact clash10_any _ U, enters_of Try.func58 (by kernel_rfl) rfl, HQ2.out⟩
                        · have d0 : (x == y) = false := beq_eq_false_iff_ne.2 hxy
                          have d1 : (s.k == 0) = false := beq_eq_false_iff_ne.2 k0
                          have d2 : (t.k == 1) = false := beq_eq_false_iff_ne.2 k1
                          have d3 : (s.k == 4) = false := beq_eq_false_iff_ne.2 k4
                          have d4 : (t.k == 5) = false := beq_eq_false_iff_ne.2 k5
                          have d5 : (s.k == 2) = false := beq_eq_false_iff_ne.2 k2
                          have d6 : (t.k == 2) = false := beq_eq_false_iff_ne.2 m2
                          have d7 : (t.k == 6) = false := beq_eq_false_iff_ne.2 m6
                          have d8 : (s.k == 3) = false := beq_eq_false_iff_ne.2 a3
                          have d9 : (s.k == 1) = true := beq_iff_eq.2 a1
                          have d10 : (t.k == 0) = false := beq_eq_false_iff_ne.2 b0
                          have d11 : (t.k == 3) = false := beq_eq_false_iff_ne.2 b3
                          have HFx : Hid (wy = (0, [])) := by unfold Hid; rw [← HW.out]; unfold stepT; rw [if_neg (by rintro (h | h | h) <;> contradiction), if_neg k4, if_neg k5, if_neg (by rintro (h | h) <;> contradiction), if_neg m6, if_neg (fun h => a3 h.1), if_neg (by omega)]
                          clear hxy k0 k1 k4 k5 k2 m2 m6 a3 a1 b0 b3
                          go_wp2_with fail
                          go_ret
                          exact ⟨51, rfl, fun U q => by rw [HFx.out]; exact done10_any _ U, enters_of Try.func51 (by kernel_rfl) rfl, HQ2.out⟩
                    · have d0 : (x == y) = false := beq_eq_false_iff_ne.2 hxy
                      have d1 : (s.k == 0) = false := beq_eq_false_iff_ne.2 k0
                      have d2 : (t.k == 1) = false := beq_eq_false_iff_ne.2 k1
                      have d3 : (s.k == 4) = false := beq_eq_false_iff_ne.2 k4
                      have d4 : (t.k == 5) = false := beq_eq_false_iff_ne.2 k5
                      have d5 : (s.k == 2) = false := beq_eq_false_iff_ne.2 k2
                      have d6 : (t.k == 2) = false := beq_eq_false_iff_ne.2 m2
                      have d7 : (t.k == 6) = false := beq_eq_false_iff_ne.2 m6
                      have d8 : (s.k == 3) = false := beq_eq_false_iff_ne.2 a3
                      have d9 : (s.k == 1) = false := beq_eq_false_iff_ne.2 a1
                      have HFx : Hid (wy = (0, [])) := by unfold Hid; rw [← HW.out]; unfold stepT; rw [if_neg (by rintro (h | h | h) <;> contradiction), if_neg k4, if_neg k5, if_neg (by rintro (h | h) <;> contradiction), if_neg m6, if_neg (fun h => a3 h.1), if_neg (by omega)]
                      clear hxy k0 k1 k4 k5 k2 m2 m6 a3 a1
                      go_wp2_with fail
                      go_ret
                      exact ⟨51, rfl, fun U q => by rw [HFx.out]; exact done10_any _ U, enters_of Try.func51 (by kernel_rfl) rfl, HQ2.out⟩
end Go.Proofs.Ytjehccemilefgaa.St
