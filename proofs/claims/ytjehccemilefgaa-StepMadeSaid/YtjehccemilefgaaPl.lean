/-
  What the proofs lean on, part 12 of 16.
-/
import Derived.Test.YtjehccemilefgaaPj
import Derived.Test.YtjehccemilefgaaPk
namespace Go.Proofs.Ytjehccemilefgaa.St
open Go.RowKit Kit Rw
open Go.Proofs.Ytjehccemilefgaa.Sg (Sig Row)
open Go.Proofs.Ytjehccemilefgaa.Hs (Ints Keys BoxT)
open Go.Proofs.Ytjehccemilefgaa.Tm (Tm Store termAt Box4 isPl isPl_iff)
def Tells (B : Nat) (wy : Int × List PI) (w : World) (e : Ending) (w' : World) : Prop :=
  ∃ g, e = .returned (.func (.func g) #[.pointer (some ⟨B, 0, none⟩)] #[]) ∧ (∀ U, Q w U → Calls Try.prog g #[.pointer (some ⟨B, 0, none⟩)] U (WayPost wy U)) ∧ (∀ a U, (callFunc g a).run Try.prog U = .ok (.enter g a) U) ∧ Q w w'
set_option maxRecDepth 100000 in
set_option maxHeartbeats 8000000 in
theorem told10_any (B : Nat) (R : Option Addr) (cl : Nat) (L : List Sig) (x y : Int) (s : Tm) (A1 : Option Addr) (c1 : Nat) (t : Tm) (A2 : Option Addr) (c2 : Nat) (w : World) (h : PairB w B R cl L x y s A1 c1 t A2 c2) (a b : Nat) (hs : TOk L a s) (ht : TOk L b t) (hl8 : ∀ s ∈ L, s.2.size ≤ 8) (hx1 : s.k = 1 → x = 1) :
    Calls Try.prog 26 #[.pointer (some ⟨B, 0, none⟩)] w (Tells B (stepT L x y s t) w) := by
  have HB := Lib.hid h
  have HS1 := Lib.hid hs
  have HT1 := Lib.hid ht
  have H8 := Lib.hid hl8
  have HX1 := Lib.hid hx1
  have q1 := (Q.refl w).drew
  have q2 := (Q.refl w).drew.drew
  have hA : (w.drew.cell? ⟨B, 3, none⟩ = some (.int .i64 s.k) ∧ w.drew.cell? ⟨B, 7, none⟩ = some (.int .i64 t.k) ∧ w.drew.cell? ⟨B, 4, none⟩ = some (.int .i64 s.s) ∧ w.drew.cell? ⟨B, 8, none⟩ = some (.int .i64 t.s)) := ⟨((h.q q1).box.2 3 _ rfl).1, ((h.q q1).box.2 7 _ rfl).1, ((h.q q1).box.2 4 _ rfl).1, ((h.q q1).box.2 8 _ rfl).1⟩
  have hB : (w.drew.drew.cell? ⟨B, 1, none⟩ = some (.int .i64 x) ∧ w.drew.drew.cell? ⟨B, 2, none⟩ = some (.int .i64 y)) := ⟨((h.q q2).box.2 1 _ rfl).1, ((h.q q2).box.2 2 _ rfl).1⟩
  have HA := Lib.hid hA
  have HBB := Lib.hid hB
  have HQ2 := Lib.hid q2
  have HF : Hid (stepT L x y s t = stepT L x y s t) := rfl
  obtain ⟨wy, hwy⟩ : ∃ r, stepT L x y s t = r := ⟨_, rfl⟩
  rw [hwy]
  have HW := Lib.hid hwy
  clear h hs ht hl8 hx1 q1 q2 hA hB HF hwy
  go_enter Try.func26, Try.ntmps26
  go_upto_region 1 with fail
  refine wp_region_held_drew (S := fun w' => w'.cell? ⟨B, 3, none⟩ = some (.int .i64 s.k) ∧ w'.cell? ⟨B, 7, none⟩ = some (.int .i64 t.k) ∧ w'.cell? ⟨B, 4, none⟩ = some (.int .i64 s.s) ∧ w'.cell? ⟨B, 8, none⟩ = some (.int .i64 t.s)) (by kernel_rfl) ?_ (fun hHeld => ?_)
  · exact HA.out
  refine take_w (i := 0) (d := some 6) (v := ?_) rfl (by kernel_rfl) (by kernel_rfl) (by kernel_rfl) (fun _ _ _ h => h) rfl (by rfl) ?_ (by assumption) ?_
  rotate_left
  · (intro w hSw; (try dsimp only at hSw); go_simp; (try with_reducible rfl))
  try simp only [Act.put, List.setIfInBounds_toArray, List.set_cons_zero, List.set_cons_succ]
  refine take_w (i := 1) (d := some 7) (v := ?_) rfl (by kernel_rfl) (by kernel_rfl) (by kernel_rfl) (fun _ _ _ h => h) rfl (by rfl) ?_ (by assumption) ?_
  rotate_left
  · (intro w hSw; (try dsimp only at hSw); go_simp; (try with_reducible rfl))
  try simp only [Act.put, List.setIfInBounds_toArray, List.set_cons_zero, List.set_cons_succ]
  refine take_w (i := 2) (d := some 8) (v := ?_) rfl (by kernel_rfl) (by kernel_rfl) (by kernel_rfl) (fun _ _ _ h => h) rfl (by rfl) ?_ (by assumption) ?_
  rotate_left
  · (intro w hSw; (try dsimp only at hSw); go_simp; (try with_reducible rfl))
  try simp only [Act.put, List.setIfInBounds_toArray, List.set_cons_zero, List.set_cons_succ]
  refine take_w (i := 3) (d := some 9) (v := ?_) rfl (by kernel_rfl) (by kernel_rfl) (by kernel_rfl) (fun _ _ _ h => h) rfl (by rfl) ?_ (by assumption) ?_
  rotate_left
  · (intro w hSw; (try dsimp only at hSw); go_simp; (try with_reducible rfl))
  try simp only [Act.put, List.setIfInBounds_toArray, List.set_cons_zero, List.set_cons_succ]
  refine take_w (i := 4) (d := some 10) (v := ?_) rfl (by kernel_rfl) (by kernel_rfl) (by kernel_rfl) (fun _ _ _ h => h) rfl (by rfl) ?_ (by assumption) ?_
  rotate_left
  · (intro w hSw; (try dsimp only at hSw); go_simp; (try with_reducible rfl))
  try simp only [Act.put, List.setIfInBounds_toArray, List.set_cons_zero, List.set_cons_succ]
  refine take_w (i := 5) (d := some 11) (v := ?_) rfl (by kernel_rfl) (by kernel_rfl) (by kernel_rfl) (fun _ _ _ h => h) rfl (by rfl) ?_ (by assumption) ?_
  rotate_left
  · (intro w hSw; (try dsimp only at hSw); go_simp; (try with_reducible rfl))
  try simp only [Act.put, List.setIfInBounds_toArray, List.set_cons_zero, List.set_cons_succ]
  refine take_w (i := 6) (d := some 12) (v := ?_) rfl (by kernel_rfl) (by kernel_rfl) (by kernel_rfl) (fun _ _ _ h => h) rfl (by rfl) ?_ (by assumption) ?_
  rotate_left
  · (intro w hSw; (try dsimp only at hSw); go_simp; (try with_reducible rfl))
  try simp only [Act.put, List.setIfInBounds_toArray, List.set_cons_zero, List.set_cons_succ]
  refine take_w (i := 7) (d := some 13) (v := ?_) rfl (by kernel_rfl) (by kernel_rfl) (by kernel_rfl) (fun _ _ _ h => h) rfl (by rfl) ?_ (by assumption) ?_
  rotate_left
  · (intro w hSw; (try dsimp only at hSw); go_simp; (try with_reducible rfl))
  try simp only [Act.put, List.setIfInBounds_toArray, List.set_cons_zero, List.set_cons_succ]
  refine take_w (i := 8) (d := some 14) (v := ?_) rfl (by kernel_rfl) (by kernel_rfl) (by kernel_rfl) (fun _ _ _ h => h) rfl (by rfl) ?_ (by assumption) ?_
  rotate_left
  · (intro w hSw; (try dsimp only at hSw); go_simp; (try with_reducible rfl))
  try simp only [Act.put, List.setIfInBounds_toArray, List.set_cons_zero, List.set_cons_succ]
  refine take_w (i := 9) (d := some 15) (v := ?_) rfl (by kernel_rfl) (by kernel_rfl) (by kernel_rfl) (fun _ _ _ h => h) rfl (by rfl) ?_ (by assumption) ?_
  rotate_left
  · (intro w hSw; (try dsimp only at hSw); go_simp; (try with_reducible rfl))
  try simp only [Act.put, List.setIfInBounds_toArray, List.set_cons_zero, List.set_cons_succ]
  refine take_w (i := 10) (d := some 16) (v := ?_) rfl (by kernel_rfl) (by kernel_rfl) (by kernel_rfl) (fun _ _ _ h => h) rfl (by rfl) ?_ (by assumption) ?_
  rotate_left
  · (intro w hSw; (try dsimp only at hSw); go_simp; (try with_reducible rfl))
  try simp only [Act.put, List.setIfInBounds_toArray, List.set_cons_zero, List.set_cons_succ]
  refine take_w (i := 11) (d := some 17) (v := ?_) rfl (by kernel_rfl) (by kernel_rfl) (by kernel_rfl) (fun _ _ _ h => h) rfl (by rfl) ?_ (by assumption) ?_
  rotate_left
  · (intro w hSw; (try dsimp only at hSw); go_simp; (try with_reducible rfl))
  try simp only [Act.put, List.setIfInBounds_toArray, List.set_cons_zero, List.set_cons_succ]
  refine take_w (i := 12) (d := some 18) (v := ?_) rfl (by kernel_rfl) (by kernel_rfl) (by kernel_rfl) (fun _ _ _ h => h) rfl (by rfl) ?_ (by assumption) ?_
  rotate_left
  · (intro w hSw; (try dsimp only at hSw); go_simp; (try with_reducible rfl))
  try simp only [Act.put, List.setIfInBounds_toArray, List.set_cons_zero, List.set_cons_succ]
  refine take_w (i := 13) (d := some 19) (v := ?_) rfl (by kernel_rfl) (by kernel_rfl) (by kernel_rfl) (fun _ _ _ h => h) rfl (by rfl) ?_ (by assumption) ?_
  rotate_left
  · (intro w hSw; (try dsimp only at hSw); go_simp; (try with_reducible rfl))
  try simp only [Act.put, List.setIfInBounds_toArray, List.set_cons_zero, List.set_cons_succ]
  refine take_w (i := 14) (d := some 20) (v := ?_) rfl (by kernel_rfl) (by kernel_rfl) (by kernel_rfl) (fun _ _ _ h => h) rfl (by rfl) ?_ (by assumption) ?_
  rotate_left
  · (intro w hSw; (try dsimp only at hSw); go_simp; (try with_reducible rfl))
  try simp only [Act.put, List.setIfInBounds_toArray, List.set_cons_zero, List.set_cons_succ]
  refine take_w (i := 15) (d := some 21) (v := ?_) rfl (by kernel_rfl) (by kernel_rfl) (by kernel_rfl) (fun _ _ _ h => h) rfl (by rfl) ?_ (by assumption) ?_
  rotate_left
  · (intro w hSw; (try dsimp only at hSw); go_simp; (try with_reducible rfl))
  try simp only [Act.put, List.setIfInBounds_toArray, List.set_cons_zero, List.set_cons_succ]
  refine take_w (i := 16) (d := some 22) (v := ?_) rfl (by kernel_rfl) (by kernel_rfl) (by kernel_rfl) (fun _ _ _ h => h) rfl (by rfl) ?_ (by assumption) ?_
  rotate_left
  · (intro w hSw; (try dsimp only at hSw); go_simp; (try with_reducible rfl))
  try simp only [Act.put, List.setIfInBounds_toArray, List.set_cons_zero, List.set_cons_succ]
  refine take_w (i := 17) (d := some 23) (v := ?_) rfl (by kernel_rfl) (by kernel_rfl) (by kernel_rfl) (fun _ _ _ h => h) rfl (by rfl) ?_ (by assumption) ?_
  rotate_left
  · (intro w hSw; (try dsimp only at hSw); go_simp; (try with_reducible rfl))
  try simp only [Act.put, List.setIfInBounds_toArray, List.set_cons_zero, List.set_cons_succ]
  refine take_w (i := 18) (d := some 24) (v := ?_) rfl (by kernel_rfl) (by kernel_rfl) (by kernel_rfl) (fun _ _ _ h => h) rfl (by rfl) ?_ (by assumption) ?_
  rotate_left
  · (intro w hSw; (try dsimp only at hSw); go_simp; (try with_reducible rfl))
  try simp only [Act.put, List.setIfInBounds_toArray, List.set_cons_zero, List.set_cons_succ]
  refine take_w (i := 19) (d := some 25) (v := ?_) rfl (by kernel_rfl) (by kernel_rfl) (by kernel_rfl) (fun _ _ _ h => h) rfl (by rfl) ?_ (by assumption) ?_
  rotate_left
  · (intro w hSw; (try dsimp only at hSw); go_simp; (try with_reducible rfl))
  try simp only [Act.put, List.setIfInBounds_toArray, List.set_cons_zero, List.set_cons_succ]
  refine take_w (i := 20) (d := some 26) (v := ?_) rfl (by kernel_rfl) (by kernel_rfl) (by kernel_rfl) (fun _ _ _ h => h) rfl (by rfl) ?_ (by assumption) ?_
  rotate_left
  · (intro w hSw; (try dsimp only at hSw); go_simp; (try with_reducible rfl))
  try simp only [Act.put, List.setIfInBounds_toArray, List.set_cons_zero, List.set_cons_succ]
  refine take_w (i := 21) (d := some 3) (v := ?_) rfl (by kernel_rfl) (by kernel_rfl) (by kernel_rfl) (fun _ _ _ h => h) rfl (by rfl) ?_ (by assumption) ?_
  rotate_left
  · (intro w hSw; (try dsimp only at hSw); go_simp; (try with_reducible rfl))
  try simp only [Act.put, List.setIfInBounds_toArray, List.set_cons_zero, List.set_cons_succ]
  refine take_w (i := 22) (d := some 4) (v := ?_) rfl (by kernel_rfl) (by kernel_rfl) (by kernel_rfl) (fun _ _ _ h => h) rfl (by rfl) ?_ (by assumption) ?_
  rotate_left
  · (intro w hSw; (try dsimp only at hSw); go_simp; (try with_reducible rfl))
  try simp only [Act.put, List.setIfInBounds_toArray, List.set_cons_zero, List.set_cons_succ]
  refine take_w (i := 23) (d := some 5) (v := ?_) rfl (by kernel_rfl) (by kernel_rfl) (by kernel_rfl) (fun _ _ _ h => h) rfl (by rfl) ?_ (by assumption) ?_
  rotate_left
  · (intro w hSw; (try dsimp only at hSw); go_simp; (try with_reducible rfl))
  try simp only [Act.put, List.setIfInBounds_toArray, List.set_cons_zero, List.set_cons_succ]
  refine wpAnyH_done (by kernel_rfl) ?_ _
  go_upto_region 2 with fail
  refine wp_region_held_drew (S := fun w' => w'.cell? ⟨B, 1, none⟩ = some (.int .i64 x) ∧ w'.cell? ⟨B, 2, none⟩ = some (.int .i64 y)) (by kernel_rfl) ?_ (fun hHeld => ?_)
  · exact HBB.out
  refine take_w (i := 0) (d := some 28) (v := ?_) rfl (by kernel_rfl) (by kernel_rfl) (by kernel_rfl) (fun _ _ _ h => h) rfl (by rfl) ?_ (by assumption) ?_
  rotate_left
  · (intro w hSw; (try dsimp only at hSw); go_simp; (try with_reducible rfl))
  try simp only [Act.put, List.setIfInBounds_toArray, List.set_cons_zero, List.set_cons_succ]
  refine take_w (i := 1) (d := some 29) (v := ?_) rfl (by kernel_rfl) (by kernel_rfl) (by kernel_rfl) (fun _ _ _ h => h) rfl (by rfl) ?_ (by assumption) ?_
  rotate_left
  · (intro w hSw; (try dsimp only at hSw); go_simp; (try with_reducible rfl))
  try simp only [Act.put, List.setIfInBounds_toArray, List.set_cons_zero, List.set_cons_succ]
  refine take_w (i := 2) (d := some 30) (v := ?_) rfl (by kernel_rfl) (by kernel_rfl) (by kernel_rfl) (fun _ _ _ h => h) rfl (by rfl) ?_ (by assumption) ?_
  rotate_left
  · (intro w hSw; (try dsimp only at hSw); go_simp; (try with_reducible rfl))
  try simp only [Act.put, List.setIfInBounds_toArray, List.set_cons_zero, List.set_cons_succ]
  refine take_w (i := 3) (d := some 31) (v := ?_) rfl (by kernel_rfl) (by kernel_rfl) (by kernel_rfl) (fun _ _ _ h => h) rfl (by rfl) ?_ (by assumption) ?_
  rotate_left
  · (intro w hSw; (try dsimp only at hSw); go_simp; (try with_reducible rfl))
  try simp only [Act.put, List.setIfInBounds_toArray, List.set_cons_zero, List.set_cons_succ]
  refine take_w (i := 4) (d := some 32) (v := ?_) rfl (by kernel_rfl) (by kernel_rfl) (by kernel_rfl) (fun _ _ _ h => h) rfl (by rfl) ?_ (by assumption) ?_
  rotate_left
  · (intro w hSw; (try dsimp only at hSw); go_simp; (try with_reducible rfl))
  try simp only [Act.put, List.setIfInBounds_toArray, List.set_cons_zero, List.set_cons_succ]
  refine take_w (i := 5) (d := some 33) (v := ?_) rfl (by kernel_rfl) (by kernel_rfl) (by kernel_rfl) (fun _ _ _ h => h) rfl (by rfl) ?_ (by assumption) ?_
  rotate_left
  · (intro w hSw; (try dsimp only at hSw); go_simp; (try with_reducible rfl))
  try simp only [Act.put, List.setIfInBounds_toArray, List.set_cons_zero, List.set_cons_succ]
  refine take_w (i := 6) (d := some 34) (v := ?_) rfl (by kernel_rfl) (by kernel_rfl) (by kernel_rfl) (fun _ _ _ h => h) rfl (by rfl) ?_ (by assumption) ?_
  rotate_left
  · (intro w hSw; (try dsimp only at hSw); go_simp; (try with_reducible rfl))
  try simp only [Act.put, List.setIfInBounds_toArray, List.set_cons_zero, List.set_cons_succ]
  refine take_w (i := 7) (d := some 35) (v := ?_) rfl (by kernel_rfl) (by kernel_rfl) (by kernel_rfl) (fun _ _ _ h => h) rfl (by rfl) ?_ (by assumption) ?_
  rotate_left
  · (intro w hSw; (try dsimp only at hSw); go_simp; (try with_reducible rfl))
  try simp only [Act.put, List.setIfInBounds_toArray, List.set_cons_zero, List.set_cons_succ]
  refine take_w (i := 8) (d := some 36) (v := ?_) rfl (by kernel_rfl) (by kernel_rfl) (by kernel_rfl) (fun _ _ _ h => h) rfl (by rfl) ?_ (by assumption) ?_
  rotate_left
  · (intro w hSw; (try dsimp only at hSw); go_simp; (try with_reducible rfl))
  try simp only [Act.put, List.setIfInBounds_toArray, List.set_cons_zero, List.set_cons_succ]
  refine take_w (i := 9) (d := some 27) (v := ?_) rfl (by kernel_rfl) (by kernel_rfl) (by kernel_rfl) (fun _ _ _ h => h) rfl (by rfl) ?_ (by assumption) ?_
  rotate_left
  · (intro w hSw; (try dsimp only at hSw); go_simp; (try with_reducible rfl))
  try simp only [Act.put, List.setIfInBounds_toArray, List.set_cons_zero, List.set_cons_succ]
  refine wpAnyH_done (by kernel_rfl) ?_ _
  by_cases hxy : x = y
  · have d0 : (x == y) = true := beq_iff_eq.2 hxy
    have HFx : Hid (wy = (0, [])) := by unfold Hid; rw [← HW.out]; unfold stepT; rw [if_pos (.inl hxy)]
    clear hxy
    go_wp2_with fail
    go_ret
    exact ⟨51, rfl, fun U q => by rw [HFx.out]; exact done10_any _ U, enters_of Try.func51 (by kernel_rfl) rfl, HQ2.out⟩
  · have HNhxy : Hid True := trivial
    by_cases k0 : s.k = 0
    · have d0 : (x == y) = false := beq_eq_false_iff_ne.2 hxy
      have d1 : (s.k == 0) = true := beq_iff_eq.2 k0
      have HFx : Hid (wy = (0, [])) := by unfold Hid; rw [← HW.out]; unfold stepT; rw [if_pos (.inr (.inl k0))]
      clear hxy k0
      go_wp2_with fail
      go_ret
      exact ⟨51, rfl, fun U q => by rw [HFx.out]; exact done10_any _ U, enters_of Try.func51 (by kernel_rfl) rfl, HQ2.out⟩
    · have HNk0 : Hid True := trivial
      by_cases k1 : t.k = 1
      · have d0 : (x == y) = false := beq_eq_false_iff_ne.2 hxy
        have d1 : (s.k == 0) = false := beq_eq_false_iff_ne.2 k0
        have d2 : (t.k == 1) = true := beq_iff_eq.2 k1
        have HFx : Hid (wy = (0, [])) := by unfold Hid; rw [← HW.out]; unfold stepT; rw [if_pos (.inr (.inr k1))]
        clear hxy k0 k1
        go_wp2_with fail
        go_ret
        exact ⟨51, rfl, fun U q => by rw [HFx.out]; exact done10_any _ U, enters_of Try.func51 (by kernel_rfl) rfl, HQ2.out⟩
      · have HNk1 : Hid True := trivial
        by_cases k4 : s.k = 4
        · obtain ⟨u, v, hxs⟩ : ∃ u v, s.xs = [u, v] := by
            cases HS1.out with
            | leaf _ h => omega
            | con j h h3 => omega
            | two a b _ hx => exact ⟨a, b, hx⟩
            | proj j m h e h6 => omega
          have d0 : (x == y) = false := beq_eq_false_iff_ne.2 hxy
          have d1 : (s.k == 0) = false := beq_eq_false_iff_ne.2 k0
          have d2 : (t.k == 1) = false := beq_eq_false_iff_ne.2 k1
          have d3 : (s.k == 4) = true := beq_iff_eq.2 k4
          have HFx : Hid (wy = (1, s.xs.map (fun a : Int => ((a, y) : PI)))) := by unfold Hid; rw [← HW.out]; unfold stepT; rw [if_neg (by rintro (h | h | h) <;> contradiction), if_pos k4, hxs]; rfl
          have HLX : Hid (s.xs.length ≤ 1000) := by unfold Hid; rw [hxs]; simp
          clear hxy k0 k1 k4 hxs
          go_wp2_with fail
          go_ret
          exact ⟨52, rfl, fun U q => by rw [HFx.out]; exact eachOnLeft10_any B R cl L x y s A1 c1 t A2 c2 U (HB.out.q q) HLX.out, enters_of Try.func52 (by kernel_rfl) rfl, HQ2.out⟩
        · have HNk4 : Hid True := trivial
          by_cases k5 : t.k = 5
          · obtain ⟨u, v, hxs⟩ : ∃ u v, t.xs = [u, v] := by
              cases HT1.out with
              | leaf _ h => omega
              | con j h h3 => omega
              | two a b _ hx => exact ⟨a, b, hx⟩
              | proj j m h e h6 => omega
            have d0 : (x == y) = false := beq_eq_false_iff_ne.2 hxy
            have d1 : (s.k == 0) = false := beq_eq_false_iff_ne.2 k0
            have d2 : (t.k == 1) = false := beq_eq_false_iff_ne.2 k1
            have d3 : (s.k == 4) = false := beq_eq_false_iff_ne.2 k4
            have d4 : (t.k == 5) = true := beq_iff_eq.2 k5
            have HFx : Hid (wy = (1, t.xs.map (fun a : Int => ((x, a) : PI)))) := by unfold Hid; rw [← HW.out]; unfold stepT; rw [if_neg (by rintro (h | h | h) <;> contradiction), if_neg k4, if_pos k5, hxs]; rfl
            have HLX : Hid (t.xs.length ≤ 1000) := by unfold Hid; rw [hxs]; simp
            clear hxy k0 k1 k4 k5 hxs
            go_wp2_with fail
            go_ret
            exact ⟨53, rfl, fun U q => by rw [HFx.out]; exact eachOnRight10_any B R cl L x y s A1 c1 t A2 c2 U (HB.out.q q) HLX.out, enters_of Try.func53 (by kernel_rfl) rfl, HQ2.out⟩
          · have HNk5 : Hid True := trivial
            by_cases k2 : s.k = 2
            · have d0 : (x == y) = false := beq_eq_false_iff_ne.2 hxy
              have d1 : (s.k == 0) = false := beq_eq_false_iff_ne.2 k0
              have d2 : (t.k == 1) = false := beq_eq_false_iff_ne.2 k1
              have d3 : (s.k == 4) = false := beq_eq_false_iff_ne.2 k4
              have d4 : (t.k == 5) = false := beq_eq_false_iff_ne.2 k5
              have d5 : (s.k == 2) = true := beq_iff_eq.2 k2
              have HFx : Hid (wy = (2, [])) := by unfold Hid; rw [← HW.out]; unfold stepT; rw [if_neg (by rintro (h | h | h) <;> contradiction), if_neg k4, if_neg k5, if_pos (.inl k2)]
              clear hxy k0 k1 k4 k5 k2
              go_wp2_with fail
              go_ret
              exact ⟨54, rfl, fun U q => by rw [HFx.out]; exact atom10_any _ U, enters_of Try.func54 (by kernel_rfl) rfl, HQ2.out⟩
            · have HNk2 : Hid True := trivial
              by_cases m2 : t.k = 2
              · have d0 : (x == y) = false := beq_eq_false_iff_ne.2 hxy
                have d1 : (s.k == 0) = false := beq_eq_false_iff_ne.2 k0
                have d2 : (t.k == 1) = false := beq_eq_false_iff_ne.2 k1
                have d3 : (s.k == 4) = false := beq_eq_false_iff_ne.2 k4
                have d4 : (t.k == 5) = false := beq_eq_false_iff_ne.2 k5
                have d5 : (s.k == 2) = false := beq_eq_false_iff_ne.2 k2
                have d6 : (t.k == 2) = true := beq_iff_eq.2 m2
                have HFx : Hid (wy = (2, [])) := by unfold Hid; rw [← HW.out]; unfold stepT; rw [if_neg (by rintro (h | h | h) <;> contradiction), if_neg k4, if_neg k5, if_pos (.inr m2)]
                clear hxy k0 k1 k4 k5 k2 m2
                go_wp2_with fail
                go_ret
                exact ⟨54, rfl, fun U q => by rw [HFx.out]; exact atom10_any _ U, enters_of Try.func54 (by kernel_rfl) rfl, HQ2.out⟩
              · have HNm2 : Hid True := trivial
                by_cases m6 : t.k = 6
                · by_cases a1 : s.k = 1
                  · have d0 : (x == y) = false := beq_eq_false_iff_ne.2 hxy
                    have d1 : (s.k == 0) = false := beq_eq_false_iff_ne.2 k0
                    have d2 : (t.k == 1) = false := beq_eq_false_iff_ne.2 k1
                    have d3 : (s.k == 4) = false := beq_eq_false_iff_ne.2 k4
                    have d4 : (t.k == 5) = false := beq_eq_false_iff_ne.2 k5
                    have d5 : (s.k == 2) = false := beq_eq_false_iff_ne.2 k2
                    have d6 : (t.k == 2) = false := beq_eq_false_iff_ne.2 m2
                    have d7 : (t.k == 6) = true := beq_iff_eq.2 m6
                    have d8 : (s.k == 1) = true := beq_iff_eq.2 a1
                    have HFx : Hid (wy = (1, pairsA (x, t.xs.headD 0) (t.xs.headD 0, 0) (varyN L t.s t.p.toNat))) := by unfold Hid; rw [← HW.out]; unfold stepT; rw [if_neg (by rintro (h | h | h) <;> contradiction), if_neg k4, if_neg k5, if_neg (by rintro (h | h) <;> contradiction), if_pos m6]; unfold projF; rw [if_pos a1]; rw [show x = 1 from HX1.out a1]; rfl
                    have M6 := Lib.hid m6
                    clear hxy k0 k1 k4 k5 k2 m2 m6 a1
                    go_wp2_with fail
                    go_ret
                    exact ⟨55, rfl, fun U q => by rw [HFx.out]; exact partOfAll10_any B R cl L x y s A1 c1 t A2 c2 U (HB.out.q q) b HT1.out M6.out H8.out, enters_of Try.func55 (by kernel_rfl) rfl, HQ2.out⟩
                  · by_cases a3 : s.k = 3
                    · by_cases ess : s.s = t.s
                      · obtain ⟨m, hm, hms⟩ : ∃ m : Nat, t.p = (m : Int) ∧ m < s.xs.length := by
                          cases HT1.out with
                          | leaf _ h => omega
                          | con j h h3 => omega
                          | two a b h => omega
                          | proj j m h e _ g1 g2 g3 =>
                            cases HS1.out with
                            | leaf _ h => omega
                            | con j' h' _ f1 f2 =>
                              have : j' = j := by omega
                              subst this
                              exact ⟨m, g2, by omega⟩
                            | two _ _ h => omega
                            | proj _ _ _ _ h => omega
                        have HMS := Lib.hid hms
                        have HM := Lib.hid hm
                        have M6 := Lib.hid m6
                        have d0 : (x == y) = false := beq_eq_false_iff_ne.2 hxy
                        have d1 : (s.k == 0) = false := beq_eq_false_iff_ne.2 k0
                        have d2 : (t.k == 1) = false := beq_eq_false_iff_ne.2 k1
                        have d3 : (s.k == 4) = false := beq_eq_false_iff_ne.2 k4
                        have d4 : (t.k == 5) = false := beq_eq_false_iff_ne.2 k5
                        have d5 : (s.k == 2) = false := beq_eq_false_iff_ne.2 k2
                        have d6 : (t.k == 2) = false := beq_eq_false_iff_ne.2 m2
                        have d7 : (t.k == 6) = true := beq_iff_eq.2 m6
                        have d8 : (s.k == 1) = false := beq_eq_false_iff_ne.2 a1
                        have d9 : (s.k == 3) = true := beq_iff_eq.2 a3
                        have d10 : (s.s == t.s) = true := beq_iff_eq.2 ess
                        have HFx : Hid (wy = (1, pairsA (s.xs[m]?.getD 0, t.xs.headD 0) (t.xs.headD 0, s.xs[m]?.getD 0) (varyN L t.s t.p.toNat))) := by unfold Hid; rw [← HW.out]; unfold stepT; rw [if_neg (by rintro (h | h | h) <;> contradiction), if_neg k4, if_neg k5, if_neg (by rintro (h | h) <;> contradiction), if_pos m6]; unfold projF; rw [if_neg a1, if_pos ⟨a3, ess⟩]; simp only [hm, Int.toNat_natCast]; rfl
                        clear hxy k0 k1 k4 k5 k2 m2 m6 a1 a3 ess hm hms
                        go_wp2_with fail
                        go_ret
                        exact ⟨56, rfl, fun U q => by rw [HFx.out]; exact partOfCon10_any B R cl L x y s A1 c1 t A2 c2 U (HB.out.q q) b HT1.out M6.out H8.out m HM.out HMS.out, enters_of Try.func56 (by kernel_rfl) rfl, HQ2.out⟩
                      · have d0 : (x == y) = false := beq_eq_false_iff_ne.2 hxy
                        have d1 : (s.k == 0) = false := beq_eq_false_iff_ne.2 k0
                        have d2 : (t.k == 1) = false := beq_eq_false_iff_ne.2 k1
                        have d3 : (s.k == 4) = false := beq_eq_false_iff_ne.2 k4
                        have d4 : (t.k == 5) = false := beq_eq_false_iff_ne.2 k5
                        have d5 : (s.k == 2) = false := beq_eq_false_iff_ne.2 k2
                        have d6 : (t.k == 2) = false := beq_eq_false_iff_ne.2 m2
                        have d7 : (t.k == 6) = true := beq_iff_eq.2 m6
                        have d8 : (s.k == 1) = false := beq_eq_false_iff_ne.2 a1
                        have d9 : (s.k == 3) = true := beq_iff_eq.2 a3
                        have d10 : (s.s == t.s) = false := beq_eq_false_iff_ne.2 ess
                        have HFx : Hid (wy = (0, [])) := by unfold Hid; rw [← HW.out]; unfold stepT; rw [if_neg (by rintro (h | h | h) <;> contradiction), if_neg k4, if_neg k5, if_neg (by rintro (h | h) <;> contradiction), if_pos m6]; unfold projF; rw [if_neg a1, if_neg (fun h => ess h.2)]
                        clear hxy k0 k1 k4 k5 k2 m2 m6 a1 a3 ess
                        go_wp2_with fail
                        go_ret
                        exact ⟨51, rfl, fun U q => by rw [HFx.out]; exact done10_any _ U, enters_of Try.func51 (by kernel_rfl) rfl, HQ2.out⟩
                    · have b3 : ¬ t.k = 3 := by omega
                      have b0 : ¬ t.k = 0 := by omega
                      have d0 : (x == y) = false := beq_eq_false_iff_ne.2 hxy
                      have d1 : (s.k == 0) = false := beq_eq_false_iff_ne.2 k0
                      have d2 : (t.k == 1) = false := beq_eq_false_iff_ne.2 k1
                      have d3 : (s.k == 4) = false := beq_eq_false_iff_ne.2 k4
                      have d4 : (t.k == 5) = false := beq_eq_false_iff_ne.2 k5
                      have d5 : (s.k == 2) = false := beq_eq_false_iff_ne.2 k2
                      have d6 : (t.k == 2) = false := beq_eq_false_iff_ne.2 m2
                      have d7 : (t.k == 6) = true := beq_iff_eq.2 m6
                      have d8 : (s.k == 1) = false := beq_eq_false_iff_ne.2 a1
                      have d9 : (s.k == 3) = false := beq_eq_false_iff_ne.2 a3
                      have HFx : Hid (wy = (0, [])) := by unfold Hid; rw [← HW.out]; unfold stepT; rw [if_neg (by rintro (h | h | h) <;> contradiction), if_neg k4, if_neg k5, if_neg (by rintro (h | h) <;> contradiction), if_pos m6]; unfold projF; rw [if_neg a1, if_neg (fun h => a3 h.1)]
                      clear hxy k0 k1 k4 k5 k2 m2 m6 a1 a3 b3 b0
                      go_wp2_with fail
                      go_ret
                      exact ⟨51, rfl, fun U q => by rw [HFx.out]; exact done10_any _ U, enters_of Try.func51 (by kernel_rfl) rfl, HQ2.out⟩
                · by_cases a3 : s.k = 3
                  · by_cases b3 : t.k = 3
                    · by_cases ess : s.s = t.s
                      · have A3 := Lib.hid a3
                        have B3 := Lib.hid b3
                        have ES := Lib.hid ess
                        have d0 : (x == y) = false := beq_eq_false_iff_ne.2 hxy
                        have d1 : (s.k == 0) = false := beq_eq_false_iff_ne.2 k0
                        have d2 : (t.k == 1) = false := beq_eq_false_iff_ne.2 k1
                        have d3 : (s.k == 4) = false := beq_eq_false_iff_ne.2 k4
                        have d4 : (t.k == 5) = false := beq_eq_false_iff_ne.2 k5
                        have d5 : (s.k == 2) = false := beq_eq_false_iff_ne.2 k2
                        have d6 : (t.k == 2) = false := beq_eq_false_iff_ne.2 m2
                        have d7 : (t.k == 6) = false := beq_eq_false_iff_ne.2 m6
                        have d8 : (s.k == 3) = true := beq_iff_eq.2 a3
                        have d9 : (t.k == 3) = true := beq_iff_eq.2 b3
                        have d10 : (s.s == t.s) = true := beq_iff_eq.2 ess
                        have HFx : Hid (wy = (1, conF L s.s 0 s.xs t.xs)) := by unfold Hid; rw [← HW.out]; unfold stepT; rw [if_neg (by rintro (h | h | h) <;> contradiction), if_neg k4, if_neg k5, if_neg (by rintro (h | h) <;> contradiction), if_neg m6, if_pos ⟨a3, b3, ess⟩]
                        clear hxy k0 k1 k4 k5 k2 m2 m6 a3 b3 ess
                        go_wp2_with fail
                        go_ret
                        exact ⟨57, rfl, fun U q => by rw [HFx.out]; exact eachOfBoth10_any B R cl L x y s A1 c1 t A2 c2 U (HB.out.q q) a b HS1.out HT1.out A3.out B3.out ES.out H8.out, enters_of Try.func57 (by kernel_rfl) rfl, HQ2.out⟩
                      · have a1 : ¬ s.k = 1 := by omega
                        have b0 : ¬ t.k = 0 := by omega
                        have d0 : (x == y) = false := beq_eq_false_iff_ne.2 hxy
                        have d1 : (s.k == 0) = false := beq_eq_false_iff_ne.2 k0
                        have d2 : (t.k == 1) = false := beq_eq_false_iff_ne.2 k1
                        have d3 : (s.k == 4) = false := beq_eq_false_iff_ne.2 k4
                        have d4 : (t.k == 5) = false := beq_eq_false_iff_ne.2 k5
                        have d5 : (s.k == 2) = false := beq_eq_false_iff_ne.2 k2
                        have d6 : (t.k == 2) = false := beq_eq_false_iff_ne.2 m2
                        have d7 : (t.k == 6) = false := beq_eq_false_iff_ne.2 m6
                        have d8 : (s.k == 3) = true := beq_iff_eq.2 a3
                        have d9 : (t.k == 3) = true := beq_iff_eq.2 b3
                        have d10 : (s.s == t.s) = false := beq_eq_false_iff_ne.2 ess
                        have d11 : (s.k == 1) = false := beq_eq_false_iff_ne.2 a1
                        have d12 : (t.k == 0) = false := beq_eq_false_iff_ne.2 b0
                        have HFx : Hid (wy = (3, [])) := by unfold Hid; rw [← HW.out]; unfold stepT; rw [if_neg (by rintro (h | h | h) <;> contradiction), if_neg k4, if_neg k5, if_neg (by rintro (h | h) <;> contradiction), if_neg m6, if_neg (fun h => ess h.2.2), if_pos ⟨.inr a3, .inr b3⟩]
                        clear hxy k0 k1 k4 k5 k2 m2 m6 a3 b3 ess a1 b0
                        go_wp2_with fail
                        go_ret
                        exact ⟨58, rfl, fun U q => by rw [HFx.out]; exact clash10_any _ U, enters_of Try.func58 (by kernel_rfl) rfl, HQ2.out⟩
                    · by_cases b0 : t.k = 0
                      · have a1 : ¬ s.k = 1 := by omega
                        have d0 : (x == y) = false := beq_eq_false_iff_ne.2 hxy
                        have d1 : (s.k == 0) = false := beq_eq_false_iff_ne.2 k0
                        have d2 : (t.k == 1) = false := beq_eq_false_iff_ne.2 k1
                        have d3 : (s.k == 4) = false := beq_eq_false_iff_ne.2 k4
                        have d4 : (t.k == 5) = false := beq_eq_false_iff_ne.2 k5
                        have d5 : (s.k == 2) = false := beq_eq_false_iff_ne.2 k2
                        have d6 : (t.k == 2) = false := beq_eq_false_iff_ne.2 m2
                        have d7 : (t.k == 6) = false := beq_eq_false_iff_ne.2 m6
                        have d8 : (s.k == 3) = true := beq_iff_eq.2 a3
                        have d9 : (t.k == 3) = false := beq_eq_false_iff_ne.2 b3
                        have d10 : (s.k == 1) = false := beq_eq_false_iff_ne.2 a1
                        have d11 : (t.k == 0) = true := beq_iff_eq.2 b0
                        have HFx : Hid (wy = (3, [])) := by unfold Hid; rw [← HW.out]; unfold stepT; rw [if_neg (by rintro (h | h | h) <;> contradiction), if_neg k4, if_neg k5, if_neg (by rintro (h | h) <;> contradiction), if_neg m6, if_neg (fun h => b3 h.2.1), if_pos ⟨.inr a3, .inl b0⟩]
                        clear hxy k0 k1 k4 k5 k2 m2 m6 a3 b3 a1 b0
                        go_wp2_with fail
                        go_ret
                        exact ⟨58, rfl, fun U q => by rw [HFx.out]; exact clash10_any _ U, enters_of Try.func58 (by kernel_rfl) rfl, HQ2.out⟩
                      · have a1 : ¬ s.k = 1 := by omega
                        have d0 : (x == y) = false := beq_eq_false_iff_ne.2 hxy
                        have d1 : (s.k == 0) = false := beq_eq_false_iff_ne.2 k0
                        have d2 : (t.k == 1) = false := beq_eq_false_iff_ne.2 k1
                        have d3 : (s.k == 4) = false := beq_eq_false_iff_ne.2 k4
                        have d4 : (t.k == 5) = false := beq_eq_false_iff_ne.2 k5
                        have d5 : (s.k == 2) = false := beq_eq_false_iff_ne.2 k2
                        have d6 : (t.k == 2) = false := beq_eq_false_iff_ne.2 m2
                        have d7 : (t.k == 6) = false := beq_eq_false_iff_ne.2 m6
                        have d8 : (s.k == 3) = true := beq_iff_eq.2 a3
                        have d9 : (t.k == 3) = false := beq_eq_false_iff_ne.2 b3
                        have d10 : (s.k == 1) = false := beq_eq_false_iff_ne.2 a1
                        have d11 : (t.k == 0) = false := beq_eq_false_iff_ne.2 b0
                        have HFx : Hid (wy = (0, [])) := by unfold Hid; rw [← HW.out]; unfold stepT; rw [if_neg (by rintro (h | h | h) <;> contradiction), if_neg k4, if_neg k5, if_neg (by rintro (h | h) <;> contradiction), if_neg m6, if_neg (fun h => b3 h.2.1), if_neg (by omega)]
                        clear hxy k0 k1 k4 k5 k2 m2 m6 a3 b3 a1 b0
                        go_wp2_with fail
                        go_ret
                        exact ⟨51, rfl, fun U q => by rw [HFx.out]; exact done10_any _ U, enters_of Try.func51 (by kernel_rfl) rfl, HQ2.out⟩
                  · by_cases a1 : s.k = 1
                    · by_cases b0 : t.k = 0
                      · have b3 : ¬ t.k = 3 := by omega
                        have d0 : (x == y) = false := beq_eq_false_iff_ne.2 hxy
                        have d1 : (s.k == 0) = false := beq_eq_false_iff_ne.2 k0
                        have d2 : (t.k == 1) = false := beq_eq_false_iff_ne.2 k1
                        have d3 : (s.k == 4) = false := beq_eq_false_iff_ne.2 k4
                        have d4 : (t.k == 5) = false := beq_eq_false_iff_ne.2 k5
                        have d5 : (s.k == 2) = false := beq_eq_false_iff_ne.2 k2
                        have d6 : (t.k == 2) = false := beq_eq_false_iff_ne.2 m2
                        have d7 : (t.k == 6) = false := beq_eq_false_iff_ne.2 m6
                        have d8 : (s.k == 3) = false := beq_eq_false_iff_ne.2 a3
                        have d9 : (s.k == 1) = true := beq_iff_eq.2 a1
                        have d10 : (t.k == 0) = true := beq_iff_eq.2 b0
                        have d11 : (t.k == 3) = false := beq_eq_false_iff_ne.2 b3
                        have HFx : Hid (wy = (3, [])) := by unfold Hid; rw [← HW.out]; unfold stepT; rw [if_neg (by rintro (h | h | h) <;> contradiction), if_neg k4, if_neg k5, if_neg (by rintro (h | h) <;> contradiction), if_neg m6, if_neg (fun h => a3 h.1), if_pos ⟨.inl a1, .inl b0⟩]
                        clear hxy k0 k1 k4 k5 k2 m2 m6 a3 a1 b0 b3
                        go_wp2_with fail
                        go_ret
                        exact ⟨58, rfl, fun U q => by rw [HFx.out]; exact clash10_any _ U, enters_of Try.func58 (by kernel_rfl) rfl, HQ2.out⟩
                      · by_cases b3 : t.k = 3
                        · have d0 : (x == y) = false := beq_eq_false_iff_ne.2 hxy
                          have d1 : (s.k == 0) = false := beq_eq_false_iff_ne.2 k0
                          have d2 : (t.k == 1) = false := beq_eq_false_iff_ne.2 k1
                          have d3 : (s.k == 4) = false := beq_eq_false_iff_ne.2 k4
                          have d4 : (t.k == 5) = false := beq_eq_false_iff_ne.2 k5
                          have d5 : (s.k == 2) = false := beq_eq_false_iff_ne.2 k2
                          have d6 : (t.k == 2) = false := beq_eq_false_iff_ne.2 m2
                          have d7 : (t.k == 6) = false := beq_eq_false_iff_ne.2 m6
                          have d8 : (s.k == 3) = false := beq_eq_false_iff_ne.2 a3
                          have d9 : (s.k == 1) = true := beq_iff_eq.2 a1
                          have d10 : (t.k == 0) = false := beq_eq_false_iff_ne.2 b0
                          have d11 : (t.k == 3) = true := beq_iff_eq.2 b3
                          have HFx : Hid (wy = (3, [])) := by unfold Hid; rw [← HW.out]; unfold stepT; rw [if_neg (by rintro (h | h | h) <;> contradiction), if_neg k4, if_neg k5, if_neg (by rintro (h | h) <;> contradiction), if_neg m6, if_neg (fun h => a3 h.1), if_pos ⟨.inl a1, .inr b3⟩]
                          clear hxy k0 k1 k4 k5 k2 m2 m6 a3 a1 b0 b3
                          go_wp2_with fail
                          go_ret
                          exact ⟨58, rfl, fun U q => by rw [HFx.out]; exact clash10_any _ U, enters_of Try.func58 (by kernel_rfl) rfl, HQ2.out⟩
                        · have d0 : (x == y) = false := beq_eq_false_iff_ne.2 hxy
                          have d1 : (s.k == 0) = false := beq_eq_false_iff_ne.2 k0
                          have d2 : (t.k == 1) = false := beq_eq_false_iff_ne.2 k1
                          have d3 : (s.k == 4) = false := beq_eq_false_iff_ne.2 k4
                          have d4 : (t.k == 5) = false := beq_eq_false_iff_ne.2 k5
                          have d5 : (s.k == 2) = false := beq_eq_false_iff_ne.2 k2
                          have d6 : (t.k == 2) = false := beq_eq_false_iff_ne.2 m2
                          have d7 : (t.k == 6) = false := beq_eq_false_iff_ne.2 m6
                          have d8 : (s.k == 3) = false := beq_eq_false_iff_ne.2 a3
                          have d9 : (s.k == 1) = true := beq_iff_eq.2 a1
                          have d10 : (t.k == 0) = false := beq_eq_false_iff_ne.2 b0
                          have d11 : (t.k == 3) = false := beq_eq_false_iff_ne.2 b3
                          have HFx : Hid (wy = (0, [])) := by unfold Hid; rw [← HW.out]; unfold stepT; rw [if_neg (by rintro (h | h | h) <;> contradiction), if_neg k4, if_neg k5, if_neg (by rintro (h | h) <;> contradiction), if_neg m6, if_neg (fun h => a3 h.1), if_neg (by omega)]
                          clear hxy k0 k1 k4 k5 k2 m2 m6 a3 a1 b0 b3
                          go_wp2_with fail
                          go_ret
                          exact ⟨51, rfl, fun U q => by rw [HFx.out]; exact done10_any _ U, enters_of Try.func51 (by kernel_rfl) rfl, HQ2.out⟩
                    · have d0 : (x == y) = false := beq_eq_false_iff_ne.2 hxy
                      have d1 : (s.k == 0) = false := beq_eq_false_iff_ne.2 k0
                      have d2 : (t.k == 1) = false := beq_eq_false_iff_ne.2 k1
                      have d3 : (s.k == 4) = false := beq_eq_false_iff_ne.2 k4
                      have d4 : (t.k == 5) = false := beq_eq_false_iff_ne.2 k5
                      have d5 : (s.k == 2) = false := beq_eq_false_iff_ne.2 k2
                      have d6 : (t.k == 2) = false := beq_eq_false_iff_ne.2 m2
                      have d7 : (t.k == 6) = false := beq_eq_false_iff_ne.2 m6
                      have d8 : (s.k == 3) = false := beq_eq_false_iff_ne.2 a3
                      have d9 : (s.k == 1) = false := beq_eq_false_iff_ne.2 a1
                      have HFx : Hid (wy = (0, [])) := by unfold Hid; rw [← HW.out]; unfold stepT; rw [if_neg (by rintro (h | h | h) <;> contradiction), if_neg k4, if_neg k5, if_neg (by rintro (h | h) <;> contradiction), if_neg m6, if_neg (fun h => a3 h.1), if_neg (by omega)]
                      clear hxy k0 k1 k4 k5 k2 m2 m6 a3 a1
                      go_wp2_with fail
                      go_ret
                      exact ⟨51, rfl, fun U q => by rw [HFx.out]; exact done10_any _ U, enters_of Try.func51 (by kernel_rfl) rfl, HQ2.out⟩
end Go.Proofs.Ytjehccemilefgaa.St

namespace Go.Proofs.Ytjehccemilefgaa.St
open Go.RowKit Kit Rw
open Go.Proofs.Ytjehccemilefgaa.Sg (Sig Row)
open Go.Proofs.Ytjehccemilefgaa.Hs (Ints Keys BoxT Dist)
open Go.Proofs.Ytjehccemilefgaa.Tm (Tm Store termAt LookF Box4 isPl isPl_iff ofKey mayB standB hasB keyOk_parts key_of)
open Go.Proofs.Ytjehccemilefgaa.Ld (tmP parts_ahead)
/-- One stands at one place alone -/
theorem one_place {L : List Sig} {ks : List (List Int)} (hS : Store L ks) {i : Nat} (hi : i < ks.length) (h1 : (tmP ks i).k = 1) : (i : Int) = 1 := by
  obtain ⟨h3, hm, _⟩ := parts_ahead hS (List.getElem?_eq_getElem hi)
  rw [← tmP_is hi] at hm
  have hx : (tmP ks i).xs = [] := by
    cases may_tok hm with
    | leaf hx _ => exact hx
    | con _ _ h => omega
    | two _ _ h => omega
    | proj _ _ _ _ h => omega
  have hst : (tmP ks i).s = 0 ∧ (tmP ks i).p = 0 := by
    unfold mayB at hm
    simp only [Bool.and_eq_true] at hm
    have := hm.1.1
    unfold standB at this
    rw [if_neg (by omega), if_neg (by omega), if_neg (by omega)] at this
    simpa using this
  have e1 : ks[i] = [1, 0, 0] := by
    rw [← key_of h3, ← tmP_is hi]
    simp [Tm.key, h1, hst.1, hst.2, hx]
  have hd := hS.dist i 1 [1, 0, 0] (by rw [List.getElem?_eq_getElem hi, e1]) (Store.head hS (i := 1) (by omega))
  omega
set_option maxRecDepth 100000 in
set_option maxHeartbeats 8000000 in
theorem step10_any (R A S : Option Addr) (nl cl n c m d : Nat) (L : List Sig) (ks : List (List Int)) (x y : Int) (w : World) (hnl : nl = L.length) (hr : Row w w.heap.size R L) (hn : n = ks.length) (hk : Keys w w.heap.size A ks) (hS : Store L ks) (hl8 : ∀ s ∈ L, s.2.size ≤ 8) (hs : ∀ k ∈ ks, k.length ≤ 100000) (hcap : ks.length ≤ c) :
    Calls Try.prog 11 #[.slice R nl cl, .agg #[.slice A n c, .slice S m d], .int .i64 x, .int .i64 y] w (WayPost (stepF L ks x y) w) := by
  subst hnl hn
  have q0 := ((Q.refl w).alloc (Obj.cells #[Value.slice A ks.length c, Value.slice S m d] 26)).alloc (Obj.cells #[.int .i64 0, .slice none 0 0] 33)
  have h8 := Ex.own_new8 (w.alloc (Obj.cells #[Value.slice A ks.length c, Value.slice S m d] 26)) [.int .i64 0, .slice none 0 0] 33
  rw [show (w.alloc (Obj.cells #[Value.slice A ks.length c, Value.slice S m d] 26)).heap.size = w.heap.size + 1 by simp] at h8
  have HT := Lib.hid ((BoxT.new w (Value.slice A ks.length c) (Value.slice S m d) 26).q ((Q.refl _).alloc (Obj.cells #[.int .i64 0, .slice none 0 0] 33)))
  have CO : Hid (∀ U z, Q w U → Calls Try.prog 25 #[.slice R L.length cl, .agg #[.slice A ks.length c, .slice S m d], .int .i64 z] U (LookF ks z U)) := fun U z p => look10_any R A S L.length cl ks.length c m d L ks z U rfl ((hr.q (Nat.le_refl _) p).more p.size) rfl ((hk.q (Nat.le_refl _) p).more p.size) hS hs hcap
  have HR8 := Lib.hid h8
  have HQ0 := Lib.hid q0
  have HS := Lib.hid hS
  have H8 := Lib.hid hl8
  have HRow := Lib.hid hr
  clear h8 hk q0 hS hl8 hr hs hcap
  obtain ⟨s, hs⟩ : ∃ s, (termAt ks x).getD .none = s := ⟨_, rfl⟩
  obtain ⟨t, ht⟩ : ∃ t, (termAt ks y).getD .none = t := ⟨_, rfl⟩
  obtain ⟨b1, hb1⟩ : ∃ b, (termAt ks x).isSome = b := ⟨_, rfl⟩
  obtain ⟨b2, hb2⟩ : ∃ b, (termAt ks y).isSome = b := ⟨_, rfl⟩
  have Hs := Lib.hid hs
  have Ht := Lib.hid ht
  have Hb1 := Lib.hid hb1
  have Hb2 := Lib.hid hb2
  clear hs ht hb1 hb2
  go_enter Try.func11, Try.ntmps11
  go_wp2_with fail
  generalize (w.alloc (Obj.cells #[Value.slice A ks.length c, Value.slice S m d] 26)).alloc (Obj.cells #[.int .i64 0, .slice none 0 0] 33) = W0 at *
  refine (CO.out W0 x HQ0.out).mono ?_
  rintro e w1 ⟨A1, n1, c1, rfl, hn1, hi1, q1, _⟩
  rw [Hs.out] at hn1 hi1 ⊢
  rw [Hb1.out]
  subst hn1
  have HI1 := Lib.hid hi1
  have qa := (Q.refl w1).alloc (Obj.cells #[.int .i64 s.k, .int .i64 s.s, .int .i64 s.p, .slice A1 s.xs.length c1] 60)
  have HB9 := Lib.hid (Box4.new w1 (.int .i64 s.k) (.int .i64 s.s) (.int .i64 s.p) (.slice A1 s.xs.length c1) 60)
  have HT1 := (HT.out.q q1).q qa
  have b0 := HT1.c0
  have b01 := HT1.c1
  have HR1 := Lib.hid ((HR8.out.q q1).q qa)
  have HQ1 := Lib.hid ((HQ0.out.trans q1).trans qa)
  have HA1 := Lib.hid ((hi1.q (Nat.le_refl _) qa).more qa.size)
  clear hi1 HT1 HI1 HR8 HT
  go_wp2_with fail
  clear b0 b01 q1 qa
  generalize w1.alloc (Obj.cells #[.int .i64 s.k, .int .i64 s.s, .int .i64 s.p, .slice A1 s.xs.length c1] 60) = W1 at *
  refine (CO.out W1 y HQ1.out).mono ?_
  rintro e w2 ⟨A2, n2, c2, rfl, hn2, hi2, q2, _⟩
  rw [Ht.out] at hn2 hi2 ⊢
  rw [Hb2.out]
  subst hn2
  have qb := (Q.refl w2).alloc (Obj.cells #[.int .i64 t.k, .int .i64 t.s, .int .i64 t.p, .slice A2 t.xs.length c2] 60)
  have HB9b := Lib.hid ((HB9.out.q q2).q qb)
  have HB11 := Lib.hid (Box4.new w2 (.int .i64 t.k) (.int .i64 t.s) (.int .i64 t.p) (.slice A2 t.xs.length c2) 60)
  have HR8 := Lib.hid ((HR1.out.q q2).q qb)
  have HQw := Lib.hid ((HQ1.out.trans q2).trans qb)
  have HE1 := Lib.hid ((HA1.out.q (Nat.le_refl _) (q2.trans qb)).more (q2.trans qb).size)
  have HE2 := Lib.hid ((hi2.q (Nat.le_refl _) qb).more qb.size)
  have HROW := Lib.hid ((HRow.out.q (Nat.le_refl _) HQw.out).more HQw.out.size)
  clear qb q2 hi2 HB9 HA1 HR1 CO HQ1 HRow
  by_cases hpl : isPl x ks.length = true ∧ isPl y ks.length = true
  · obtain ⟨px, py⟩ := hpl
    obtain ⟨x0, x1⟩ := (isPl_iff _ _).1 px
    obtain ⟨i, rfl⟩ := Int.eq_ofNat_of_zero_le x0
    obtain ⟨y0, y1⟩ := (isPl_iff _ _).1 py
    obtain ⟨j, rfl⟩ := Int.eq_ofNat_of_zero_le y0
    have hi : i < ks.length := by omega
    have hj : j < ks.length := by omega
    obtain ⟨hts, hs2⟩ := place_tok HS.out hi
    obtain ⟨htt, ht2⟩ := place_tok HS.out hj
    have es : tmP ks i = s := by have := Hs.out; rw [hs2] at this; exact this
    have et : tmP ks j = t := by have := Ht.out; rw [ht2] at this; exact this
    have eb1 : b1 = true := by have := Hb1.out; rw [hs2] at this; exact this.symm
    have eb2 : b2 = true := by have := Hb2.out; rw [ht2] at this; exact this.symm
    subst eb1 eb2
    have HF := Lib.hid (stepF_at (L := L) HS.out hi hj)
    have hone : s.k = 1 → (i : Int) = 1 := fun h => one_place HS.out hi (by rw [es]; exact h)
    rw [es] at hts HF
    rw [et] at htt HF
    have HTS := Lib.hid hts
    have HTT := Lib.hid htt
    have HONE := Lib.hid hone
    clear es et hs2 ht2 px py x0 x1 y0 y1 Hs Ht Hb1 Hb2 hts htt hone
    generalize (i : Int) = x at *
    generalize (j : Int) = y at *
    go_upto_region 5 with fail
    generalize w2.alloc (Obj.cells #[.int .i64 t.k, .int .i64 t.s, .int .i64 t.p, .slice A2 t.xs.length c2] 60) = W at *
    have p0 := HB9b.out.c0
    have p1 := HB9b.out.c1
    have p2 := HB9b.out.c2
    have p3 := HB9b.out.c3
    have u0 := HB11.out.c0
    have u1 := HB11.out.c1
    have u2 := HB11.out.c2
    have u3 := HB11.out.c3
    have qp := (Q.refl W).alloc (Obj.cells #[.slice R L.length cl, .int .i64 x, .int .i64 y, .int .i64 s.k, .int .i64 s.s, .int .i64 s.p, .slice A1 s.xs.length c1, .int .i64 t.k, .int .i64 t.s, .int .i64 t.p, .slice A2 t.xs.length c2] 65)
    have HPB : Hid (PairB (W.alloc (Obj.cells #[.slice R L.length cl, .int .i64 x, .int .i64 y, .int .i64 s.k, .int .i64 s.s, .int .i64 s.p, .slice A1 s.xs.length c1, .int .i64 t.k, .int .i64 t.s, .int .i64 t.p, .slice A2 t.xs.length c2] 65)) W.heap.size R cl L x y s A1 c1 t A2 c2) := ⟨Ex.own_new8 W [.slice R L.length cl, .int .i64 x, .int .i64 y, .int .i64 s.k, .int .i64 s.s, .int .i64 s.p, .slice A1 s.xs.length c1, .int .i64 t.k, .int .i64 t.s, .int .i64 t.p, .slice A2 t.xs.length c2] 65, (HROW.out.q (Nat.le_refl _) qp).more qp.size, (HE1.out.q (Nat.le_refl _) qp).more qp.size, (HE2.out.q (Nat.le_refl _) qp).more qp.size⟩
    have HR8p := Lib.hid (HR8.out.q qp)
    have HQp := Lib.hid (HQw.out.trans qp)
    clear qp
    go_upto_region 6 with fail
    clear p0 p1 p2 p3 u0 u1 u2 u3
    generalize W.alloc (Obj.cells #[.slice R L.length cl, .int .i64 x, .int .i64 y, .int .i64 s.k, .int .i64 s.s, .int .i64 s.p, .slice A1 s.xs.length c1, .int .i64 t.k, .int .i64 t.s, .int .i64 t.p, .slice A2 t.xs.length c2] 65) = Wp at *
    go_wp2_with fail
    refine (told10_any _ R cl L x y s A1 c1 t A2 c2 Wp HPB.out _ _ HTS.out HTT.out H8.out HONE.out).mono ?_
    rintro e w3 ⟨g, rfl, hg, eg, q3⟩
    have HG := Lib.hid hg
    have HQ3 := Lib.hid q3
    clear hg q3
    go_wp2_with fail
    refine (HG.out w3 HQ3.out).mono ?_
    rintro e w4 ⟨A5, c5, rfl, hr5, q4, hA5⟩
    have HR4 := Lib.hid (HR8p.out.q (HQ3.out.trans q4))
    have HQ4 := Lib.hid ((HQp.out.trans HQ3.out).trans q4)
    have HR5 := Lib.hid hr5
    have HA5 := Lib.hid hA5
    have hsz : w.heap.size + 1 < Wp.heap.size := HR8p.out.1
    have hsz3 := HQ3.out.size
    clear hr5 hA5 q4
    generalize stepT L x y s t = wy at *
    obtain ⟨z00, z01⟩ := HR4.out.2 0 _ rfl
    obtain ⟨z10, z11⟩ := HR4.out.2 1 _ rfl
    go_wp2_with fail
    obtain ⟨⟨y0, y1⟩, hrd, hqw⟩ := way_close (w := w) (l := wy.2) (.int .i64 wy.1) (.slice A5 wy.2.length c5) HR4.out (by omega) HQ4.out HR5.out (fun _ ad ha => by have := HA5.out ad ha; omega)
    exact bodyPost_ret (v := .agg #[.int .i64 wy.1, .slice A5 wy.2.length c5]) (by simp [results, Try.f11, go_sem, y0, y1]) rfl ⟨_, _, by rw [HF.out], by rw [HF.out]; exact hrd, hqw, fun ad ha => by have := HA5.out ad ha; omega⟩
  · have HFz : Hid (stepF L ks x y = (0, [])) := stepF_no hpl
    have ebb : (!b1 || !b2) = true := by
      by_cases px : isPl x ks.length = true
      · have : b2 = false := by rw [← Hb2.out, termAt_no (fun h => hpl ⟨px, h⟩)]; rfl
        rw [this]; simp
      · have : b1 = false := by rw [← Hb1.out, termAt_no px]; rfl
        rw [this]; rfl
    obtain ⟨r00, r01⟩ := HR8.out.2 0 _ rfl
    obtain ⟨r10, r11⟩ := HR8.out.2 1 _ rfl
    clear hpl
    cases b1
    · go_wp2_with fail
      obtain ⟨⟨y0, y1⟩, hrd, hqw⟩ := way_close (w := w) (A := none) (l := []) (.int .i64 0) (.slice none 0 0) HR8.out (by omega) HQw.out (Rds.nil _ _ _) (fun h => absurd h (by simp))
      exact bodyPost_ret (v := .agg #[.int .i64 0, .slice none 0 0]) (by simp [results, Try.f11, go_sem, y0, y1]) rfl ⟨none, 0, by rw [HFz.out]; rfl, by rw [HFz.out]; exact hrd, hqw, fun _ h => by cases h⟩
    · cases b2
      · go_wp2_with fail
        obtain ⟨⟨y0, y1⟩, hrd, hqw⟩ := way_close (w := w) (A := none) (l := []) (.int .i64 0) (.slice none 0 0) HR8.out (by omega) HQw.out (Rds.nil _ _ _) (fun h => absurd h (by simp))
        exact bodyPost_ret (v := .agg #[.int .i64 0, .slice none 0 0]) (by simp [results, Try.f11, go_sem, y0, y1]) rfl ⟨none, 0, by rw [HFz.out]; rfl, by rw [HFz.out]; exact hrd, hqw, fun _ h => by cases h⟩
      · cases ebb
end Go.Proofs.Ytjehccemilefgaa.St
