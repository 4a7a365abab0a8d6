/-
  What the proofs lean on, part 17 of 20.
-/
import Derived.Test.YtnifmfdlocgefaaGreatPa
import Derived.Test.YtnifmfdlocgefaaGreatPm
import Derived.Test.YtnifmfdlocgefaaGreatPo
import Derived.Test.YtnifmfdlocgefaaGreatPp
namespace Go.Proofs.YtnifmfdlocgefaaGreat.Cy
open Go Go.RowKit Kit Uf Ig Tr

/-- are all of a row among the first m? -/
def thereL (m : Nat) (l : List Int) : Bool := l.all fun x => decide (0 ≤ x) && decide (x < (m : Int))
theorem thereL_no {m : Nat} {l : List Int} {k : Nat} (hk : k < l.length) (h : (decide (0 ≤ l[k]) && decide (l[k] < (m : Int))) = false) : thereL m l = false := by
  unfold thereL
  rw [List.all_eq_false]
  exact ⟨l[k], List.getElem_mem hk, by rw [h]; simp⟩
theorem thereL_yes {m : Nat} {l : List Int} (h : ∀ k (hk : k < l.length), k < l.length → (decide (0 ≤ l[k]) && decide (l[k] < (m : Int))) = true) : thereL m l = true := by
  unfold thereL
  rw [List.all_eq_true]
  intro x hx
  obtain ⟨k, hk, rfl⟩ := List.getElem_of_mem hx
  exact h k hk hk
set_option maxRecDepth 100000 in
set_option maxHeartbeats 4000000 in
theorem refThere13_any (l : List Int) (L Av : Option Addr) (n cl m k1 : Nat) (vr vb vc vp vt : Value) (w : World) (hn : n = l.length) (hr : Tr.Rds w w.heap.size L (cellsI l)) (hl : l.length ≤ 2305843009213693951) :
    Calls Tryz.prog 16 #[.agg #[vr, .slice Av m k1, vb, vc, vp, vt], .slice L n cl] w fun e w' => e = .returned (.bool (thereL m l)) ∧ Q w w' := by
  subst hn
  have HBg := Lib.hid (Box6.new w (vr) (.slice Av m k1) (vb) (vc) (vp) (vt) 31)
  have HQ0 := Lib.hid ((Q.refl w).alloc (Obj.cells #[vr, .slice Av m k1, vb, vc, vp, vt] 31))
  have HR := Lib.hid (hr.q ((Q.refl w).alloc (Obj.cells #[vr, .slice Av m k1, vb, vc, vp, vt] 31)))
  clear hr
  go_enter Tryz.func16, Tryz.ntmps16
  go_wp2_with fail
  generalize w.alloc (Obj.cells #[vr, .slice Av m k1, vb, vc, vp, vt] 31) = W0 at *
  go_loopw [5] (fun i wr => ∃ k : Nat, k ≤ l.length ∧ i = .int .i64 k ∧ Hid (∀ j (h : j < l.length), j < k → (decide (0 ≤ l[j]) && decide (l[j] < (m : Int))) = true) ∧ Hid (Q W0 wr)) (fun i _ => l.length - (intOf i).toNat)
  case atStart => exact ⟨0, Nat.zero_le _, rfl, Lib.hid (fun j h hj => absurd hj (by omega)), Lib.hid (Q.refl _)⟩
  case round =>
    obtain ⟨k, hkl, rfl, HN, HQr⟩ := hrel
    have s1 := (HBg.out.q HQr.out).c1
    by_cases hlt : k < l.length
    · obtain ⟨lad, hla, hlb, r0⟩ := (HR.out.q HQr.out).int_at hlt
      subst hla
      have d1 : decide ((k : Int) < (l.length : Int)) = true := decide_eq_true (by omega)
      have d2 : decide (k < l.length) = true := decide_eq_true hlt
      have j3 : (k : Int) < (l.length : Int) := by omega
      have j4 : (0 : Int) ≤ (k : Int) := Int.natCast_nonneg _
      have HNo := Lib.hid (thereL_no (m := m) hlt)
      have HY : Hid ((decide (0 ≤ l[k]) && decide (l[k] < (m : Int))) = true → ∀ j (h : j < l.length), j < k + 1 → (decide (0 ≤ l[j]) && decide (l[j] < (m : Int))) = true) := fun he j h hj => by
        by_cases e : j = k
        · subst e; exact he
        · exact HN.out j h (by omega)
      clear hlb
      by_cases h0 : l[k] < 0
      · have e5 : decide (l[k] < 0) = true := decide_eq_true h0
        have HT : Hid (thereL m l = false) := HNo.out (by rw [decide_eq_false (by omega)]; rfl)
        clear h0 HNo HY
        go_upto_region 4 with fail
        clear d1 d2
        refine wp_region_held_drew (S := fun U => U.cell? ⟨w.heap.size, 1, none⟩ = some (.slice Av m k1) ∧ U.cell? (lad.add k) = some (.int .i64 l[k])) (by kernel_rfl) ?_ (fun hHeld => ?_)
        · exact ⟨s1, r0⟩
        refine take_w (i := 0) (d := some 12) (v := ?_) rfl (by kernel_rfl) (by kernel_rfl) (by kernel_rfl) (fun _ _ _ h => h) rfl (by rfl) ?_ (by assumption) ?_
        rotate_left
        · (intro w hSw; (try dsimp only at hSw); go_simp; (try with_reducible rfl))
        try simp only [Act.put, List.setIfInBounds_toArray, List.set_cons_zero, List.set_cons_succ]
        refine take_w (i := 1) (d := some 13) (v := ?_) rfl (by kernel_rfl) (by kernel_rfl) (by kernel_rfl) (fun _ _ _ h => h) rfl (by rfl) ?_ (by assumption) ?_
        rotate_left
        · (intro w hSw; (try dsimp only at hSw); go_simp; (try with_reducible rfl))
        try simp only [Act.put, List.setIfInBounds_toArray, List.set_cons_zero, List.set_cons_succ]
        refine take_w (i := 2) (d := some 14) (v := ?_) rfl (by kernel_rfl) (by kernel_rfl) (by kernel_rfl) (fun _ _ _ h => h) rfl (by rfl) ?_ (by assumption) ?_
        rotate_left
        · (intro w hSw; (try dsimp only at hSw); go_simp; (try with_reducible rfl))
        try simp only [Act.put, List.setIfInBounds_toArray, List.set_cons_zero, List.set_cons_succ]
        refine take_w (i := 3) (d := some 15) (v := ?_) rfl (by kernel_rfl) (by kernel_rfl) (by kernel_rfl) (fun _ _ _ h => h) rfl (by rfl) ?_ (by assumption) ?_
        rotate_left
        · (intro w hSw; (try dsimp only at hSw); go_simp; (try with_reducible rfl))
        try simp only [Act.put, List.setIfInBounds_toArray, List.set_cons_zero, List.set_cons_succ]
        refine take_w (i := 4) (d := some 16) (v := ?_) rfl (by kernel_rfl) (by kernel_rfl) (by kernel_rfl) (fun _ _ _ h => h) rfl (by rfl) ?_ (by assumption) ?_
        rotate_left
        · (intro w hSw; (try dsimp only at hSw); go_simp; (try with_reducible rfl))
        try simp only [Act.put, List.setIfInBounds_toArray, List.set_cons_zero, List.set_cons_succ]
        refine take_w (i := 5) (d := some 17) (v := ?_) rfl (by kernel_rfl) (by kernel_rfl) (by kernel_rfl) (fun _ _ _ h => h) rfl (by rfl) ?_ (by assumption) ?_
        rotate_left
        · (intro w hSw; (try dsimp only at hSw); go_simp; (try with_reducible rfl))
        try simp only [Act.put, List.setIfInBounds_toArray, List.set_cons_zero, List.set_cons_succ]
        refine take_u (i := 6) (d := some 18) rfl (by kernel_rfl) (by kernel_rfl) (by kernel_rfl) (fun _ _ _ h => h) rfl (by rfl) (by assumption) ?_
        try simp only [Act.put, List.setIfInBounds_toArray, List.set_cons_zero, List.set_cons_succ]
        refine take_u (i := 7) (d := some 19) rfl (by kernel_rfl) (by kernel_rfl) (by kernel_rfl) (fun _ _ _ h => h) rfl (by rfl) (by assumption) ?_
        try simp only [Act.put, List.setIfInBounds_toArray, List.set_cons_zero, List.set_cons_succ]
        refine take_u (i := 8) (d := some 20) rfl (by kernel_rfl) (by kernel_rfl) (by kernel_rfl) (fun _ _ _ h => h) rfl (by rfl) (by assumption) ?_
        try simp only [Act.put, List.setIfInBounds_toArray, List.set_cons_zero, List.set_cons_succ]
        refine take_u (i := 9) (d := some 21) rfl (by kernel_rfl) (by kernel_rfl) (by kernel_rfl) (fun _ _ _ h => h) rfl (by rfl) (by assumption) ?_
        try simp only [Act.put, List.setIfInBounds_toArray, List.set_cons_zero, List.set_cons_succ]
        refine take_u (i := 10) (d := some 22) rfl (by kernel_rfl) (by kernel_rfl) (by kernel_rfl) (fun _ _ _ h => h) rfl (by rfl) (by assumption) ?_
        try simp only [Act.put, List.setIfInBounds_toArray, List.set_cons_zero, List.set_cons_succ]
        refine take_u (i := 11) (d := some 23) rfl (by kernel_rfl) (by kernel_rfl) (by kernel_rfl) (fun _ _ _ h => h) rfl (by rfl) (by assumption) ?_
        try simp only [Act.put, List.setIfInBounds_toArray, List.set_cons_zero, List.set_cons_succ]
        refine take_u (i := 12) (d := some 24) rfl (by kernel_rfl) (by kernel_rfl) (by kernel_rfl) (fun _ _ _ h => h) rfl (by rfl) (by assumption) ?_
        try simp only [Act.put, List.setIfInBounds_toArray, List.set_cons_zero, List.set_cons_succ]
        refine take_u (i := 13) (d := some 25) rfl (by kernel_rfl) (by kernel_rfl) (by kernel_rfl) (fun _ _ _ h => h) rfl (by rfl) (by assumption) ?_
        try simp only [Act.put, List.setIfInBounds_toArray, List.set_cons_zero, List.set_cons_succ]
        refine take_u (i := 14) (d := some 26) rfl (by kernel_rfl) (by kernel_rfl) (by kernel_rfl) (fun _ _ _ h => h) rfl (by rfl) (by assumption) ?_
        try simp only [Act.put, List.setIfInBounds_toArray, List.set_cons_zero, List.set_cons_succ]
        refine take_w (i := 15) (d := some 27) (v := ?_) rfl (by kernel_rfl) (by kernel_rfl) (by kernel_rfl) (fun _ _ _ h => h) rfl (by rfl) ?_ (by assumption) ?_
        rotate_left
        · (intro w hSw; (try dsimp only at hSw); go_simp; (try with_reducible rfl))
        try simp only [Act.put, List.setIfInBounds_toArray, List.set_cons_zero, List.set_cons_succ]
        refine wpAnyH_done (by kernel_rfl) ?_ _
        go_wp2_with fail
        go_ret
        exact ⟨by rw [HT.out]; rfl, HQ0.out.trans HQr.out.drew⟩
      · have e5 : decide (l[k] < 0) = false := decide_eq_false h0
        by_cases h1 : (m : Int) ≤ l[k]
        · have e6 : decide ((m : Int) ≤ l[k]) = true := decide_eq_true h1
          have HT : Hid (thereL m l = false) := HNo.out (by rw [decide_eq_false (by omega : ¬ l[k] < (m : Int)), Bool.and_false])
          clear h0 h1 HNo HY
          go_upto_region 4 with fail
          clear d1 d2
          refine wp_region_held_drew (S := fun U => U.cell? ⟨w.heap.size, 1, none⟩ = some (.slice Av m k1) ∧ U.cell? (lad.add k) = some (.int .i64 l[k])) (by kernel_rfl) ?_ (fun hHeld => ?_)
          · exact ⟨s1, r0⟩
          refine take_w (i := 0) (d := some 12) (v := ?_) rfl (by kernel_rfl) (by kernel_rfl) (by kernel_rfl) (fun _ _ _ h => h) rfl (by rfl) ?_ (by assumption) ?_
          rotate_left
          · (intro w hSw; (try dsimp only at hSw); go_simp; (try with_reducible rfl))
          try simp only [Act.put, List.setIfInBounds_toArray, List.set_cons_zero, List.set_cons_succ]
          refine take_w (i := 1) (d := some 13) (v := ?_) rfl (by kernel_rfl) (by kernel_rfl) (by kernel_rfl) (fun _ _ _ h => h) rfl (by rfl) ?_ (by assumption) ?_
          rotate_left
          · (intro w hSw; (try dsimp only at hSw); go_simp; (try with_reducible rfl))
          try simp only [Act.put, List.setIfInBounds_toArray, List.set_cons_zero, List.set_cons_succ]
          refine take_w (i := 2) (d := some 14) (v := ?_) rfl (by kernel_rfl) (by kernel_rfl) (by kernel_rfl) (fun _ _ _ h => h) rfl (by rfl) ?_ (by assumption) ?_
          rotate_left
          · (intro w hSw; (try dsimp only at hSw); go_simp; (try with_reducible rfl))
          try simp only [Act.put, List.setIfInBounds_toArray, List.set_cons_zero, List.set_cons_succ]
          refine take_w (i := 3) (d := some 15) (v := ?_) rfl (by kernel_rfl) (by kernel_rfl) (by kernel_rfl) (fun _ _ _ h => h) rfl (by rfl) ?_ (by assumption) ?_
          rotate_left
          · (intro w hSw; (try dsimp only at hSw); go_simp; (try with_reducible rfl))
          try simp only [Act.put, List.setIfInBounds_toArray, List.set_cons_zero, List.set_cons_succ]
          refine take_w (i := 4) (d := some 16) (v := ?_) rfl (by kernel_rfl) (by kernel_rfl) (by kernel_rfl) (fun _ _ _ h => h) rfl (by rfl) ?_ (by assumption) ?_
          rotate_left
          · (intro w hSw; (try dsimp only at hSw); go_simp; (try with_reducible rfl))
          try simp only [Act.put, List.setIfInBounds_toArray, List.set_cons_zero, List.set_cons_succ]
          refine take_w (i := 5) (d := some 17) (v := ?_) rfl (by kernel_rfl) (by kernel_rfl) (by kernel_rfl) (fun _ _ _ h => h) rfl (by rfl) ?_ (by assumption) ?_
          rotate_left
          · (intro w hSw; (try dsimp only at hSw); go_simp; (try with_reducible rfl))
          try simp only [Act.put, List.setIfInBounds_toArray, List.set_cons_zero, List.set_cons_succ]
          refine take_w (i := 6) (d := some 18) (v := ?_) rfl (by kernel_rfl) (by kernel_rfl) (by kernel_rfl) (fun _ _ _ h => h) rfl (by rfl) ?_ (by assumption) ?_
          rotate_left
          · (intro w hSw; (try dsimp only at hSw); go_simp; (try with_reducible rfl))
          try simp only [Act.put, List.setIfInBounds_toArray, List.set_cons_zero, List.set_cons_succ]
          refine take_w (i := 7) (d := some 19) (v := ?_) rfl (by kernel_rfl) (by kernel_rfl) (by kernel_rfl) (fun _ _ _ h => h) rfl (by rfl) ?_ (by assumption) ?_
          rotate_left
          · (intro w hSw; (try dsimp only at hSw); go_simp; (try with_reducible rfl))
          try simp only [Act.put, List.setIfInBounds_toArray, List.set_cons_zero, List.set_cons_succ]
          refine take_w (i := 8) (d := some 20) (v := ?_) rfl (by kernel_rfl) (by kernel_rfl) (by kernel_rfl) (fun _ _ _ h => h) rfl (by rfl) ?_ (by assumption) ?_
          rotate_left
          · (intro w hSw; (try dsimp only at hSw); go_simp; (try with_reducible rfl))
          try simp only [Act.put, List.setIfInBounds_toArray, List.set_cons_zero, List.set_cons_succ]
          refine take_w (i := 9) (d := some 21) (v := ?_) rfl (by kernel_rfl) (by kernel_rfl) (by kernel_rfl) (fun _ _ _ h => h) rfl (by rfl) ?_ (by assumption) ?_
          rotate_left
          · (intro w hSw; (try dsimp only at hSw); go_simp; (try with_reducible rfl))
          try simp only [Act.put, List.setIfInBounds_toArray, List.set_cons_zero, List.set_cons_succ]
          refine take_w (i := 10) (d := some 22) (v := ?_) rfl (by kernel_rfl) (by kernel_rfl) (by kernel_rfl) (fun _ _ _ h => h) rfl (by rfl) ?_ (by assumption) ?_
          rotate_left
          · (intro w hSw; (try dsimp only at hSw); go_simp; (try with_reducible rfl))
          try simp only [Act.put, List.setIfInBounds_toArray, List.set_cons_zero, List.set_cons_succ]
          refine take_w (i := 11) (d := some 23) (v := ?_) rfl (by kernel_rfl) (by kernel_rfl) (by kernel_rfl) (fun _ _ _ h => h) rfl (by rfl) ?_ (by assumption) ?_
          rotate_left
          · (intro w hSw; (try dsimp only at hSw); go_simp; (try with_reducible rfl))
          try simp only [Act.put, List.setIfInBounds_toArray, List.set_cons_zero, List.set_cons_succ]
          refine take_w (i := 12) (d := some 24) (v := ?_) rfl (by kernel_rfl) (by kernel_rfl) (by kernel_rfl) (fun _ _ _ h => h) rfl (by rfl) ?_ (by assumption) ?_
          rotate_left
          · (intro w hSw; (try dsimp only at hSw); go_simp; (try with_reducible rfl))
          try simp only [Act.put, List.setIfInBounds_toArray, List.set_cons_zero, List.set_cons_succ]
          refine take_w (i := 13) (d := some 25) (v := ?_) rfl (by kernel_rfl) (by kernel_rfl) (by kernel_rfl) (fun _ _ _ h => h) rfl (by rfl) ?_ (by assumption) ?_
          rotate_left
          · (intro w hSw; (try dsimp only at hSw); go_simp; (try with_reducible rfl))
          try simp only [Act.put, List.setIfInBounds_toArray, List.set_cons_zero, List.set_cons_succ]
          refine take_w (i := 14) (d := some 26) (v := ?_) rfl (by kernel_rfl) (by kernel_rfl) (by kernel_rfl) (fun _ _ _ h => h) rfl (by rfl) ?_ (by assumption) ?_
          rotate_left
          · (intro w hSw; (try dsimp only at hSw); go_simp; (try with_reducible rfl))
          try simp only [Act.put, List.setIfInBounds_toArray, List.set_cons_zero, List.set_cons_succ]
          refine take_w (i := 15) (d := some 27) (v := ?_) rfl (by kernel_rfl) (by kernel_rfl) (by kernel_rfl) (fun _ _ _ h => h) rfl (by rfl) ?_ (by assumption) ?_
          rotate_left
          · (intro w hSw; (try dsimp only at hSw); go_simp; (try with_reducible rfl))
          try simp only [Act.put, List.setIfInBounds_toArray, List.set_cons_zero, List.set_cons_succ]
          refine wpAnyH_done (by kernel_rfl) ?_ _
          go_wp2_with fail
          go_ret
          exact ⟨by rw [HT.out]; rfl, HQ0.out.trans HQr.out.drew⟩
        · have e6 : decide ((m : Int) ≤ l[k]) = false := decide_eq_false h1
          have HN2 := Lib.hid (HY.out (by rw [decide_eq_true (by omega), decide_eq_true (by omega)]; rfl))
          clear h0 h1 HNo HY
          go_upto_region 4 with fail
          clear d1 d2
          refine wp_region_held_drew (S := fun U => U.cell? ⟨w.heap.size, 1, none⟩ = some (.slice Av m k1) ∧ U.cell? (lad.add k) = some (.int .i64 l[k])) (by kernel_rfl) ?_ (fun hHeld => ?_)
          · exact ⟨s1, r0⟩
          refine take_w (i := 0) (d := some 12) (v := ?_) rfl (by kernel_rfl) (by kernel_rfl) (by kernel_rfl) (fun _ _ _ h => h) rfl (by rfl) ?_ (by assumption) ?_
          rotate_left
          · (intro w hSw; (try dsimp only at hSw); go_simp; (try with_reducible rfl))
          try simp only [Act.put, List.setIfInBounds_toArray, List.set_cons_zero, List.set_cons_succ]
          refine take_w (i := 1) (d := some 13) (v := ?_) rfl (by kernel_rfl) (by kernel_rfl) (by kernel_rfl) (fun _ _ _ h => h) rfl (by rfl) ?_ (by assumption) ?_
          rotate_left
          · (intro w hSw; (try dsimp only at hSw); go_simp; (try with_reducible rfl))
          try simp only [Act.put, List.setIfInBounds_toArray, List.set_cons_zero, List.set_cons_succ]
          refine take_w (i := 2) (d := some 14) (v := ?_) rfl (by kernel_rfl) (by kernel_rfl) (by kernel_rfl) (fun _ _ _ h => h) rfl (by rfl) ?_ (by assumption) ?_
          rotate_left
          · (intro w hSw; (try dsimp only at hSw); go_simp; (try with_reducible rfl))
          try simp only [Act.put, List.setIfInBounds_toArray, List.set_cons_zero, List.set_cons_succ]
          refine take_w (i := 3) (d := some 15) (v := ?_) rfl (by kernel_rfl) (by kernel_rfl) (by kernel_rfl) (fun _ _ _ h => h) rfl (by rfl) ?_ (by assumption) ?_
          rotate_left
          · (intro w hSw; (try dsimp only at hSw); go_simp; (try with_reducible rfl))
          try simp only [Act.put, List.setIfInBounds_toArray, List.set_cons_zero, List.set_cons_succ]
          refine take_w (i := 4) (d := some 16) (v := ?_) rfl (by kernel_rfl) (by kernel_rfl) (by kernel_rfl) (fun _ _ _ h => h) rfl (by rfl) ?_ (by assumption) ?_
          rotate_left
          · (intro w hSw; (try dsimp only at hSw); go_simp; (try with_reducible rfl))
          try simp only [Act.put, List.setIfInBounds_toArray, List.set_cons_zero, List.set_cons_succ]
          refine take_w (i := 5) (d := some 17) (v := ?_) rfl (by kernel_rfl) (by kernel_rfl) (by kernel_rfl) (fun _ _ _ h => h) rfl (by rfl) ?_ (by assumption) ?_
          rotate_left
          · (intro w hSw; (try dsimp only at hSw); go_simp; (try with_reducible rfl))
          try simp only [Act.put, List.setIfInBounds_toArray, List.set_cons_zero, List.set_cons_succ]
          refine take_w (i := 6) (d := some 18) (v := ?_) rfl (by kernel_rfl) (by kernel_rfl) (by kernel_rfl) (fun _ _ _ h => h) rfl (by rfl) ?_ (by assumption) ?_
          rotate_left
          · (intro w hSw; (try dsimp only at hSw); go_simp; (try with_reducible rfl))
          try simp only [Act.put, List.setIfInBounds_toArray, List.set_cons_zero, List.set_cons_succ]
          refine take_w (i := 7) (d := some 19) (v := ?_) rfl (by kernel_rfl) (by kernel_rfl) (by kernel_rfl) (fun _ _ _ h => h) rfl (by rfl) ?_ (by assumption) ?_
          rotate_left
          · (intro w hSw; (try dsimp only at hSw); go_simp; (try with_reducible rfl))
          try simp only [Act.put, List.setIfInBounds_toArray, List.set_cons_zero, List.set_cons_succ]
          refine take_w (i := 8) (d := some 20) (v := ?_) rfl (by kernel_rfl) (by kernel_rfl) (by kernel_rfl) (fun _ _ _ h => h) rfl (by rfl) ?_ (by assumption) ?_
          rotate_left
          · (intro w hSw; (try dsimp only at hSw); go_simp; (try with_reducible rfl))
          try simp only [Act.put, List.setIfInBounds_toArray, List.set_cons_zero, List.set_cons_succ]
          refine take_w (i := 9) (d := some 21) (v := ?_) rfl (by kernel_rfl) (by kernel_rfl) (by kernel_rfl) (fun _ _ _ h => h) rfl (by rfl) ?_ (by assumption) ?_
          rotate_left
          · (intro w hSw; (try dsimp only at hSw); go_simp; (try with_reducible rfl))
          try simp only [Act.put, List.setIfInBounds_toArray, List.set_cons_zero, List.set_cons_succ]
          refine take_w (i := 10) (d := some 22) (v := ?_) rfl (by kernel_rfl) (by kernel_rfl) (by kernel_rfl) (fun _ _ _ h => h) rfl (by rfl) ?_ (by assumption) ?_
          rotate_left
          · (intro w hSw; (try dsimp only at hSw); go_simp; (try with_reducible rfl))
          try simp only [Act.put, List.setIfInBounds_toArray, List.set_cons_zero, List.set_cons_succ]
          refine take_w (i := 11) (d := some 23) (v := ?_) rfl (by kernel_rfl) (by kernel_rfl) (by kernel_rfl) (fun _ _ _ h => h) rfl (by rfl) ?_ (by assumption) ?_
          rotate_left
          · (intro w hSw; (try dsimp only at hSw); go_simp; (try with_reducible rfl))
          try simp only [Act.put, List.setIfInBounds_toArray, List.set_cons_zero, List.set_cons_succ]
          refine take_w (i := 12) (d := some 24) (v := ?_) rfl (by kernel_rfl) (by kernel_rfl) (by kernel_rfl) (fun _ _ _ h => h) rfl (by rfl) ?_ (by assumption) ?_
          rotate_left
          · (intro w hSw; (try dsimp only at hSw); go_simp; (try with_reducible rfl))
          try simp only [Act.put, List.setIfInBounds_toArray, List.set_cons_zero, List.set_cons_succ]
          refine take_w (i := 13) (d := some 25) (v := ?_) rfl (by kernel_rfl) (by kernel_rfl) (by kernel_rfl) (fun _ _ _ h => h) rfl (by rfl) ?_ (by assumption) ?_
          rotate_left
          · (intro w hSw; (try dsimp only at hSw); go_simp; (try with_reducible rfl))
          try simp only [Act.put, List.setIfInBounds_toArray, List.set_cons_zero, List.set_cons_succ]
          refine take_w (i := 14) (d := some 26) (v := ?_) rfl (by kernel_rfl) (by kernel_rfl) (by kernel_rfl) (fun _ _ _ h => h) rfl (by rfl) ?_ (by assumption) ?_
          rotate_left
          · (intro w hSw; (try dsimp only at hSw); go_simp; (try with_reducible rfl))
          try simp only [Act.put, List.setIfInBounds_toArray, List.set_cons_zero, List.set_cons_succ]
          refine take_w (i := 15) (d := some 27) (v := ?_) rfl (by kernel_rfl) (by kernel_rfl) (by kernel_rfl) (fun _ _ _ h => h) rfl (by rfl) ?_ (by assumption) ?_
          rotate_left
          · (intro w hSw; (try dsimp only at hSw); go_simp; (try with_reducible rfl))
          try simp only [Act.put, List.setIfInBounds_toArray, List.set_cons_zero, List.set_cons_succ]
          refine wpAnyH_done (by kernel_rfl) ?_ _
          go_wp2_with fail
          go_roundw
          case rel => exact ⟨k + 1, by omega, by go_num, HN2, Lib.hid HQr.out.drew⟩
          case measure => simp [intOf]; omega
    · obtain rfl : k = l.length := by omega
      have d1 : decide ((l.length : Int) < (l.length : Int)) = false := decide_eq_false (by omega)
      have d2 : decide (l.length < l.length) = false := decide_eq_false (by omega)
      have HT : Hid (thereL m l = true) := thereL_yes HN.out
      go_wp2_with fail
      go_ret
      exact ⟨by rw [HT.out]; rfl, HQ0.out.trans HQr.out⟩
end Go.Proofs.YtnifmfdlocgefaaGreat.Cy

namespace Go.Proofs.YtnifmfdlocgefaaGreat.Cy
open Go Go.RowKit Kit Uf Ig Tr
open Go.Proofs.YtnifmfdlocgefaaGreat.Hs (Keys Ints BoxT OwnI)
theorem own_block {w : World} {base n : Nat} {v : Value} {l : List Int} (h : w.ownsRow base 3 1 v n (cellsI l)) (hn : n = l.length) (h0 : 0 < n) : ∃ g c, v = .slice (some ⟨g, 0, none⟩) n c ∧ base ≤ g ∧ n ≤ c ∧ OwnI w g l := by
  have h2 := h
  obtain ⟨hl, ⟨rfl, h0'⟩ | ⟨g, cap, cur, rfl, hg, hh, hc, _⟩⟩ := h
  · omega
  · exact ⟨g, cap, rfl, hg, hc, Hs.OwnI.of_own h2⟩
end Go.Proofs.YtnifmfdlocgefaaGreat.Cy

namespace Go.Proofs.YtnifmfdlocgefaaGreat.Cy
open Go Go.RowKit Kit Uf Ig Tr
open Go.Proofs.YtnifmfdlocgefaaGreat.Hs (Keys Ints BoxT OwnI)
theorem dl_first {R V : List Int} {P T ks : List (List Int)} (hC : Cl R V) {s0 : Nat} (hs : s0 < V.length) {m u : Nat} (h : 0 ≤ dl V.length (fun a b => eB ks V P T (fst V a) b) (fst V s0) m u) : par V u = u := by
  obtain ⟨d, hd⟩ := Int.eq_ofNat_of_zero_le h
  cases d with
  | zero =>
    have := dl_zero (k := m) hd
    rw [this]; exact (hC.fst_in s0 hs).2.1
  | succ d =>
    obtain ⟨a, _, _, he⟩ := dl_back hd
    exact (eB_of he).2.1.2
end Go.Proofs.YtnifmfdlocgefaaGreat.Cy

namespace Go.Proofs.YtnifmfdlocgefaaGreat.Cy
open Go Go.RowKit Go.Maps Go.WideMaps Go.Lib Go.Sort Go.Shelf Kit Uf Ig Tr
open Go.Proofs.YtnifmfdlocgefaaGreat.Hs (Keys Ints KeysP IntsP BoxT)
/-- the way, as the search and the way from behind have it -/
theorem path_self {N s : Nat} {e : Nat → Nat → Bool} (depth : Int) : pathN N e s s depth = [s] := by
  unfold pathN
  have h := dl_self (N := N) (e := e) (s := s) N
  rw [h, if_pos ⟨by omega, by omega⟩]
  rfl
set_option maxRecDepth 100000 in
set_option maxHeartbeats 4000000 in
theorem path13p_any (R : List Int) (c : Cells) (P T ks : List (List Int)) (A S F Av D E Pa Ta : Option Addr) (ca ms d nr cr k1 k2 k3 kp kt x y : Nat) (depth : Int) (w : World)
    (hk : Keys w w.heap.size A ks) (hkey : ∀ k ∈ ks, k.length ≤ 100000) (hl : ks.length ≤ 1000000) (h : Rd w c Av k1 D k2 E k3) (hC : Cl R c.V) (hlv : c.V.length ≤ 1000)
    (hP : Keys w w.heap.size Pa P) (hT : Keys w w.heap.size Ta T) (lP : P.length = c.V.length) (lT : T.length = c.V.length) (sP : ∀ x ∈ P, x.length ≤ 1000000) (sT : ∀ x ∈ T, x.length ≤ 1000000) (hE : (edgesN ks c.V P T).length ≤ 1000000) (hx : x < c.V.length) (hy : y < c.V.length) :
    Calls Tryz.prog 22 #[.agg #[.slice A ks.length ca, .slice S ms d], .agg #[.slice F nr cr, .slice Av c.V.length k1, .slice D c.N.length k2, .slice E c.M.length k3, .slice Pa P.length kp, .slice Ta T.length kt], .int .i64 (x : Int), .int .i64 (y : Int), .int .i64 depth] w (RowPost ((pathN c.V.length (fun a b => eB ks c.V P T (fst c.V a) b) (fst c.V x) (fst c.V y) depth).map fun (n : Nat) => (n : Int)) w) := by
  have hlv6 : c.V.length ≤ 1000000 := by omega
  have q0 := ((Q.refl w).alloc (Obj.cells #[.slice A ks.length ca, .slice S ms d] 26)).alloc (Obj.cells #[.slice F nr cr, .slice Av c.V.length k1, .slice D c.N.length k2, .slice E c.M.length k3, .slice Pa P.length kp, .slice Ta T.length kt] 31)
  have HBa := Lib.hid ((BoxT.new w (.slice A ks.length ca) (.slice S ms d) 26).q ((Q.refl _).alloc (Obj.cells #[.slice F nr cr, .slice Av c.V.length k1, .slice D c.N.length k2, .slice E c.M.length k3, .slice Pa P.length kp, .slice Ta T.length kt] 31)))
  have X := Box6.new (w.alloc (Obj.cells #[.slice A ks.length ca, .slice S ms d] 26)) (.slice F nr cr) (.slice Av c.V.length k1) (.slice D c.N.length k2) (.slice E c.M.length k3) (.slice Pa P.length kp) (.slice Ta T.length kt) 31
  rw [World.size_alloc] at X
  have HBg := Lib.hid X
  have HQ0 := Lib.hid q0
  obtain ⟨f, hf⟩ : ∃ f, f = fst c.V x := ⟨_, rfl⟩
  obtain ⟨g, hg⟩ : ∃ g, g = fst c.V y := ⟨_, rfl⟩
  have CT := Lib.hid (fun (z : Nat) (U : World) => there13 c.V.length (.slice F nr cr) (.slice D c.N.length k2) (.slice E c.M.length k3) (.slice Pa P.length kp) (.slice Ta T.length kt) Av k1 (z : Int) U)
  have CFx := Lib.hid (fun (U : World) (q : Q w U) => find_any R c x Av D E _ k1 _ k2 _ k3 U rfl rfl rfl (h.q q) hC hx hlv6)
  have CFy := Lib.hid (fun (U : World) (q : Q w U) => find_any R c y Av D E _ k1 _ k2 _ k3 U rfl rfl rfl (h.q q) hC hy hlv6)
  have CA := Lib.hid (fun (U : World) (q : Q w U) => all13p_any R c P T ks A S F Av D E Pa Ta ca ms d nr cr k1 k2 k3 kp kt U ((hk.q (Nat.le_refl _) q).more q.size) hkey hl (h.q q) hC hlv6 ((hP.q (Nat.le_refl _) q).more q.size) ((hT.q (Nat.le_refl _) q).more q.size) lP lT sP sT hE)
  have hfN : f < c.V.length := by rw [hf]; exact (hC.fst_in x hx).1
  have hgN : g < c.V.length := by rw [hg]; exact (hC.fst_in y hy).1
  have CS := Lib.hid (fun (U : World) (An : Option Addr) (hX : Keys U U.heap.size An ((List.range c.V.length).map fun i => toOf (edgesN ks c.V P T) i)) => search13p_any c.V.length f g c.V.length depth (fun a b => eB ks c.V P T (fst c.V a) b) (fun i => toOf (edgesN ks c.V P T) i) An U hlv hfN hgN
    (fun j u hu hd x0 => by
      have hpu : par c.V u = u := dl_first hC hx (m := j) (by rw [← hf, hd]; omega)
      have hfu : fst c.V u = u := hC.fst_self hu hpu
      rw [toOf_mem]
      constructor
      · rintro ⟨v, hv, rfl⟩
        have hv := (mem_edges hC).1 hv
        exact ⟨v, (eB_of hv).2.1.1, by rw [hfu]; exact hv, rfl⟩
      · rintro ⟨v, _, hv, rfl⟩
        rw [hfu] at hv
        exact ⟨v, (mem_edges hC).2 hv, rfl⟩)
    (fun u _ => Nat.le_trans (toOf_len _ _) hE) hX)
  obtain ⟨L, hL⟩ : ∃ L : Nat → List Int, ∀ j, L j = (if 0 ≤ dl c.V.length (fun a b => eB ks c.V P T (fst c.V a) b) f j g then back c.V.length (fun a b => eB ks c.V P T (fst c.V a) b) (dl c.V.length (fun a b => eB ks c.V P T (fst c.V a) b) f j) (dl c.V.length (fun a b => eB ks c.V P T (fst c.V a) b) f j g).toNat g else []).map fun (n : Nat) => (n : Int) := ⟨_, fun _ => rfl⟩
  have HL := Lib.hid hL
  have CTo : Hid (∀ (U : World) (b n j : Nat), WayM U b n (wayF c.V.length (fun a b => eB ks c.V P T (fst c.V a) b) f j) → Calls Tryz.prog 73 #[.map (some b), .int .i64 (g : Int)] U (RowPost (L j) U)) := (fun (U : World) (b n j : Nat) (hm : WayM U b n (wayF c.V.length (fun a b => eB ks c.V P T (fst c.V a) b) f j)) => to13p_any c.V.length f g j b n (fun a b => eB ks c.V P T (fst c.V a) b) U hlv hfN hgN hm |> fun h => by rw [hL]; exact h)
  have dx : (decide (0 ≤ (x : Int)) && decide ((x : Int) < (c.V.length : Int))) = true := by rw [decide_eq_true (by omega), decide_eq_true (by omega)]; rfl
  have dy : (decide (0 ≤ (y : Int)) && decide ((y : Int) < (c.V.length : Int))) = true := by rw [decide_eq_true (by omega), decide_eq_true (by omega)]; rfl
  have Hdx := Lib.hid dx
  have Hdy := Lib.hid dy
  rw [← hf] at CFx
  rw [← hg] at CFy
  rw [← hf, ← hg]
  clear hk hkey hl h hC hlv hlv6 hP hT lP lT sP sT hE hx hy X q0 hf hg hfN hgN dx dy hL
  go_enter Tryz.func22, Tryz.ntmps22
  go_upto_region 1 with fail
  generalize (w.alloc (Obj.cells #[.slice A ks.length ca, .slice S ms d] 26)).alloc (Obj.cells #[.slice F nr cr, .slice Av c.V.length k1, .slice D c.N.length k2, .slice E c.M.length k3, .slice Pa P.length kp, .slice Ta T.length kt] 31) = W0 at *
  have g0 := (HBg.out.q (Q.refl W0)).c0
  have g1 := (HBg.out.q (Q.refl W0)).c1
  have g2 := (HBg.out.q (Q.refl W0)).c2
  have g3 := (HBg.out.q (Q.refl W0)).c3
  have g4 := (HBg.out.q (Q.refl W0)).c4
  have g5 := (HBg.out.q (Q.refl W0)).c5
  go_upto_region 3 with (first
    | (go_at_call 70; (with_reducible refine (CT.out x W0).mono ?_); rintro e w1 ⟨rfl, q1⟩; rw [Hdx.out]; have HQ1 := Lib.hid q1; clear q1 g0 g1 g2 g3 g4 g5; have g0 := (HBg.out.q HQ1.out).c0; have g1 := (HBg.out.q HQ1.out).c1; have g2 := (HBg.out.q HQ1.out).c2; have g3 := (HBg.out.q HQ1.out).c3; have g4 := (HBg.out.q HQ1.out).c4; have g5 := (HBg.out.q HQ1.out).c5)
    | (go_at_call 70; (with_reducible refine (CT.out y w1).mono ?_); rintro e w2 ⟨rfl, q2⟩; rw [Hdy.out]; have HQ2 := Lib.hid (HQ1.out.trans q2); clear q2 g0 g1 g2 g3 g4 g5))
  have HQd := Lib.hid (Q.drew (HQ0.out.trans HQ2.out))
  have tst : (fun X => X.cell? ⟨w.heap.size + 1, 1, none⟩ = some (.slice Av c.V.length k1) ∧ X.cell? ⟨w.heap.size + 1, 2, none⟩ = some (.slice D c.N.length k2) ∧ X.cell? ⟨w.heap.size + 1, 3, none⟩ = some (.slice E c.M.length k3)) w2.drew := ⟨(HBg.out.q (Q.drew HQ2.out)).c1, (HBg.out.q (Q.drew HQ2.out)).c2, (HBg.out.q (Q.drew HQ2.out)).c3⟩
  go_region_held3 (fun X => X.cell? ⟨w.heap.size + 1, 1, none⟩ = some (.slice Av c.V.length k1) ∧ X.cell? ⟨w.heap.size + 1, 2, none⟩ = some (.slice D c.N.length k2) ∧ X.cell? ⟨w.heap.size + 1, 3, none⟩ = some (.slice E c.M.length k3))
    (first
      | go_keep
      | exact ⟨(HBg.out.q (Q.drew HQ2.out)).c1, (HBg.out.q (Q.drew HQ2.out)).c2, (HBg.out.q (Q.drew HQ2.out)).c3⟩
      | exact ⟨(HBg.out.q HQ3.out).c1, (HBg.out.q HQ3.out).c2, (HBg.out.q HQ3.out).c3⟩
      | exact ⟨(HBg.out.q HQ4.out).c1, (HBg.out.q HQ4.out).c2, (HBg.out.q HQ4.out).c3⟩)
    (first
      | (go_at_call 65; (with_reducible refine (CFx.out w2.drew HQd.out).mono ?_); rintro e w3 ⟨rfl, q3⟩; have HQ3 := Lib.hid ((Q.drew HQ2.out).trans q3); clear q3)
      | (go_at_call 65; (with_reducible refine (CFy.out w3 (HQ0.out.trans HQ3.out)).mono ?_); rintro e w4 ⟨rfl, q4⟩; have HQ4 := Lib.hid (HQ3.out.trans q4); clear q4))
  have HQw := Lib.hid (HQ0.out.trans HQ4.out)
  by_cases hfg : f = g
  · subst hfg
    have e1 : ((f : Int) == (f : Int)) = true := by simp
    go_wp2_with fail
    go_ret
    rw [path_self]
    exact ⟨_, 1, rfl, Nat.le_refl _, fun _ => ⟨_, rfl, by simp, fun i v hv => by rw [Hs.add_zero_head]; exact ((own_new13 w4 (.int .i64 (f : Int)) 3).2 i v hv).1⟩, HQw.out.trans ((Q.refl w4).alloc _)⟩
  · have e1 : ((f : Int) == (g : Int)) = false := beq_eq_false_iff_ne.2 (by omega)
    have a0 := (HBa.out.q HQ4.out).c0
    have a1 := (HBa.out.q HQ4.out).c1
    have g0 := (HBg.out.q HQ4.out).c0
    have g1 := (HBg.out.q HQ4.out).c1
    have g2 := (HBg.out.q HQ4.out).c2
    have g3 := (HBg.out.q HQ4.out).c3
    have g4 := (HBg.out.q HQ4.out).c4
    have g5 := (HBg.out.q HQ4.out).c5
    clear hfg
    go_wp2_with (first
      | (go_at_call 72; refine (CA.out w4 HQw.out).mono ?_; rintro e w5 ⟨An, rfl, hX, q5⟩; have HX := Lib.hid hX; have HQ5 := Lib.hid (HQw.out.trans q5); clear hX q5)
      | (go_at_call 71; refine (CS.out w5 An HX.out).mono ?_; rintro e w6 ⟨b, n, j, rfl, hj, hst, hm, q6⟩; have HJ := Lib.hid hj; have HSt := Lib.hid hst; have HM := Lib.hid hm; have HQ6 := Lib.hid (HQ5.out.trans q6); clear hj hst hm q6)
      | (go_at_call 73; refine (CTo.out w6 b n j HM.out).mono ?_; rintro e w7 ⟨A7, c7, rfl, hc7, hR7, q7⟩; have HC7 := Lib.hid hc7; have HR7 := Lib.hid hR7; have HQ7 := Lib.hid (HQ6.out.trans q7); clear hc7 hR7 q7))
    go_ret
    rw [path_stop HJ.out HSt.out, ← HL.out j]
    exact ⟨A7, c7, rfl, HC7.out, HR7.out, HQ7.out⟩
end Go.Proofs.YtnifmfdlocgefaaGreat.Cy

namespace Go.Proofs.YtnifmfdlocgefaaGreat.Cy
open Go Go.RowKit Go.Lib Go.Sort Go.Shelf Kit Uf Ig Tr
open Go.Proofs.YtnifmfdlocgefaaGreat.Hs (Keys Ints KeysP IntsP BoxT)
attribute [local go_sem] Oper.semAt_some

set_option maxRecDepth 100000 in
set_option maxHeartbeats 4000000 in
theorem next13_any (R : List Int) (c : Cells) (P T ks : List (List Int)) (A S F Av D E Pa Ta : Option Addr) (ca ms d nr cr k1 k2 k3 kp kt x : Nat) (w : World)
    (hk : Keys w w.heap.size A ks) (hkey : ∀ k ∈ ks, k.length ≤ 100000) (hl : ks.length ≤ 1000000) (h : Rd w c Av k1 D k2 E k3) (hC : Cl R c.V) (hlv : c.V.length ≤ 1000000)
    (hP : Keys w w.heap.size Pa P) (hT : Keys w w.heap.size Ta T) (lP : P.length = c.V.length) (lT : T.length = c.V.length) (sP : ∀ x ∈ P, x.length ≤ 1000000) (sT : ∀ x ∈ T, x.length ≤ 1000000) (hE : (edgesN ks c.V P T).length ≤ 1000000) (hx : x < c.V.length) :
    Calls Tryz.prog 20 #[.agg #[.slice A ks.length ca, .slice S ms d], .agg #[.slice F nr cr, .slice Av c.V.length k1, .slice D c.N.length k2, .slice E c.M.length k3, .slice Pa P.length kp, .slice Ta T.length kt], .int .i64 (x : Int)] w (RowPost (nextL ks c.V P T (fst c.V x)) w) := by
  obtain ⟨i0, hi, hz0, hz1, hz2⟩ := info_parts intInfo
  have Hi := Lib.hid hi
  have Hz0 := Lib.hid hz0
  have Hz1 := Lib.hid hz1
  have Hz2 := Lib.hid hz2
  clear hi hz0 hz1 hz2
  obtain ⟨f, hf⟩ : ∃ f, f = fst c.V x := ⟨_, rfl⟩
  have q0 := ((Q.refl w).alloc (Obj.cells #[.slice A ks.length ca, .slice S ms d] 26)).alloc (Obj.cells #[.slice F nr cr, .slice Av c.V.length k1, .slice D c.N.length k2, .slice E c.M.length k3, .slice Pa P.length kp, .slice Ta T.length kt] 31)
  have HBa := Lib.hid ((BoxT.new w (.slice A ks.length ca) (.slice S ms d) 26).q ((Q.refl _).alloc (Obj.cells #[.slice F nr cr, .slice Av c.V.length k1, .slice D c.N.length k2, .slice E c.M.length k3, .slice Pa P.length kp, .slice Ta T.length kt] 31)))
  have X := Box6.new (w.alloc (Obj.cells #[.slice A ks.length ca, .slice S ms d] 26)) (.slice F nr cr) (.slice Av c.V.length k1) (.slice D c.N.length k2) (.slice E c.M.length k3) (.slice Pa P.length kp) (.slice Ta T.length kt) 31
  rw [World.size_alloc] at X
  have HBg := Lib.hid X
  have HQ0 := Lib.hid q0
  have CF := Lib.hid (fun (U : World) (q : Q w U) => find_any R c x Av D E _ k1 _ k2 _ k3 U rfl rfl rfl (h.q q) hC hx hlv)
  have CG := Lib.hid (fun (U : World) (K : Nat → Prop) (Ba Bg : Nat) (q : Q w U) (hK : ∀ b, b < w.heap.size → K b) (ba : BoxT U Ba (.slice A ks.length ca) (.slice S ms d)) (bg : Box6 U Bg (.slice F nr cr) (.slice Av c.V.length k1) (.slice D c.N.length k2) (.slice E c.M.length k3) (.slice Pa P.length kp) (.slice Ta T.length kt)) (kg : K Bg) =>
    edges_gives R c P T ks A S F Av D E Pa Ta ca ms d nr cr k1 k2 k3 kp kt Ba Bg K U ba bg kg ((hk.q (Nat.le_refl _) q).more q.size) hkey hl (h.q q) hC hlv (Hs.Keys.p (hP.q (Nat.le_refl _) q) q.size hK) (Hs.Keys.p (hT.q (Nat.le_refl _) q) q.size hK) lP lT sP sT)
  have HE := Lib.hid hE
  have HN := Lib.hid (next_is (ks := ks) (P := P) (T := T) hC f)
  rw [← hf] at CF ⊢
  clear hk hkey hl h hC hlv hP hT lP lT sP sT hE hx X q0 hf
  refine callsIn_wide.1 (callsIn_of_wp_marks (n := 5) Tryz.func20 rfl trivial ?_ rfl)
  simp only [Tryz.ntmps20, List.size_toArray, List.length_cons, List.length_nil, Nat.reduceAdd, Nat.reduceSub, Array.replicate_succ, Array.replicate_zero, List.push_toArray, List.append_toArray, List.nil_append, List.cons_append]
  refine wpIn_wide.2 ?_
  go_upto_region 1 with fail
  have HZ0 : Hid (((w.alloc (Obj.cells #[.slice A ks.length ca, .slice S ms d] 26)).alloc (Obj.cells #[.slice F nr cr, .slice Av c.V.length k1, .slice D c.N.length k2, .slice E c.M.length k3, .slice Pa P.length kp, .slice Ta T.length kt] 31)).heap.size = w.heap.size + 2) := by unfold Hid; simp
  generalize (w.alloc (Obj.cells #[.slice A ks.length ca, .slice S ms d] 26)).alloc (Obj.cells #[.slice F nr cr, .slice Av c.V.length k1, .slice D c.N.length k2, .slice E c.M.length k3, .slice Pa P.length kp, .slice Ta T.length kt] 31) = W0 at *
  have g1 := HBg.out.c1
  have g2 := HBg.out.c2
  have g3 := HBg.out.c3
  go_upto_region 2 with (go_at_call 65; refine (CF.out W0 HQ0.out).mono ?_; rintro e w1 ⟨rfl, q1⟩; have HQ1 := Lib.hid q1; clear q1 g1 g2 g3)
  have qa := (Q.refl w1).alloc (.cells #[.int .i64 (f : Int)] 3)
  have hb7 := cell_new w1 (.int .i64 (f : Int)) 3 w1.heap.size rfl
  have hs7 : (w1.alloc (.cells #[.int .i64 (f : Int)] 3)).heap.size = w1.heap.size + 1 := by simp
  have HQa := Lib.hid qa
  have HB7 := Lib.hid hb7
  have HS7 := Lib.hid hs7
  clear qa hb7 hs7
  generalize w1.alloc (.cells #[.int .i64 (f : Int)] 3) = W2 at *
  go_upto_region 3 with fail
  have qb := (Q.refl W2).alloc (.cells #[.slice none 0 0] 24)
  have hb8 := cell_new W2 (.slice none 0 0) 24 W2.heap.size rfl
  have hf8 : (W2.alloc (.cells #[.slice none 0 0] 24)).frozen? ⟨W2.heap.size, 0, none⟩ = false := by simp
  have hs8 : (W2.alloc (.cells #[.slice none 0 0] 24)).heap.size = W2.heap.size + 1 := by simp
  have HQb := Lib.hid qb
  have HB8 := Lib.hid hb8
  have HF8 := Lib.hid hf8
  have HS8 := Lib.hid hs8
  clear qb hb8 hs8 hf8
  generalize W2.alloc (.cells #[.slice none 0 0] 24) = W3 at *
  have HQ3 := Lib.hid ((HQ1.out.trans HQa.out).trans HQb.out)
  have a0 := (HBa.out.q HQ3.out).c0
  have a1 := (HBa.out.q HQ3.out).c1
  have g0 := (HBg.out.q HQ3.out).c0
  have g1 := (HBg.out.q HQ3.out).c1
  have g2 := (HBg.out.q HQ3.out).c2
  have g3 := (HBg.out.q HQ3.out).c3
  have g4 := (HBg.out.q HQ3.out).c4
  have g5 := (HBg.out.q HQ3.out).c5
  go_wp2_with (go_at_call 66; refine (edges13_any _ _ _ _ _ _ _ _ _).mono ?_; rintro e W5 ⟨rfl, hW5⟩; have ba := (BoxT.new W3 (.slice A ks.length ca) (.slice S ms d) 26).q ((Q.refl _).alloc (Obj.cells #[.slice F nr cr, .slice Av c.V.length k1, .slice D c.N.length k2, .slice E c.M.length k3, .slice Pa P.length kp, .slice Ta T.length kt] 31)); have bg := Box6.new (W3.alloc (Obj.cells #[.slice A ks.length ca, .slice S ms d] 26)) (.slice F nr cr) (.slice Av c.V.length k1) (.slice D c.N.length k2) (.slice E c.M.length k3) (.slice Pa P.length kp) (.slice Ta T.length kt) 31; have q5 : Q W3 W5 := (by rw [hW5]; exact ((Q.refl W3).alloc _).alloc _); have hs5 : Hid (W5.heap.size = W3.heap.size + 2) := (by rw [hW5]; unfold Hid; simp); rw [World.size_alloc] at bg; rw [← hW5] at ba bg; clear a0 a1 g0 g1 g2 g3 g4 g5 hW5)
  have hs5 := hs5.out
  have hs7 := HS7.out
  have hs8 := HS8.out
  have hs0 := HZ0.out
  have hs1 := HQ1.out.size
  have HNx0 : Hid (NxI w W5.heap.size w1.heap.size W2.heap.size f [] (fun b => b = W2.heap.size ∨ (Value.slice none 0 0).ownBlock = some b) W5) :=
    ⟨.slice none 0 0, fun b => Iff.rfl, (q5.cell (p := ⟨W2.heap.size, 0, none⟩) (by show W2.heap.size < _; omega)).trans HB8.out, (q5.frozen (p := ⟨W2.heap.size, 0, none⟩) (by show W2.heap.size < _; omega)).trans HF8.out, own_nil W5 _, ((HQb.out.trans q5).cell (p := ⟨w1.heap.size, 0, none⟩) (by show w1.heap.size < _; omega)).trans HB7.out, Nat.le_refl _, (HQ0.out.trans HQ3.out).trans q5⟩
  have HG5 := Lib.hid (CG.out W5 (fun b => b ≠ W2.heap.size) W3.heap.size (W3.heap.size + 1) ((HQ0.out.trans HQ3.out).trans q5) (fun b hb => by omega) ba bg (by omega))
  have HMd : Hid (Mind W5.heap.size (NxI w W5.heap.size w1.heap.size W2.heap.size f)) := NxI.mind (by omega) (by omega) (by omega)
  have H78 : Hid (w1.heap.size < W5.heap.size ∧ W2.heap.size < W5.heap.size ∧ w1.heap.size ≠ W2.heap.size ∧ w.heap.size ≤ W2.heap.size) := ⟨by omega, by omega, by omega, by omega⟩
  clear hs7 hs8 hs0 hs1 hs5 ba bg q5
  refine (wpIn_wide (n := 5)).1 ?_
  refine range_gives (gf := 134) (lb := #[.pointer (some ⟨W3.heap.size, 0, none⟩), .pointer (some ⟨W3.heap.size + 1, 0, none⟩)]) rfl (enters_of Tryz.func134 (by kernel_rfl) rfl)
    HG5.out (Q.refl _) (fun x => rfl) (NxI w W5.heap.size w1.heap.size W2.heap.size f) HMd.out (fun b => b = W2.heap.size ∨ (Value.slice none 0 0).ownBlock = some b) (fun k hk hm => hm.elim hk (fun e => by cases e)) HNx0.out
    (fun e => { tmps := #[.agg #[.slice A ks.length ca, .slice S ms d], .agg #[.slice F nr cr, .slice Av c.V.length k1, .slice D c.N.length k2, .slice E c.M.length k3, .slice Pa P.length kp, .slice Ta T.length kt], .int .i64 (x : Int), .pointer (some ⟨w.heap.size, 0, none⟩), .pointer (some ⟨w.heap.size + 1, 0, none⟩), undef, .slice none 0 0, .pointer (some ⟨w1.heap.size, 0, none⟩), .pointer (some ⟨W2.heap.size, 0, none⟩), .int .i64 (e.1 : Int), .int .i64 (e.2 : Int), .pointer (some ⟨w.heap.size + 1, 1, none⟩), .agg #[.slice Av c.V.length k1, .slice D c.N.length k2, .slice E c.M.length k3], .int .i64 (x : Int), .int .i64 (f : Int), .agg #[.slice A ks.length ca, .slice S ms d], .agg #[.slice F nr cr, .slice Av c.V.length k1, .slice D c.N.length k2, .slice E c.M.length k3, .slice Pa P.length kp, .slice Ta T.length kt], .func (.func 134) #[] #[.pointer (some ⟨W3.heap.size, 0, none⟩), .pointer (some ⟨W3.heap.size + 1, 0, none⟩)], .int .i64 (e.1 : Int), .int .i64 (e.2 : Int), undef, undef, undef, undef, undef, undef, undef, undef, undef, undef, undef], defers := [] }) ?assign ?body ?done
  case assign =>
    intro l' e U K' hK'
    gi_wp2
    exact hK'
  case body =>
    rintro l' pre e M1 U hN hpre
    by_cases he : e.1 = f
    · obtain ⟨v, hM, b8, f8, own, b7, hs, q⟩ := hN
      have hlen : (toOf pre f).length < 1000000 := by
        obtain ⟨post, hp⟩ := hpre
        have h1 := toOf_len pre f
        have h2 := HE.out
        rw [← hp, List.length_append, List.length_cons] at h2
        omega
      have d1 : ((e.1 : Int) == (f : Int)) = true := by rw [he]; simp
      have HM := Lib.hid hM
      have HO := Lib.hid own
      have Hs := Lib.hid hs
      have Hq := Lib.hid q
      have Hb8 := Lib.hid b8
      have Hb7 := Lib.hid b7
      have Hf8 := Lib.hid f8
      have Hpe := Lib.hid he
      have HvB : Hid (∀ r, v.ownBlock = some r → W5.heap.size ≤ r) := fun r e => (own.lt r e).1
      clear hM own hs q hpre he
      gi_wp2_with (gi_at_builtin; refine wpListIn_append_at _ rfl _ _ 24 rfl W5.heap.size 3 i0 (.int .i64 0) 1 8 Tryz.underlying24 Hi.out Hz0.out Hz1.out Hz2.out rfl (by decide) v (toOf pre f).length _ rfl (HO.out.alloc _) ⟨U.heap.size, 0, none⟩ 1 1 [.int .i64 (e.2 : Int)] rfl rfl (cell_one_new _ _ _) (by simp [Value.oneCell']) (by unfold maxLen; omega) (by omega) (by have := Hs.out; simp; omega) ?_; intro v' w3 own' gr' hat; obtain ⟨Ao, co, rfl, -, -⟩ := own_o own'; have y8 := cell_grown gr' (((Q.refl U).alloc (.cells #[.int .i64 (e.2 : Int)] 3)).cell (p := ⟨W2.heap.size, 0, none⟩) (World.block_lt_of_cell? _ _ Hb8.out) |>.trans Hb8.out) (fun r e => by have := HvB.out r e; have := H78.out; show r ≠ W2.heap.size; omega); have z8 := (frozen_grown gr' (((Q.refl U).alloc (.cells #[.int .i64 (e.2 : Int)] 3)).cell (p := ⟨W2.heap.size, 0, none⟩) (World.block_lt_of_cell? _ _ Hb8.out) |>.trans Hb8.out) (fun r e => by have := HvB.out r e; have := H78.out; show r ≠ W2.heap.size; omega)).trans ((((Q.refl U).alloc (.cells #[.int .i64 (e.2 : Int)] 3)).frozen (p := ⟨W2.heap.size, 0, none⟩) (World.block_lt_of_cell? _ _ Hb8.out)).trans Hf8.out); have HOw := Lib.hid own'; have HGr := Lib.hid gr'; have HAt := Lib.hid hat; clear own' gr' hat b7 b8 f8)
      exact NxI.add H78.out.1 H78.out.2.1 H78.out.2.2.1 H78.out.2.2.2 HM.out Hb8.out Hf8.out HO.out Hb7.out Hs.out Hq.out Hpe.out ((Q.refl U).alloc (.cells #[.int .i64 (e.2 : Int)] 3)) (by simp) HOw.out HGr.out HAt.out
    · obtain ⟨v, _, b8, f8, _, b7, _, _⟩ := id hN
      have d1 : ((e.1 : Int) == (f : Int)) = false := beq_eq_false_iff_ne.2 (by omega)
      have HN2 := Lib.hid (hN.skip he)
      clear hN hpre he
      gi_wp2
      exact ⟨M1, HN2.out, Gr.refl _ _, Fr.refl _ _⟩
  case done =>
    rintro Dd M1 U1 ⟨v, hM, b8, f8, own, b7, hs, q⟩ hD hDM hdef
    simp only [Exit.inBlock, Exit.then]
    have hlen : (toOf (edgesN ks c.V P T) f).length ≤ 1000000 := Nat.le_trans (toOf_len _ _) HE.out
    have hrow := rowAt_of own rfl
    have hvB : ∀ r, v.ownBlock = some r → W5.heap.size ≤ r ∧ r ≠ Dd := fun r e => ⟨(own.lt r e).1, fun e2 => hDM ((hM Dd).2 (.inr (e2 ▸ e)))⟩
    have HRow := Lib.hid hrow
    have HvB := Lib.hid hvB
    have Hb8 := Lib.hid b8
    have HDf := Lib.hid hdef
    have HDd := Lib.hid hD
    have Hq := Lib.hid q
    clear hM own hs hDM hdef hrow hvB f8 b7 hD q
    go_wp2_with (first
      | (go_at_call 67; refine (sortI_any W5.heap.size v _ U1 HRow.out hlen).mono ?_; rintro e U2 ⟨rfl, hr2, gr2⟩; have HR2 := Lib.hid hr2; have HG2 := Lib.hid gr2; have b82 := cell_grown gr2 Hb8.out (fun r e => by have := (HvB.out r e).1; have := H78.out; show r ≠ W2.heap.size; omega); clear hr2 gr2 b8)
      | (go_at_call 68; refine (compactI_any W5.heap.size v _ U2 HR2.out (by rw [sortI_len]; exact hlen)).mono ?_; rintro e U3 ⟨v3, rfl, hr3, gr3⟩; have HR3 := Lib.hid hr3; have HG3 := Lib.hid gr3; clear hr3 gr3 b82))
    have hDl := (Array.getElem?_eq_some_iff.1 HDf.out).1
    have hd2 : U2.heap[Dd]? = some (.deferred (some [])) := (HG2.out.block Dd hDl (fun e => (HvB.out Dd e.symm).2 rfl)).trans HDf.out
    have hd3 : U3.heap[Dd]? = some (.deferred (some [])) := (HG3.out.block Dd (Array.getElem?_eq_some_iff.1 hd2).1 (fun e => (HvB.out Dd e.symm).2 rfl)).trans hd2
    have gD := grownBy_putObj' U3 Dd (.deferred none)
    have hqw := HQ0.out.size
    obtain ⟨A', c', rfl, hc', ho'⟩ := HR3.out
    have hlow := H78.out
    have hq3 : Q w (U3.putObj Dd (.deferred none)) := q_grown (q_grown (q_grown Hq.out HG2.out (fun r e => by have := (HvB.out r e).1; omega)) HG3.out (fun r e => by have := (HvB.out r e).1; omega)) gD (fun r e => by injection e with e; have := HDd.out; omega)
    show LeavesInM Fence.wide 5 Tryz.prog Tryz.f20 _ _ [{ target := Target.collected Dd, args := #[] }] .returning U3
    refine ⟨by simp, .inl ⟨_, _, rfl, run_takeDeferred hd3, ?_⟩⟩
    rw [HN.out] at ho' hc' ⊢
    refine ⟨_, results_tmp rfl _ _ _, A', c', rfl, hc', fun h0 => ?_, hq3⟩
    obtain ⟨g, rfl, hg, hO⟩ := ho' h0
    have hne : g ≠ Dd := fun e => by
      have h1 := (hO.2 0 _ (List.getElem?_eq_getElem h0)).1
      rw [e] at h1
      simp [World.cell?, hd3] at h1
    refine ⟨_, rfl, Nat.lt_of_lt_of_le hO.1 gD.size, fun i u hu => ?_⟩
    rw [Hs.add_zero_head]
    exact cell_grown gD (hO.2 i u hu).1 (fun r e => by injection e with e; subst e; exact fun e2 => hne e2.symm)
end Go.Proofs.YtnifmfdlocgefaaGreat.Cy
