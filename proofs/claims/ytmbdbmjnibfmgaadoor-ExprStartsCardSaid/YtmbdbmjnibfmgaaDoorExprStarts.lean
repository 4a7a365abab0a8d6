/-
  ExprStarts holds: a node's expression ends at it, its nodes are an expression, and those of two nodes are apart, or one is in the other. No conditions.
-/
import Derived.Test.YtmbdbmjnibfmgaaDoorExprW
import Derived.Test.YtmbdbmjnibfmgaaDoorRef7R
import Derived.Test.YtmbdbmjnibfmgaaDoorExprE
import Derived.Test.YtmbdbmjnibfmgaaDoorExprX
import Derived.Test.YtmbdbmjnibfmgaaDoorExprOpen
import Derived.Test.YtmbdbmjnibfmgaaDoorExprY
import Derived.Test.YtmbdbmjnibfmgaaDoorLaid
import Derived.Test.YtmbdbmjnibfmgaaDoorKitStep
import Derived.OpenShut
import Derived.RegionTactic
import Derived.Deep.RegionHeld3
import Derived.Deep.DeepCutAuto
namespace Go.Proofs.YtmbdbmjnibfmgaaDoor.exprStarts
open Go.ChangeShapes Go.WideShapes Go.ChangeAt Go.RowKit Kit Rw Ex
open Go.ChangeMaps (open_string shut_string)

set_option maxRecDepth 100000 in
set_option maxHeartbeats 4000000 in
theorem walk (A : Option Addr) (n c : Nat) (l : List Tg) (i k : Int) (w : World) (hn : n = l.length) (hr : Rds w w.heap.size A (cellsG l)) (hl : l.length ≤ 140737488355328) (hlc : n ≤ c) (hz : ∀ t ∈ l, t.2.1.size ≤ 140737488355328) :
    Calls Tryd.prog 5 #[.slice A n c, .int .i64 i, .int .i64 k] w fun e w' => e = .returned (.bool true) ∧ Q w w' := by
  subst hn
  have HR := Lib.hid hr
  have CF := Lib.hid (fun (W : World) (q : Q w W) => few7_any A l.length c l W rfl (hr.q q) hl hz)
  clear hr hz
  by_cases hf : total7 l ≤ 600
  · rw [decide_eq_true hf] at CF
    have hl6 : l.length ≤ 600 := Nat.le_trans (total7_ge l) hf
    have CR := Lib.hid (fun (W : World) (q : Q w W) => right7_any A l.length c l W rfl (HR.out.q q) hf)
    cases hrt : rightB l
    · rw [hrt] at CR
      clear hrt hf
      go_enter Tryd.func5, Tryd.ntmps5
      go_wp2_with (first
        | (go_at_call 7; refine (shown_any _).mono ?_; rintro e w1 ⟨rfl, q1⟩; have HQ1 := Lib.hid q1; clear q1)
        | (go_at_call 8; refine (CF.out _ HQ1.out).mono ?_; rintro e w2 ⟨rfl, q2⟩; have HQ2 := Lib.hid (HQ1.out.trans q2); clear q2)
        | (go_at_call 9; refine (CR.out _ HQ2.out).mono ?_; rintro e w3 ⟨rfl, q3⟩; have HQ3 := Lib.hid (HQ2.out.trans q3); clear q3))
      go_ret
      exact ⟨rfl, HQ3.out⟩
    · rw [hrt] at CR
      obtain ⟨hm, x, hs, hw, hnd, hd, _, hpos⟩ := right_tree hrt
      have HM := Lib.hid hm
      have HS := Lib.hid hs
      have HD := Lib.hid hd
      clear hm hs hw hnd hd hrt hf
      by_cases hik : 0 ≤ i ∧ i < k ∧ k < l.length
      · obtain ⟨i', rfl⟩ : ∃ i' : Nat, i = (i' : Int) := ⟨i.toNat, by omega⟩
        obtain ⟨k', rfl⟩ : ∃ k' : Nat, k = (k' : Int) := ⟨k.toNat, by omega⟩
        have hik1 : i' < k' := by omega
        have hkl : k' < l.length := by omega
        have d1 : decide ((i' : Int) < 0) = false := decide_eq_false (by omega)
        have d2 : decide ((k' : Int) ≤ (i' : Int)) = false := decide_eq_false (by omega)
        have d3 : decide ((l.length : Int) ≤ (k' : Int)) = false := decide_eq_false (by omega)
        have n2 : decide (k' ≤ i') = false := decide_eq_false (by omega)
        have n3 : decide (l.length ≤ k') = false := decide_eq_false (by omega)
        have CS := Lib.hid (fun (W : World) (q : Q w W) => starts7_any A l.length c l x W rfl (HR.out.q q) (by omega) HM.out HS.out)
        obtain ⟨m, hm⟩ : ∃ m, l.length = m + 1 := ⟨l.length - 1, by omega⟩
        have h0 := start_last HS.out hm
        have hsi := start_le HS.out (show i' < l.length by omega)
        have hsk := start_le HS.out hkl
        have hnest := start_nest HS.out hik1 hkl
        have HC : Hid (∀ (W : World) (S : Option Addr), Rds W W.heap.size S (cellsI (startsL l l.length)) → ∃ sd, S = some sd ∧ W.cell? (sd.add m) = some (.int .i64 0) ∧ W.cell? (sd.add i') = some (.int .i64 (startOf l i' : Int)) ∧ W.cell? (sd.add k') = some (.int .i64 (startOf l k' : Int))) := fun W S h => by
          obtain ⟨sd, e, _, a0⟩ := int_at h (k := m) (by rw [startsL_len]; omega)
          obtain ⟨sd', e', _, a1⟩ := int_at h (k := i') (by rw [startsL_len]; omega)
          obtain ⟨sd'', e'', _, a2⟩ := int_at h (k := k') (by rw [startsL_len]; omega)
          subst e
          injection e' with e'
          injection e'' with e''
          subst e' e''
          rw [startsL_at l _ _ (by omega)] at a0 a1 a2
          rw [h0] at a0
          exact ⟨sd, rfl, a0, a1, a2⟩
        have e1 : ((l.length : Nat) : Int) - 1 = (m : Int) := by omega
        obtain ⟨ci, hsub, hcw, hcd, hcs⟩ := sub_tree HS.out (show i' < l.length by omega)
        have HSub := Lib.hid hsub
        have HCW := Lib.hid hcw
        have HCD := Lib.hid (Nat.le_trans hcd HD.out)
        generalize hsi' : startOf l i' = si at *
        generalize startOf l k' = sk at *
        clear hik h0 hsub hcw hcd hsi' hm
        go_enter Tryd.func5, Tryd.ntmps5
        go_wp2_with (first
          | (go_at_call 7; refine (shown_any _).mono ?_; rintro e w1 ⟨rfl, q1⟩; have HQ1 := Lib.hid q1; clear q1)
          | (go_at_call 8; refine (CF.out _ HQ1.out).mono ?_; rintro e w2 ⟨rfl, q2⟩; have HQ2 := Lib.hid (HQ1.out.trans q2); clear q2)
          | (go_at_call 9; refine (CR.out _ HQ2.out).mono ?_; rintro e w3 ⟨rfl, q3⟩; have HQ3 := Lib.hid (HQ2.out.trans q3); clear q3)
          | (go_at_call 14; refine (CS.out _ HQ3.out).mono ?_; rintro e w4 ⟨S, rfl, hSR, q4⟩; have HSR := Lib.hid hSR; have HQ4 := Lib.hid (HQ3.out.trans q4); obtain ⟨sd, rfl, s0, s1, s2⟩ := HC.out _ _ hSR; clear hSR q4))
        have hmn : i' + 1 - si = ci.nodes.length := by unfold Ex.size at hcs; omega
        have hA : ∃ ad, A = some ad := by
          obtain ⟨ad, e, _⟩ := tok_at HR.out (k := 0) hpos
          exact ⟨ad, e⟩
        obtain ⟨ad, rfl⟩ := hA
        have hcap : l.length ≤ c := hlc
        have hsl : ∀ u : World, (Instr.slice 22 (.slice (some ad) l.length c) (some (.int .i64 (si : Int))) (some (.int .i64 ((i' : Int) + 1))) none).run Tryd.prog u = .ok (.slice (some (ad.add (si * 3))) (i' + 1 - si) (c - si)) u := fun u => by
          have e : ((i' : Int) + 1) = ((i' + 1 : Nat) : Int) := by omega
          rw [e]
          exact slice_nodes (some ad) l.length c si (i' + 1) (by omega) (by omega) u
        have HSrc : Hid (∀ W : World, Q w W → Src W (some (ad.add (si * 3))) (cellsG ci.nodes)) := fun W q => by rw [← HSub.out]; exact src_sub (HR.out.q q) (by omega) (by omega)
        have CX := Lib.hid (fun (W : World) (g cap nn : Nat) (hnn : nn = ci.nodes.length) (h : Rds W W.heap.size (some ⟨g, 0, none⟩) (cellsG ci.nodes)) => show Calls Tryd.prog 15 #[.slice (some ⟨g, 0, none⟩) nn cap] W fun e w' => e = .returned (.bool true) ∧ Q W w' by
          have hmay : ∀ t ∈ ci.nodes, mayN t = true := fun t ht => HM.out t (by rw [← HSub.out] at ht; exact List.mem_of_mem_take (List.mem_of_mem_drop ht))
          have := rightP_any (some ⟨g, 0, none⟩) nn cap ci.nodes ci W hnn h (by omega) hmay (run_tree ci [] HCW.out)
          rwa [decide_eq_true HCD.out] at this)
        have hne : ¬ c = si := by omega
        have htn : ((i' : Int) + 1).toNat = i' + 1 := by omega
        have hwr : IntKind.i64.wrap ((i' : Int) + 1) = (i' : Int) + 1 := IntWalk.i64_in _ (by omega)
        have HSX : Hid (∀ W, Q w4 W → W.cell? (sd.add i') = some (.int .i64 (si : Int)) ∧ W.cell? (sd.add k') = some (.int .i64 (sk : Int))) := fun W q => by
          obtain ⟨sd', e, _, a1, a2⟩ := HC.out W (some sd) (HSR.out.q q)
          injection e with e
          subst e
          exact ⟨a1, a2⟩
        have HQ4a : Hid (Q w4 ((w4.drew).alloc (Obj.cells #[] 38))) := ((Q.refl w4).drew).alloc _
        have HE4 : Hid (((w4.drew).alloc (Obj.cells #[] 38)).ownsRow w4.heap.size 38 3 (.slice (some ⟨w4.heap.size, 0, none⟩) 0 0) 0 []) := own_empty (Nat.le_refl _) (heap_alloc_new w4.drew _)
        have HSr4 := Lib.hid (HSrc.out _ (HQ4.out.trans HQ4a.out))
        obtain ⟨i0, hi, hz0, hz1, hz2⟩ := info_parts nodeInfo
        have Hi := Lib.hid hi
        have Hz0 := Lib.hid hz0
        have Hz1 := Lib.hid hz1
        have Hz2 := Lib.hid hz2
        clear hi hz0 hz1 hz2
        by_cases hcase : i' < sk
        · have c1 : decide ((i' : Int) < (sk : Int)) = true := decide_eq_true (by omega)
          have c2 : decide (i' < sk) = true := decide_eq_true hcase
          clear hnest hcase
          refine wp_region_held_drew (S := fun w' => w'.cell? (sd.add i') = some (.int .i64 (si : Int)) ∧ w'.cell? (sd.add k') = some (.int .i64 (sk : Int))) (by kernel_rfl) ?_ (fun hHeld => ?_)
          · exact ⟨s1, s2⟩
          refine take_w (i := 0) (d := some 80) (v := ?_) rfl (by kernel_rfl) (by kernel_rfl) (by kernel_rfl) (fun _ _ _ h => h) rfl (by rfl) ?_ (by assumption) ?_
          rotate_left
          · (intro w hSw; (try dsimp only at hSw); go_simp; (try with_reducible rfl))
          try simp only [Act.put, List.setIfInBounds_toArray, List.set_cons_zero, List.set_cons_succ]
          refine take_w (i := 1) (d := some 81) (v := ?_) rfl (by kernel_rfl) (by kernel_rfl) (by kernel_rfl) (fun _ _ _ h => h) rfl (by rfl) ?_ (by assumption) ?_
          rotate_left
          · (intro w hSw; (try dsimp only at hSw); go_simp; (try with_reducible rfl))
          try simp only [Act.put, List.setIfInBounds_toArray, List.set_cons_zero, List.set_cons_succ]
          refine take_w (i := 2) (d := some 82) (v := ?_) rfl (by kernel_rfl) (by kernel_rfl) (by kernel_rfl) (fun _ _ _ h => h) rfl (by rfl) ?_ (by assumption) ?_
          rotate_left
          · (intro w hSw; (try dsimp only at hSw); go_simp; (try with_reducible rfl))
          try simp only [Act.put, List.setIfInBounds_toArray, List.set_cons_zero, List.set_cons_succ]
          refine take_w (i := 3) (d := some 83) (v := ?_) rfl (by kernel_rfl) (by kernel_rfl) (by kernel_rfl) (fun _ _ _ h => h) rfl (by rfl) ?_ (by assumption) ?_
          rotate_left
          · (intro w hSw; (try dsimp only at hSw); go_simp; (try with_reducible rfl))
          try simp only [Act.put, List.setIfInBounds_toArray, List.set_cons_zero, List.set_cons_succ]
          refine take_w (i := 4) (d := some 84) (v := ?_) rfl (by kernel_rfl) (by kernel_rfl) (by kernel_rfl) (fun _ _ _ h => h) rfl (by rfl) ?_ (by assumption) ?_
          rotate_left
          · (intro w hSw; (try dsimp only at hSw); go_simp; (try with_reducible rfl))
          try simp only [Act.put, List.setIfInBounds_toArray, List.set_cons_zero, List.set_cons_succ]
          refine take_w (i := 5) (d := some 85) (v := ?_) rfl (by kernel_rfl) (by kernel_rfl) (by kernel_rfl) (fun _ _ _ h => h) rfl (by rfl) ?_ (by assumption) ?_
          rotate_left
          · (intro w hSw; (try dsimp only at hSw); go_simp; (try with_reducible rfl))
          try simp only [Act.put, List.setIfInBounds_toArray, List.set_cons_zero, List.set_cons_succ]
          refine take_w (i := 6) (d := some 86) (v := ?_) rfl (by kernel_rfl) (by kernel_rfl) (by kernel_rfl) (fun _ _ _ h => h) rfl (by rfl) ?_ (by assumption) ?_
          rotate_left
          · (intro w hSw; (try dsimp only at hSw); go_simp; (try with_reducible rfl))
          try simp only [Act.put, List.setIfInBounds_toArray, List.set_cons_zero, List.set_cons_succ]
          refine take_w (i := 7) (d := some 87) (v := ?_) rfl (by kernel_rfl) (by kernel_rfl) (by kernel_rfl) (fun _ _ _ h => h) rfl (by rfl) ?_ (by assumption) ?_
          rotate_left
          · (intro w hSw; (try dsimp only at hSw); go_simp; (try with_reducible rfl))
          try simp only [Act.put, List.setIfInBounds_toArray, List.set_cons_zero, List.set_cons_succ]
          refine take_w (i := 8) (d := some 88) (v := ?_) rfl (by kernel_rfl) (by kernel_rfl) (by kernel_rfl) (fun _ _ _ h => h) rfl (by rfl) ?_ (by assumption) ?_
          rotate_left
          · (intro w hSw; (try dsimp only at hSw); go_simp; (try with_reducible rfl))
          try simp only [Act.put, List.setIfInBounds_toArray, List.set_cons_zero, List.set_cons_succ]
          refine take_u (i := 9) (d := some 89) rfl (by kernel_rfl) (by kernel_rfl) (by kernel_rfl) (fun _ _ _ h => h) rfl (by rfl) (by assumption) ?_
          try simp only [Act.put, List.setIfInBounds_toArray, List.set_cons_zero, List.set_cons_succ]
          refine take_u (i := 10) (d := some 90) rfl (by kernel_rfl) (by kernel_rfl) (by kernel_rfl) (fun _ _ _ h => h) rfl (by rfl) (by assumption) ?_
          try simp only [Act.put, List.setIfInBounds_toArray, List.set_cons_zero, List.set_cons_succ]
          refine take_u (i := 11) (d := some 91) rfl (by kernel_rfl) (by kernel_rfl) (by kernel_rfl) (fun _ _ _ h => h) rfl (by rfl) (by assumption) ?_
          try simp only [Act.put, List.setIfInBounds_toArray, List.set_cons_zero, List.set_cons_succ]
          refine take_u (i := 12) (d := some 92) rfl (by kernel_rfl) (by kernel_rfl) (by kernel_rfl) (fun _ _ _ h => h) rfl (by rfl) (by assumption) ?_
          try simp only [Act.put, List.setIfInBounds_toArray, List.set_cons_zero, List.set_cons_succ]
          refine take_u (i := 13) (d := some 93) rfl (by kernel_rfl) (by kernel_rfl) (by kernel_rfl) (fun _ _ _ h => h) rfl (by rfl) (by assumption) ?_
          try simp only [Act.put, List.setIfInBounds_toArray, List.set_cons_zero, List.set_cons_succ]
          refine take_u (i := 14) (d := some 94) rfl (by kernel_rfl) (by kernel_rfl) (by kernel_rfl) (fun _ _ _ h => h) rfl (by rfl) (by assumption) ?_
          try simp only [Act.put, List.setIfInBounds_toArray, List.set_cons_zero, List.set_cons_succ]
          refine take_u (i := 15) (d := some 95) rfl (by kernel_rfl) (by kernel_rfl) (by kernel_rfl) (fun _ _ _ h => h) rfl (by rfl) (by assumption) ?_
          try simp only [Act.put, List.setIfInBounds_toArray, List.set_cons_zero, List.set_cons_succ]
          refine take_u (i := 16) (d := some 96) rfl (by kernel_rfl) (by kernel_rfl) (by kernel_rfl) (fun _ _ _ h => h) rfl (by rfl) (by assumption) ?_
          try simp only [Act.put, List.setIfInBounds_toArray, List.set_cons_zero, List.set_cons_succ]
          refine take_u (i := 17) (d := some 97) rfl (by kernel_rfl) (by kernel_rfl) (by kernel_rfl) (fun _ _ _ h => h) rfl (by rfl) (by assumption) ?_
          try simp only [Act.put, List.setIfInBounds_toArray, List.set_cons_zero, List.set_cons_succ]
          refine take_w (i := 18) (d := some 98) (v := ?_) rfl (by kernel_rfl) (by kernel_rfl) (by kernel_rfl) (fun _ _ _ h => h) rfl (by rfl) ?_ (by assumption) ?_
          rotate_left
          · (intro w hSw; (try dsimp only at hSw); go_simp; (try with_reducible rfl))
          try simp only [Act.put, List.setIfInBounds_toArray, List.set_cons_zero, List.set_cons_succ]
          refine take_w (i := 19) (d := some 99) (v := ?_) rfl (by kernel_rfl) (by kernel_rfl) (by kernel_rfl) (fun _ _ _ h => h) rfl (by rfl) ?_ (by assumption) ?_
          rotate_left
          · (intro w hSw; (try dsimp only at hSw); go_simp; (try with_reducible rfl))
          try simp only [Act.put, List.setIfInBounds_toArray, List.set_cons_zero, List.set_cons_succ]
          refine take_w (i := 20) (d := some 100) (v := ?_) rfl (by kernel_rfl) (by kernel_rfl) (by kernel_rfl) (fun _ _ _ h => h) rfl (by rfl) ?_ (by assumption) ?_
          rotate_left
          · (intro w hSw; (try dsimp only at hSw); go_simp; (try with_reducible rfl))
          try simp only [Act.put, List.setIfInBounds_toArray, List.set_cons_zero, List.set_cons_succ]
          refine take_w (i := 22) (d := some 102) (v := ?_) rfl (by kernel_rfl) (by kernel_rfl) (by kernel_rfl) (fun _ _ _ h => h) rfl (by rfl) ?_ (by assumption) ?_
          rotate_left
          · (intro w hSw; (try dsimp only at hSw); go_simp; (try with_reducible rfl))
          try simp only [Act.put, List.setIfInBounds_toArray, List.set_cons_zero, List.set_cons_succ]
          refine take_w (i := 23) (d := some 103) (v := ?_) rfl (by kernel_rfl) (by kernel_rfl) (by kernel_rfl) (fun _ _ _ h => h) rfl (by rfl) ?_ (by assumption) ?_
          rotate_left
          · (intro w hSw; (try dsimp only at hSw); go_simp; (try with_reducible rfl))
          try simp only [Act.put, List.setIfInBounds_toArray, List.set_cons_zero, List.set_cons_succ]
          refine take_w (i := 24) (d := some 104) (v := ?_) rfl (by kernel_rfl) (by kernel_rfl) (by kernel_rfl) (fun _ _ _ h => h) rfl (by rfl) ?_ (by assumption) ?_
          rotate_left
          · (intro w hSw; (try dsimp only at hSw); go_simp; (try with_reducible rfl))
          try simp only [Act.put, List.setIfInBounds_toArray, List.set_cons_zero, List.set_cons_succ]
          refine take_w (i := 25) (d := some 105) (v := ?_) rfl (by kernel_rfl) (by kernel_rfl) (by kernel_rfl) (fun _ _ _ h => h) rfl (by rfl) ?_ (by assumption) ?_
          rotate_left
          · (intro w hSw; (try dsimp only at hSw); go_simp; (try with_reducible rfl))
          try simp only [Act.put, List.setIfInBounds_toArray, List.set_cons_zero, List.set_cons_succ]
          refine take_w (i := 26) (d := some 106) (v := ?_) rfl (by kernel_rfl) (by kernel_rfl) (by kernel_rfl) (fun _ _ _ h => h) rfl (by rfl) ?_ (by assumption) ?_
          rotate_left
          · (intro w hSw; (try dsimp only at hSw); go_simp; (try with_reducible rfl))
          try simp only [Act.put, List.setIfInBounds_toArray, List.set_cons_zero, List.set_cons_succ]
          refine take_w (i := 27) (d := some 107) (v := ?_) rfl (by kernel_rfl) (by kernel_rfl) (by kernel_rfl) (fun _ _ _ h => h) rfl (by rfl) ?_ (by assumption) ?_
          rotate_left
          · (intro w hSw; (try dsimp only at hSw); go_simp; (try with_reducible rfl))
          try simp only [Act.put, List.setIfInBounds_toArray, List.set_cons_zero, List.set_cons_succ]
          refine take_w (i := 28) (d := some 108) (v := ?_) rfl (by kernel_rfl) (by kernel_rfl) (by kernel_rfl) (fun _ _ _ h => h) rfl (by rfl) ?_ (by assumption) ?_
          rotate_left
          · (intro w hSw; (try dsimp only at hSw); go_simp; (try with_reducible rfl))
          try simp only [Act.put, List.setIfInBounds_toArray, List.set_cons_zero, List.set_cons_succ]
          refine take_w (i := 29) (d := some 109) (v := ?_) rfl (by kernel_rfl) (by kernel_rfl) (by kernel_rfl) (fun _ _ _ h => h) rfl (by rfl) ?_ (by assumption) ?_
          rotate_left
          · (intro w hSw; (try dsimp only at hSw); go_simp; (try with_reducible rfl))
          try simp only [Act.put, List.setIfInBounds_toArray, List.set_cons_zero, List.set_cons_succ]
          refine call_w (i := 21) rfl (by kernel_rfl) (by rfl) (fun K hK => ?_)
          go_simp
          refine hK.out _ _ ?_ (fun hHeld => ?_)
          · exact HSX.out _ (((Q.refl w4).drew).alloc _)
          clear hK K
          try simp only [Act.put, List.setIfInBounds_toArray, List.set_cons_zero, List.set_cons_succ]
          refine call_w (i := 30) rfl (by kernel_rfl) (by rfl) (fun K hK => ?_)
          refine wp_append_src _ (.tmp 101) (.tmp 109) _ rfl w4.heap.size 38 i0 _ 3 32 Tryd.underlying22 Hi.out Hz0.out Hz1.out Hz2.out rfl (by omega) (.slice (some ⟨w4.heap.size, 0, none⟩) 0 0) 0 [] rfl HE4.out (some (ad.add (si * 3))) ci.nodes.length (c - si) (cellsG ci.nodes) rfl (cellsG_len _) HSr4.out (cellsG_one _) (by unfold maxLen; omega) (by omega) HQ4a.out.size ?_
          intro v5 w5 own5 gr5 _
          obtain ⟨g5, cap5, rfl⟩ := own_slice own5 (by omega)
          have HQ5 : Hid (Q w4 w5) := grown_q gr5 HQ4a.out (Nat.le_refl _)
          have HR5 : Hid (Rds w5 w5.heap.size (some ⟨g5, 0, none⟩) (cellsG ci.nodes)) := (OwnC.of_row own5).rds
          clear own5 gr5
          refine hK.out _ _ ?_ (fun hHeld => ?_)
          · exact HSX.out _ HQ5.out
          clear hK K
          try simp only [Act.put, List.setIfInBounds_toArray]
          refine call_w (i := 31) rfl (by kernel_rfl) (by rfl) (fun K hK => ?_)
          go_simp
          go_at_call 15
          refine (CX.out w5 g5 cap5 _ (by omega) HR5.out).mono ?_
          rintro e w6 ⟨rfl, q6⟩
          have HQ6 := Lib.hid (HQ5.out.trans q6)
          clear q6
          refine hK.out _ _ ?_ (fun hHeld => ?_)
          · exact HSX.out _ HQ6.out
          clear hK K
          try simp only [Act.put, List.setIfInBounds_toArray, List.set_cons_zero, List.set_cons_succ]
          refine take_w (i := 32) (d := some 112) (v := ?_) rfl (by kernel_rfl) (by kernel_rfl) (by kernel_rfl) (fun _ _ _ h => h) rfl (by rfl) ?_ (by assumption) ?_
          rotate_left
          · (intro w hSw; (try dsimp only at hSw); go_simp; (try with_reducible rfl))
          try simp only [Act.put, List.setIfInBounds_toArray, List.set_cons_zero, List.set_cons_succ]
          refine take_w (i := 33) (d := some 6) (v := ?_) rfl (by kernel_rfl) (by kernel_rfl) (by kernel_rfl) (fun _ _ _ h => h) rfl (by rfl) ?_ (by assumption) ?_
          rotate_left
          · (intro w hSw; (try dsimp only at hSw); go_simp; (try with_reducible rfl))
          try simp only [Act.put, List.setIfInBounds_toArray]
          refine wpAnyH_done (by kernel_rfl) ?_ _
          go_wp2_with fail
          go_ret
          exact ⟨rfl, HQ4.out.trans HQ6.out⟩
        · have c1 : decide ((i' : Int) < (sk : Int)) = false := decide_eq_false (by omega)
          have c2 : decide (i' < sk) = false := decide_eq_false hcase
          have c3 : decide ((sk : Int) ≤ (si : Int)) = true := decide_eq_true (by omega)
          have c4 : decide (sk ≤ si) = true := decide_eq_true (by omega)
          clear hnest hcase
          refine wp_region_held_drew (S := fun w' => w'.cell? (sd.add i') = some (.int .i64 (si : Int)) ∧ w'.cell? (sd.add k') = some (.int .i64 (sk : Int))) (by kernel_rfl) ?_ (fun hHeld => ?_)
          · exact ⟨s1, s2⟩
          refine take_w (i := 0) (d := some 80) (v := ?_) rfl (by kernel_rfl) (by kernel_rfl) (by kernel_rfl) (fun _ _ _ h => h) rfl (by rfl) ?_ (by assumption) ?_
          rotate_left
          · (intro w hSw; (try dsimp only at hSw); go_simp; (try with_reducible rfl))
          try simp only [Act.put, List.setIfInBounds_toArray, List.set_cons_zero, List.set_cons_succ]
          refine take_w (i := 1) (d := some 81) (v := ?_) rfl (by kernel_rfl) (by kernel_rfl) (by kernel_rfl) (fun _ _ _ h => h) rfl (by rfl) ?_ (by assumption) ?_
          rotate_left
          · (intro w hSw; (try dsimp only at hSw); go_simp; (try with_reducible rfl))
          try simp only [Act.put, List.setIfInBounds_toArray, List.set_cons_zero, List.set_cons_succ]
          refine take_w (i := 2) (d := some 82) (v := ?_) rfl (by kernel_rfl) (by kernel_rfl) (by kernel_rfl) (fun _ _ _ h => h) rfl (by rfl) ?_ (by assumption) ?_
          rotate_left
          · (intro w hSw; (try dsimp only at hSw); go_simp; (try with_reducible rfl))
          try simp only [Act.put, List.setIfInBounds_toArray, List.set_cons_zero, List.set_cons_succ]
          refine take_w (i := 3) (d := some 83) (v := ?_) rfl (by kernel_rfl) (by kernel_rfl) (by kernel_rfl) (fun _ _ _ h => h) rfl (by rfl) ?_ (by assumption) ?_
          rotate_left
          · (intro w hSw; (try dsimp only at hSw); go_simp; (try with_reducible rfl))
          try simp only [Act.put, List.setIfInBounds_toArray, List.set_cons_zero, List.set_cons_succ]
          refine take_w (i := 4) (d := some 84) (v := ?_) rfl (by kernel_rfl) (by kernel_rfl) (by kernel_rfl) (fun _ _ _ h => h) rfl (by rfl) ?_ (by assumption) ?_
          rotate_left
          · (intro w hSw; (try dsimp only at hSw); go_simp; (try with_reducible rfl))
          try simp only [Act.put, List.setIfInBounds_toArray, List.set_cons_zero, List.set_cons_succ]
          refine take_w (i := 5) (d := some 85) (v := ?_) rfl (by kernel_rfl) (by kernel_rfl) (by kernel_rfl) (fun _ _ _ h => h) rfl (by rfl) ?_ (by assumption) ?_
          rotate_left
          · (intro w hSw; (try dsimp only at hSw); go_simp; (try with_reducible rfl))
          try simp only [Act.put, List.setIfInBounds_toArray, List.set_cons_zero, List.set_cons_succ]
          refine take_w (i := 6) (d := some 86) (v := ?_) rfl (by kernel_rfl) (by kernel_rfl) (by kernel_rfl) (fun _ _ _ h => h) rfl (by rfl) ?_ (by assumption) ?_
          rotate_left
          · (intro w hSw; (try dsimp only at hSw); go_simp; (try with_reducible rfl))
          try simp only [Act.put, List.setIfInBounds_toArray, List.set_cons_zero, List.set_cons_succ]
          refine take_w (i := 7) (d := some 87) (v := ?_) rfl (by kernel_rfl) (by kernel_rfl) (by kernel_rfl) (fun _ _ _ h => h) rfl (by rfl) ?_ (by assumption) ?_
          rotate_left
          · (intro w hSw; (try dsimp only at hSw); go_simp; (try with_reducible rfl))
          try simp only [Act.put, List.setIfInBounds_toArray, List.set_cons_zero, List.set_cons_succ]
          refine take_w (i := 8) (d := some 88) (v := ?_) rfl (by kernel_rfl) (by kernel_rfl) (by kernel_rfl) (fun _ _ _ h => h) rfl (by rfl) ?_ (by assumption) ?_
          rotate_left
          · (intro w hSw; (try dsimp only at hSw); go_simp; (try with_reducible rfl))
          try simp only [Act.put, List.setIfInBounds_toArray, List.set_cons_zero, List.set_cons_succ]
          refine take_w (i := 9) (d := some 89) (v := ?_) rfl (by kernel_rfl) (by kernel_rfl) (by kernel_rfl) (fun _ _ _ h => h) rfl (by rfl) ?_ (by assumption) ?_
          rotate_left
          · (intro w hSw; (try dsimp only at hSw); go_simp; (try with_reducible rfl))
          try simp only [Act.put, List.setIfInBounds_toArray, List.set_cons_zero, List.set_cons_succ]
          refine take_w (i := 10) (d := some 90) (v := ?_) rfl (by kernel_rfl) (by kernel_rfl) (by kernel_rfl) (fun _ _ _ h => h) rfl (by rfl) ?_ (by assumption) ?_
          rotate_left
          · (intro w hSw; (try dsimp only at hSw); go_simp; (try with_reducible rfl))
          try simp only [Act.put, List.setIfInBounds_toArray, List.set_cons_zero, List.set_cons_succ]
          refine take_w (i := 11) (d := some 91) (v := ?_) rfl (by kernel_rfl) (by kernel_rfl) (by kernel_rfl) (fun _ _ _ h => h) rfl (by rfl) ?_ (by assumption) ?_
          rotate_left
          · (intro w hSw; (try dsimp only at hSw); go_simp; (try with_reducible rfl))
          try simp only [Act.put, List.setIfInBounds_toArray, List.set_cons_zero, List.set_cons_succ]
          refine take_w (i := 12) (d := some 92) (v := ?_) rfl (by kernel_rfl) (by kernel_rfl) (by kernel_rfl) (fun _ _ _ h => h) rfl (by rfl) ?_ (by assumption) ?_
          rotate_left
          · (intro w hSw; (try dsimp only at hSw); go_simp; (try with_reducible rfl))
          try simp only [Act.put, List.setIfInBounds_toArray, List.set_cons_zero, List.set_cons_succ]
          refine take_w (i := 13) (d := some 93) (v := ?_) rfl (by kernel_rfl) (by kernel_rfl) (by kernel_rfl) (fun _ _ _ h => h) rfl (by rfl) ?_ (by assumption) ?_
          rotate_left
          · (intro w hSw; (try dsimp only at hSw); go_simp; (try with_reducible rfl))
          try simp only [Act.put, List.setIfInBounds_toArray, List.set_cons_zero, List.set_cons_succ]
          refine take_w (i := 14) (d := some 94) (v := ?_) rfl (by kernel_rfl) (by kernel_rfl) (by kernel_rfl) (fun _ _ _ h => h) rfl (by rfl) ?_ (by assumption) ?_
          rotate_left
          · (intro w hSw; (try dsimp only at hSw); go_simp; (try with_reducible rfl))
          try simp only [Act.put, List.setIfInBounds_toArray, List.set_cons_zero, List.set_cons_succ]
          refine take_w (i := 15) (d := some 95) (v := ?_) rfl (by kernel_rfl) (by kernel_rfl) (by kernel_rfl) (fun _ _ _ h => h) rfl (by rfl) ?_ (by assumption) ?_
          rotate_left
          · (intro w hSw; (try dsimp only at hSw); go_simp; (try with_reducible rfl))
          try simp only [Act.put, List.setIfInBounds_toArray, List.set_cons_zero, List.set_cons_succ]
          refine take_w (i := 16) (d := some 96) (v := ?_) rfl (by kernel_rfl) (by kernel_rfl) (by kernel_rfl) (fun _ _ _ h => h) rfl (by rfl) ?_ (by assumption) ?_
          rotate_left
          · (intro w hSw; (try dsimp only at hSw); go_simp; (try with_reducible rfl))
          try simp only [Act.put, List.setIfInBounds_toArray, List.set_cons_zero, List.set_cons_succ]
          refine take_w (i := 17) (d := some 97) (v := ?_) rfl (by kernel_rfl) (by kernel_rfl) (by kernel_rfl) (fun _ _ _ h => h) rfl (by rfl) ?_ (by assumption) ?_
          rotate_left
          · (intro w hSw; (try dsimp only at hSw); go_simp; (try with_reducible rfl))
          try simp only [Act.put, List.setIfInBounds_toArray, List.set_cons_zero, List.set_cons_succ]
          refine take_w (i := 18) (d := some 98) (v := ?_) rfl (by kernel_rfl) (by kernel_rfl) (by kernel_rfl) (fun _ _ _ h => h) rfl (by rfl) ?_ (by assumption) ?_
          rotate_left
          · (intro w hSw; (try dsimp only at hSw); go_simp; (try with_reducible rfl))
          try simp only [Act.put, List.setIfInBounds_toArray, List.set_cons_zero, List.set_cons_succ]
          refine take_w (i := 19) (d := some 99) (v := ?_) rfl (by kernel_rfl) (by kernel_rfl) (by kernel_rfl) (fun _ _ _ h => h) rfl (by rfl) ?_ (by assumption) ?_
          rotate_left
          · (intro w hSw; (try dsimp only at hSw); go_simp; (try with_reducible rfl))
          try simp only [Act.put, List.setIfInBounds_toArray, List.set_cons_zero, List.set_cons_succ]
          refine take_w (i := 20) (d := some 100) (v := ?_) rfl (by kernel_rfl) (by kernel_rfl) (by kernel_rfl) (fun _ _ _ h => h) rfl (by rfl) ?_ (by assumption) ?_
          rotate_left
          · (intro w hSw; (try dsimp only at hSw); go_simp; (try with_reducible rfl))
          try simp only [Act.put, List.setIfInBounds_toArray, List.set_cons_zero, List.set_cons_succ]
          refine take_w (i := 22) (d := some 102) (v := ?_) rfl (by kernel_rfl) (by kernel_rfl) (by kernel_rfl) (fun _ _ _ h => h) rfl (by rfl) ?_ (by assumption) ?_
          rotate_left
          · (intro w hSw; (try dsimp only at hSw); go_simp; (try with_reducible rfl))
          try simp only [Act.put, List.setIfInBounds_toArray, List.set_cons_zero, List.set_cons_succ]
          refine take_w (i := 23) (d := some 103) (v := ?_) rfl (by kernel_rfl) (by kernel_rfl) (by kernel_rfl) (fun _ _ _ h => h) rfl (by rfl) ?_ (by assumption) ?_
          rotate_left
          · (intro w hSw; (try dsimp only at hSw); go_simp; (try with_reducible rfl))
          try simp only [Act.put, List.setIfInBounds_toArray, List.set_cons_zero, List.set_cons_succ]
          refine take_w (i := 24) (d := some 104) (v := ?_) rfl (by kernel_rfl) (by kernel_rfl) (by kernel_rfl) (fun _ _ _ h => h) rfl (by rfl) ?_ (by assumption) ?_
          rotate_left
          · (intro w hSw; (try dsimp only at hSw); go_simp; (try with_reducible rfl))
          try simp only [Act.put, List.setIfInBounds_toArray, List.set_cons_zero, List.set_cons_succ]
          refine take_w (i := 25) (d := some 105) (v := ?_) rfl (by kernel_rfl) (by kernel_rfl) (by kernel_rfl) (fun _ _ _ h => h) rfl (by rfl) ?_ (by assumption) ?_
          rotate_left
          · (intro w hSw; (try dsimp only at hSw); go_simp; (try with_reducible rfl))
          try simp only [Act.put, List.setIfInBounds_toArray, List.set_cons_zero, List.set_cons_succ]
          refine take_w (i := 26) (d := some 106) (v := ?_) rfl (by kernel_rfl) (by kernel_rfl) (by kernel_rfl) (fun _ _ _ h => h) rfl (by rfl) ?_ (by assumption) ?_
          rotate_left
          · (intro w hSw; (try dsimp only at hSw); go_simp; (try with_reducible rfl))
          try simp only [Act.put, List.setIfInBounds_toArray, List.set_cons_zero, List.set_cons_succ]
          refine take_w (i := 27) (d := some 107) (v := ?_) rfl (by kernel_rfl) (by kernel_rfl) (by kernel_rfl) (fun _ _ _ h => h) rfl (by rfl) ?_ (by assumption) ?_
          rotate_left
          · (intro w hSw; (try dsimp only at hSw); go_simp; (try with_reducible rfl))
          try simp only [Act.put, List.setIfInBounds_toArray, List.set_cons_zero, List.set_cons_succ]
          refine take_w (i := 28) (d := some 108) (v := ?_) rfl (by kernel_rfl) (by kernel_rfl) (by kernel_rfl) (fun _ _ _ h => h) rfl (by rfl) ?_ (by assumption) ?_
          rotate_left
          · (intro w hSw; (try dsimp only at hSw); go_simp; (try with_reducible rfl))
          try simp only [Act.put, List.setIfInBounds_toArray, List.set_cons_zero, List.set_cons_succ]
          refine take_w (i := 29) (d := some 109) (v := ?_) rfl (by kernel_rfl) (by kernel_rfl) (by kernel_rfl) (fun _ _ _ h => h) rfl (by rfl) ?_ (by assumption) ?_
          rotate_left
          · (intro w hSw; (try dsimp only at hSw); go_simp; (try with_reducible rfl))
          try simp only [Act.put, List.setIfInBounds_toArray, List.set_cons_zero, List.set_cons_succ]
          refine call_w (i := 21) rfl (by kernel_rfl) (by rfl) (fun K hK => ?_)
          go_simp
          refine hK.out _ _ ?_ (fun hHeld => ?_)
          · exact HSX.out _ (((Q.refl w4).drew).alloc _)
          clear hK K
          try simp only [Act.put, List.setIfInBounds_toArray, List.set_cons_zero, List.set_cons_succ]
          refine call_w (i := 30) rfl (by kernel_rfl) (by rfl) (fun K hK => ?_)
          refine wp_append_src _ (.tmp 101) (.tmp 109) _ rfl w4.heap.size 38 i0 _ 3 32 Tryd.underlying22 Hi.out Hz0.out Hz1.out Hz2.out rfl (by omega) (.slice (some ⟨w4.heap.size, 0, none⟩) 0 0) 0 [] rfl HE4.out (some (ad.add (si * 3))) ci.nodes.length (c - si) (cellsG ci.nodes) rfl (cellsG_len _) HSr4.out (cellsG_one _) (by unfold maxLen; omega) (by omega) HQ4a.out.size ?_
          intro v5 w5 own5 gr5 _
          obtain ⟨g5, cap5, rfl⟩ := own_slice own5 (by omega)
          have HQ5 : Hid (Q w4 w5) := grown_q gr5 HQ4a.out (Nat.le_refl _)
          have HR5 : Hid (Rds w5 w5.heap.size (some ⟨g5, 0, none⟩) (cellsG ci.nodes)) := (OwnC.of_row own5).rds
          clear own5 gr5
          refine hK.out _ _ ?_ (fun hHeld => ?_)
          · exact HSX.out _ HQ5.out
          clear hK K
          try simp only [Act.put, List.setIfInBounds_toArray]
          refine call_w (i := 31) rfl (by kernel_rfl) (by rfl) (fun K hK => ?_)
          go_simp
          go_at_call 15
          refine (CX.out w5 g5 cap5 _ (by omega) HR5.out).mono ?_
          rintro e w6 ⟨rfl, q6⟩
          have HQ6 := Lib.hid (HQ5.out.trans q6)
          clear q6
          refine hK.out _ _ ?_ (fun hHeld => ?_)
          · exact HSX.out _ HQ6.out
          clear hK K
          try simp only [Act.put, List.setIfInBounds_toArray, List.set_cons_zero, List.set_cons_succ]
          refine take_w (i := 32) (d := some 112) (v := ?_) rfl (by kernel_rfl) (by kernel_rfl) (by kernel_rfl) (fun _ _ _ h => h) rfl (by rfl) ?_ (by assumption) ?_
          rotate_left
          · (intro w hSw; (try dsimp only at hSw); go_simp; (try with_reducible rfl))
          try simp only [Act.put, List.setIfInBounds_toArray, List.set_cons_zero, List.set_cons_succ]
          refine take_w (i := 33) (d := some 6) (v := ?_) rfl (by kernel_rfl) (by kernel_rfl) (by kernel_rfl) (fun _ _ _ h => h) rfl (by rfl) ?_ (by assumption) ?_
          rotate_left
          · (intro w hSw; (try dsimp only at hSw); go_simp; (try with_reducible rfl))
          try simp only [Act.put, List.setIfInBounds_toArray]
          refine wpAnyH_done (by kernel_rfl) ?_ _
          go_wp2_with fail
          go_ret
          exact ⟨rfl, HQ4.out.trans HQ6.out⟩
      · clear HS HD
        by_cases h1 : i < 0
        · have d1 : decide (i < 0) = true := decide_eq_true h1
          clear hik h1 HM hpos
          go_enter Tryd.func5, Tryd.ntmps5
          go_wp2_with (first | (go_at_call 7; refine (shown_any _).mono ?_; rintro e w1 ⟨rfl, q1⟩; have HQ1 := Lib.hid q1; clear q1) | (go_at_call 8; refine (CF.out _ HQ1.out).mono ?_; rintro e w2 ⟨rfl, q2⟩; have HQ2 := Lib.hid (HQ1.out.trans q2); clear q2) | (go_at_call 9; refine (CR.out _ HQ2.out).mono ?_; rintro e w3 ⟨rfl, q3⟩; have HQ3 := Lib.hid (HQ2.out.trans q3); clear q3))
          go_ret
          exact ⟨rfl, HQ3.out⟩
        · have d1 : decide (i < 0) = false := decide_eq_false h1
          by_cases h2 : k ≤ i
          · have d2 : decide (k ≤ i) = true := decide_eq_true h2
            clear hik h1 h2 HM hpos
            go_enter Tryd.func5, Tryd.ntmps5
            go_wp2_with (first | (go_at_call 7; refine (shown_any _).mono ?_; rintro e w1 ⟨rfl, q1⟩; have HQ1 := Lib.hid q1; clear q1) | (go_at_call 8; refine (CF.out _ HQ1.out).mono ?_; rintro e w2 ⟨rfl, q2⟩; have HQ2 := Lib.hid (HQ1.out.trans q2); clear q2) | (go_at_call 9; refine (CR.out _ HQ2.out).mono ?_; rintro e w3 ⟨rfl, q3⟩; have HQ3 := Lib.hid (HQ2.out.trans q3); clear q3))
            go_ret
            exact ⟨rfl, HQ3.out⟩
          · have d2 : decide (k ≤ i) = false := decide_eq_false h2
            have d3 : decide ((l.length : Int) ≤ k) = true := decide_eq_true (by omega)
            clear hik h1 h2 HM hpos
            go_enter Tryd.func5, Tryd.ntmps5
            go_wp2_with (first | (go_at_call 7; refine (shown_any _).mono ?_; rintro e w1 ⟨rfl, q1⟩; have HQ1 := Lib.hid q1; clear q1) | (go_at_call 8; refine (CF.out _ HQ1.out).mono ?_; rintro e w2 ⟨rfl, q2⟩; have HQ2 := Lib.hid (HQ1.out.trans q2); clear q2) | (go_at_call 9; refine (CR.out _ HQ2.out).mono ?_; rintro e w3 ⟨rfl, q3⟩; have HQ3 := Lib.hid (HQ2.out.trans q3); clear q3))
            go_ret
            exact ⟨rfl, HQ3.out⟩
  · rw [decide_eq_false hf] at CF
    clear hf
    go_enter Tryd.func5, Tryd.ntmps5
    go_wp2_with (first
        | (go_at_call 7; refine (shown_any _).mono ?_; rintro e w1 ⟨rfl, q1⟩; have HQ1 := Lib.hid q1; clear q1)
        | (go_at_call 8; refine (CF.out _ HQ1.out).mono ?_; rintro e w2 ⟨rfl, q2⟩; have HQ2 := Lib.hid (HQ1.out.trans q2); clear q2))
    go_ret
    exact ⟨rfl, HQ2.out⟩
theorem reads (os : Os) {H : Type} (enc : TypeId × Value → H) : ∃ places, DataW.whole enc Tryd.prog ((laidWorld os).forCall (fun _ _ => 0) ⟨#[], #[.slice none 0 0, .int .i64 0, .int .i64 0], []⟩).memory Tryd.f5.params.toList Rows.exprStartsSpec.vars false (#[.slice none 0 0, .int .i64 0, .int .i64 0] : Array Value).toList 8 = some ([.nil, .lit (.int .i64 0), .lit (.int .i64 0)], [], places) :=
  ⟨[], by kernel_rfl⟩

set_option maxRecDepth 100000 in
theorem contract (H : Type) (enc : TypeId × Value → H) (W : World) (base : Nat) (args : Array Value) (ds gs : List (DataW H)) (before : List MemPlace)
    (hval : ∀ (j : Nat) t v, Tryd.f5.params[j]? = some t → args[j]? = some v → Value.okWide Tryd.prog W .any base t v)
    (hW : DataW.Whole enc Tryd.prog Tryd.f5.params.toList Rows.exprStartsSpec.vars false W args.toList ds gs before)
    (hsz0 : (DataW.weightsEach Tryd.prog (Tryd.f5.params.toList ++ Rows.exprStartsSpec.plain.varTypes Tryd.prog) (ds ++ gs)).all (· ≤ reachBytes) = true) :
    Calls Tryd.prog 5 args W fun e W' => ∃ v, e = .returned v ∧ Rows.exprStartsSpec.post enc Tryd.prog Tryd.f5 false true false false W args v W' := by
  have hW' := hW
  obtain ⟨p, q, hA0, hV, rfl, hfz, hnd⟩ := hW
  have hA : DataW.TrodAll enc Tryd.prog W 0 (fun _ => true) true Tryd.f5.params.toList args.toList ds p := hA0
  rw [Tryd.params5] at hA hval
  obtain ⟨v0, vs0, d0, ds0, p0, q0, hargs, rfl, rfl, h0, r0⟩ := trodAll_cons hA
  obtain ⟨v1, vs1, d1, ds1, p1, q1, rfl, rfl, rfl, h1, r1⟩ := trodAll_cons r0
  obtain ⟨v2, vs2, d2, ds2, p2, q2, rfl, rfl, rfl, h2, r2⟩ := trodAll_cons r1
  obtain ⟨rfl, rfl, rfl⟩ := trodAll_nil r2
  obtain rfl : args = #[v0, v1, v2] := by cases args; simp_all
  obtain ⟨rfl, rfl⟩ := trodVars_none hV
  have z0 : ∀ n ∈ d0.weights Tryd.prog 22, n ≤ reachBytes := fun n hn => by
    have := List.all_eq_true.1 hsz0 n (DataW.weights_mem_each (j := 0) (t := 22) (d := d0) (by rw [Tryd.params5]; rfl) rfl n hn)
    simpa using this
  have z1 : ∀ n ∈ d1.weights Tryd.prog 3, n ≤ reachBytes := fun n hn => by
    have := List.all_eq_true.1 hsz0 n (DataW.weights_mem_each (j := 1) (t := 3) (d := d1) (by rw [Tryd.params5]; rfl) rfl n hn)
    simpa using this
  have z2 : ∀ n ∈ d2.weights Tryd.prog 3, n ≤ reachBytes := fun n hn => by
    have := List.all_eq_true.1 hsz0 n (DataW.weights_mem_each (j := 2) (t := 3) (d := d2) (by rw [Tryd.params5]; rfl) rfl n hn)
    simpa using this
  clear hsz0
  obtain ⟨A0, n0, k0, l0, rfl, e0, hr0, x0, y0, u0⟩ := open_nodes (hval 0 22 v0 rfl rfl) h0 z0
  obtain ⟨i, rfl, rfl, rfl, _⟩ := open_int Tryd.underlying3 (hval 1 3 v1 rfl rfl) h1
  obtain ⟨k, rfl, rfl, rfl, _⟩ := open_int Tryd.underlying3 (hval 2 3 v2 rfl rfl) h2
  clear hA0
  refine (walk A0 n0 k0 l0 i k W e0 hr0 x0 y0 u0).mono fun e W' ⟨he, hg⟩ => ?_
  subst he
  exact ⟨_, rfl, post_law laid (by rw [Tryd.params5]; decide +kernel) rfl rfl (by kernel_rfl) Tryd.underlying4 hW' hg⟩

set_option maxRecDepth 100000 in
theorem lifted (os : Os) (started : os.Started) (H : Type) (enc : TypeId × Value → H) (F : Stop.Interp) :
    ReturnsInHanded {} Tryd.checked os 5 .any ((OpenSpec.ofChange Rows.exprStartsSpec).preRow enc Tryd.prog Tryd.f5 Rows.exprStartsRow.domain false Rows.exprStartsRow.laid) (((OpenSpec.ofChange Rows.exprStartsSpec).at F).post enc Tryd.prog Tryd.f5 false true false false) := by
  obtain ⟨places, hx⟩ := reads os enc
  refine returnsInHanded_of_row (C := Tryd.checked) (s := OpenSpec.ofChange Rows.exprStartsSpec) own started (by kernel_rfl) Tryd.func5
    (witness_row_at (enc := enc) (C := Tryd.checked) false (laidWorld os) #[.slice none 0 0, .int .i64 0, .int .i64 0] rfl (laid_vars os _) (by kernel_rfl) (by kernel_rfl)
      (OpenSpec.preRow_of_cond 8 hx (by kernel_rfl) (fun k hk => by cases hk) (by kernel_rfl) (laid_met os _))) ?_
  intro W base args ds gs before hval hW _ _ hsz _ _ _
  exact contract H enc W base args ds gs before hval hW hsz

theorem said : Rows.ExprStartsSaid :=
  OpenClaim.holds_of_cond 5 Tryd.f5 rfl rfl rfl rfl rfl rfl rfl ⟨rfl, rfl, rfl, rfl, rfl⟩ rfl rfl rfl rfl rfl (by kernel_rfl) Tryd.func5 (by kernel_rfl)
    (of_decide_eq_true (by kernel_rfl)) (by unfold Func.isWrapper; first | (rw [if_pos (by decide +kernel)]; kernel_rfl) | (rw [if_neg (by decide +kernel)]; exact ⟨rfl, rfl⟩))
    (fun os started H enc _ F => by rw [OpenClaim.pre_eq_preRow]; exact lifted os started H enc F)

theorem plain (f : FuncId) (fn : Func) (hf : Tryd.pinned.checked.prog.funcNamed "tammy/tammylaw07.ExprStarts" = some f) (hfn : Tryd.pinned.checked.prog.funcs[f]? = some fn) :
    true = Tryd.pinned.checked.prog.looks [] ∧ ∀ (j : Nat) t, fn.params[j]? = some t → Tryd.pinned.checked.prog.wantsStandIn t = false := by
  obtain rfl : f = 5 := Option.some.inj ((show Tryd.prog.funcNamed "tammy/tammylaw07.ExprStarts" = some 5 by kernel_rfl).symm.trans hf) |>.symm
  obtain rfl : fn = Tryd.f5 := (Option.some.inj (Tryd.func5.symm.trans hfn)).symm
  refine ⟨by kernel_rfl, fun j t ht => ?_⟩
  rw [Tryd.params5] at ht
  have hm := Array.mem_of_getElem? ht
  simp only [List.mem_toArray, List.mem_cons, List.not_mem_nil, or_false] at hm
  rcases hm with rfl | rfl | rfl
  · exact (show Tryd.prog.wantsStandIn 22 = false by kernel_rfl)
  · exact (show Tryd.prog.wantsStandIn 3 = false by kernel_rfl)
  · exact (show Tryd.prog.wantsStandIn 3 = false by kernel_rfl)

/-- THE STATEMENT: the tied card -/
theorem card : Rows.ExprStartsCardSaid :=
  Claim7.holds_tied_plain_at .later [] _ _ _ _ said (fun _ h => by cases h) (by kernel_rfl) (fun _ h => by cases h) exprStarts_row_tie rfl ⟨rfl, rfl⟩ (by kernel_rfl) rfl plain (by kernel_rfl)
end Go.Proofs.YtmbdbmjnibfmgaaDoor.exprStarts
