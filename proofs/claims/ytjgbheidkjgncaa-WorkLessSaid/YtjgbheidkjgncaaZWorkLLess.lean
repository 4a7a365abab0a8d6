/-
  WorkLess: of two unlike pairs just one is less; of three it goes on: for every three pairs.
-/
import Derived.Test.YtjgbheidkjgncaaPh
import Derived.Test.YtjgbheidkjgncaaRows
import Derived.OpenShut
import Derived.RegionTactic
import Derived.Deep.CutBlock
namespace Go.Proofs.Ytjgbheidkjgncaa.workLess
open Go.ChangeShapes Go.WideShapes Go.RowKit Kit Rw Wk
open Go.Proofs.Ytjgbheidkjgncaa.St
open Go.Proofs.Ytjgbheidkjgncaa.Hs (Keys Ints layI putL placeI newB Dist atI)
set_option maxRecDepth 100000 in
set_option maxHeartbeats 4000000 in
theorem walk (p1 p2 q1 q2 r1 r2 : Int) (w : World) : Calls Try.prog 5 #[.agg #[.int .i64 p1, .int .i64 p2], .agg #[.int .i64 q1, .int .i64 q2], .agg #[.int .i64 r1, .int .i64 r2]] w fun e w' => e = .returned (.bool true) ∧ Q w w' := by
  have q0 := (((Q.refl w).alloc (Obj.cells #[.int .i64 p1, .int .i64 p2] 30)).alloc (Obj.cells #[.int .i64 q1, .int .i64 q2] 30)).alloc (Obj.cells #[.int .i64 r1, .int .i64 r2] 30)
  have HQ0 := Lib.hid q0
  have hp := (Ex.own_new8 w [.int .i64 p1, .int .i64 p2] 30).q (((Q.refl _).alloc (Obj.cells #[.int .i64 q1, .int .i64 q2] 30)).alloc (Obj.cells #[.int .i64 r1, .int .i64 r2] 30))
  have hb := (Ex.own_new8 (w.alloc (Obj.cells #[.int .i64 p1, .int .i64 p2] 30)) [.int .i64 q1, .int .i64 q2] 30).q ((Q.refl _).alloc (Obj.cells #[.int .i64 r1, .int .i64 r2] 30))
  have hc := Ex.own_new8 ((w.alloc (Obj.cells #[.int .i64 p1, .int .i64 p2] 30)).alloc (Obj.cells #[.int .i64 q1, .int .i64 q2] 30)) [.int .i64 r1, .int .i64 r2] 30
  rw [show (w.alloc (Obj.cells #[.int .i64 p1, .int .i64 p2] 30)).heap.size = w.heap.size + 1 by simp] at hb
  rw [show ((w.alloc (Obj.cells #[.int .i64 p1, .int .i64 p2] 30)).alloc (Obj.cells #[.int .i64 q1, .int .i64 q2] 30)).heap.size = w.heap.size + 1 + 1 by simp] at hc
  have D0 : Hid (∀ U, Calls Try.prog 13 #[.agg #[.int .i64 p1, .int .i64 p2], .agg #[.int .i64 p1, .int .i64 p2]] U fun e U' => e = .returned (.bool false) ∧ Q U U') := fun U => by
    have := lessW4 p1 p2 p1 p2 U
    rwa [decide_eq_false (nlt_refl _)] at this
  have HN : Hid (∀ u, (binOp .neq 30 (.agg #[.int .i64 p1, .int .i64 p2]) (.agg #[.int .i64 q1, .int .i64 q2])).run Try.prog u = .ok (.bool (!eqP (p1, p2) (q1, q2))) u) := fun u => run_neq_pair u (p1, p2) (q1, q2)
  go_enter Try.func5, Try.ntmps5
  go_upto_region 1 with fail
  have HP := Lib.hid hp
  have HB := Lib.hid hb
  have HC := Lib.hid hc
  clear q0 hp hb hc
  generalize ((w.alloc (Obj.cells #[.int .i64 p1, .int .i64 p2] 30)).alloc (Obj.cells #[.int .i64 q1, .int .i64 q2] 30)).alloc (Obj.cells #[.int .i64 r1, .int .i64 r2] 30) = y0 at *
  go_upto_region 2 with (go_at_call 8; refine (shown11_any _).mono ?_; rintro e y1 ⟨rfl, q1'⟩; have HQ1 := Lib.hid q1'; clear q1')
  replace HP := Lib.hid (HP.out.q HQ1.out)
  replace HB := Lib.hid (HB.out.q HQ1.out)
  replace HC := Lib.hid (HC.out.q HQ1.out)
  have HQ := Lib.hid (HQ0.out.trans HQ1.out)
  have HS0 : Hid (∀ w', Q y1 w' → w'.cell? ⟨w.heap.size, 0, none⟩ = some (.int .i64 p1) ∧ w'.cell? ⟨w.heap.size, 1, none⟩ = some (.int .i64 p2) ∧ w'.cell? ⟨w.heap.size + 1, 0, none⟩ = some (.int .i64 q1) ∧ w'.cell? ⟨w.heap.size + 1, 1, none⟩ = some (.int .i64 q2)) := fun w' q => ⟨((HP.out.q q).2 0 _ rfl).1, ((HP.out.q q).2 1 _ rfl).1, ((HB.out.q q).2 0 _ rfl).1, ((HB.out.q q).2 1 _ rfl).1⟩
  clear HQ0 HQ1
  have ne := HN.out
  go_cut [25] (fun v wc => v = .bool false ∧ Q y1 wc)
  case first =>
    by_cases he : eqP (p1, p2) (q1, q2) = true
    · rw [he] at HN
      replace ne := HN.out
      clear he
  
      refine wp_region_held_drew (S := fun w' => w'.cell? ⟨w.heap.size, 0, none⟩ = some (.int .i64 p1) ∧ w'.cell? ⟨w.heap.size, 1, none⟩ = some (.int .i64 p2) ∧ w'.cell? ⟨w.heap.size + 1, 0, none⟩ = some (.int .i64 q1) ∧ w'.cell? ⟨w.heap.size + 1, 1, none⟩ = some (.int .i64 q2)) (by kernel_rfl) ?_ (fun hHeld => ?_)
      · exact HS0.out _ (Q.refl y1).drew
      refine take_w (i := 0) (d := some 9) (v := ?_) rfl (by kernel_rfl) (by kernel_rfl) (by kernel_rfl) (fun _ _ _ h => h) rfl (by rfl) ?_ (by assumption) ?_
      rotate_left
      · (intro w hSw; (try dsimp only at hSw); go_simp; (try with_reducible rfl))
      try simp only [Act.put, List.setIfInBounds_toArray, List.set_cons_zero, List.set_cons_succ]
      refine take_w (i := 1) (d := some 10) (v := ?_) rfl (by kernel_rfl) (by kernel_rfl) (by kernel_rfl) (fun _ _ _ h => h) rfl (by rfl) ?_ (by assumption) ?_
      rotate_left
      · (intro w hSw; (try dsimp only at hSw); go_simp; (try with_reducible rfl))
      try simp only [Act.put, List.setIfInBounds_toArray, List.set_cons_zero, List.set_cons_succ]
      refine call_w (i := 2) rfl (by kernel_rfl) (by rfl) (fun K hK => ?_)
      go_simp
      go_at_call 13
      refine (D0.out _).mono ?_
      rintro e z1 ⟨rfl, qs1⟩
      have p1 : Q y1 z1 := ((Q.refl y1).drew).trans qs1
      refine hK.out _ _ ?_ (fun hHeld => ?_)
      · exact HS0.out _ p1
      clear hK K
      try simp only [Act.put, List.setIfInBounds_toArray, List.set_cons_zero, List.set_cons_succ]
      refine take_w (i := 3) (d := some 12) (v := ?_) rfl (by kernel_rfl) (by kernel_rfl) (by kernel_rfl) (fun _ _ _ h => h) rfl (by rfl) ?_ (by assumption) ?_
      rotate_left
      · (intro w hSw; (try dsimp only at hSw); go_simp; (try with_reducible rfl))
      try simp only [Act.put, List.setIfInBounds_toArray, List.set_cons_zero, List.set_cons_succ]
      refine take_w (i := 4) (d := some 13) (v := ?_) rfl (by kernel_rfl) (by kernel_rfl) (by kernel_rfl) (fun _ _ _ h => h) rfl (by rfl) ?_ (by assumption) ?_
      rotate_left
      · (intro w hSw; (try dsimp only at hSw); go_simp; (try with_reducible rfl))
      try simp only [Act.put, List.setIfInBounds_toArray, List.set_cons_zero, List.set_cons_succ]
      refine take_w (i := 5) (d := some 14) (v := ?_) rfl (by kernel_rfl) (by kernel_rfl) (by kernel_rfl) (fun _ _ _ h => h) rfl (by rfl) ?_ (by assumption) ?_
      rotate_left
      · (intro w hSw; (try dsimp only at hSw); go_simp; (try with_reducible rfl))
      try simp only [Act.put, List.setIfInBounds_toArray, List.set_cons_zero, List.set_cons_succ]
      refine take_w (i := 6) (d := some 15) (v := ?_) rfl (by kernel_rfl) (by kernel_rfl) (by kernel_rfl) (fun _ _ _ h => h) rfl (by rfl) ?_ (by assumption) ?_
      rotate_left
      · (intro w hSw; (try dsimp only at hSw); go_simp; (try with_reducible rfl))
      try simp only [Act.put, List.setIfInBounds_toArray, List.set_cons_zero, List.set_cons_succ]
      refine take_w (i := 7) (d := some 16) (v := ?_) rfl (by kernel_rfl) (by kernel_rfl) (by kernel_rfl) (fun _ _ _ h => h) rfl (by rfl) ?_ (by assumption) ?_
      rotate_left
      · (intro w hSw; (try dsimp only at hSw); go_simp; (try with_reducible rfl))
      try simp only [Act.put, List.setIfInBounds_toArray, List.set_cons_zero, List.set_cons_succ]
      refine take_u (i := 8) (d := some 17) rfl (by kernel_rfl) (by kernel_rfl) (by kernel_rfl) (fun _ _ _ h => h) rfl (by rfl) (by assumption) ?_
      try simp only [Act.put, List.setIfInBounds_toArray, List.set_cons_zero, List.set_cons_succ]
      refine take_u (i := 9) (d := some 18) rfl (by kernel_rfl) (by kernel_rfl) (by kernel_rfl) (fun _ _ _ h => h) rfl (by rfl) (by assumption) ?_
      try simp only [Act.put, List.setIfInBounds_toArray, List.set_cons_zero, List.set_cons_succ]
      refine take_u (i := 10) (d := some 19) rfl (by kernel_rfl) (by kernel_rfl) (by kernel_rfl) (fun _ _ _ h => h) rfl (by rfl) (by assumption) ?_
      try simp only [Act.put, List.setIfInBounds_toArray, List.set_cons_zero, List.set_cons_succ]
      refine take_u (i := 11) (d := some 20) rfl (by kernel_rfl) (by kernel_rfl) (by kernel_rfl) (fun _ _ _ h => h) rfl (by rfl) (by assumption) ?_
      try simp only [Act.put, List.setIfInBounds_toArray, List.set_cons_zero, List.set_cons_succ]
      refine take_u (i := 12) (d := some 21) rfl (by kernel_rfl) (by kernel_rfl) (by kernel_rfl) (fun _ _ _ h => h) rfl (by rfl) (by assumption) ?_
      try simp only [Act.put, List.setIfInBounds_toArray, List.set_cons_zero, List.set_cons_succ]
      refine take_u (i := 13) (d := some 22) rfl (by kernel_rfl) (by kernel_rfl) (by kernel_rfl) (fun _ _ _ h => h) rfl (by rfl) (by assumption) ?_
      try simp only [Act.put, List.setIfInBounds_toArray, List.set_cons_zero, List.set_cons_succ]
      refine take_u (i := 14) (d := some 23) rfl (by kernel_rfl) (by kernel_rfl) (by kernel_rfl) (fun _ _ _ h => h) rfl (by rfl) (by assumption) ?_
      try simp only [Act.put, List.setIfInBounds_toArray, List.set_cons_zero, List.set_cons_succ]
      refine take_w (i := 15) (d := some 24) (v := ?_) rfl (by kernel_rfl) (by kernel_rfl) (by kernel_rfl) (fun _ _ _ h => h) rfl (by rfl) ?_ (by assumption) ?_
      rotate_left
      · (intro w hSw; (try dsimp only at hSw); go_simp; (try with_reducible rfl))
      try simp only [Act.put, List.setIfInBounds_toArray, List.set_cons_zero, List.set_cons_succ]
      refine take_w (i := 16) (d := some 25) (v := ?_) rfl (by kernel_rfl) (by kernel_rfl) (by kernel_rfl) (fun _ _ _ h => h) rfl (by rfl) ?_ (by assumption) ?_
      rotate_left
      · (intro w hSw; (try dsimp only at hSw); go_simp; (try with_reducible rfl))
      try simp only [Act.put, List.setIfInBounds_toArray, List.set_cons_zero, List.set_cons_succ]
      refine wpAnyH_done (by kernel_rfl) ?_ _
      go_wp2_with fail
      go_meet
      exact ⟨rfl, p1⟩
    · have he' : eqP (p1, p2) (q1, q2) = false := by simpa using he
      rw [he'] at HN
      replace ne := HN.out
      have hpq : (p1, p2) ≠ (q1, q2) := fun e => he ((eqP_iff _ _).2 e)
      clear he he'
      by_cases ha : ltP (p1, p2) (q1, q2)
      · have D1 : Hid (∀ U, Calls Try.prog 13 #[.agg #[.int .i64 p1, .int .i64 p2], .agg #[.int .i64 q1, .int .i64 q2]] U fun e U' => e = .returned (.bool true) ∧ Q U U') := fun U => by
          have := lessW4 p1 p2 q1 q2 U
          rwa [decide_eq_true ha] at this
        have D2 : Hid (∀ U, Calls Try.prog 13 #[.agg #[.int .i64 q1, .int .i64 q2], .agg #[.int .i64 p1, .int .i64 p2]] U fun e U' => e = .returned (.bool false) ∧ Q U U') := fun U => by
          have := lessW4 q1 q2 p1 p2 U
          rwa [decide_eq_false (lt_nlt ha)] at this
        clear ha hpq
  
        refine wp_region_held_drew (S := fun w' => w'.cell? ⟨w.heap.size, 0, none⟩ = some (.int .i64 p1) ∧ w'.cell? ⟨w.heap.size, 1, none⟩ = some (.int .i64 p2) ∧ w'.cell? ⟨w.heap.size + 1, 0, none⟩ = some (.int .i64 q1) ∧ w'.cell? ⟨w.heap.size + 1, 1, none⟩ = some (.int .i64 q2)) (by kernel_rfl) ?_ (fun hHeld => ?_)
        · exact HS0.out _ (Q.refl y1).drew
        refine take_w (i := 0) (d := some 9) (v := ?_) rfl (by kernel_rfl) (by kernel_rfl) (by kernel_rfl) (fun _ _ _ h => h) rfl (by rfl) ?_ (by assumption) ?_
        rotate_left
        · (intro w hSw; (try dsimp only at hSw); go_simp; (try with_reducible rfl))
        try simp only [Act.put, List.setIfInBounds_toArray, List.set_cons_zero, List.set_cons_succ]
        refine take_w (i := 1) (d := some 10) (v := ?_) rfl (by kernel_rfl) (by kernel_rfl) (by kernel_rfl) (fun _ _ _ h => h) rfl (by rfl) ?_ (by assumption) ?_
        rotate_left
        · (intro w hSw; (try dsimp only at hSw); go_simp; (try with_reducible rfl))
        try simp only [Act.put, List.setIfInBounds_toArray, List.set_cons_zero, List.set_cons_succ]
        refine call_w (i := 2) rfl (by kernel_rfl) (by rfl) (fun K hK => ?_)
        go_simp
        go_at_call 13
        refine (D0.out _).mono ?_
        rintro e z1 ⟨rfl, qs1⟩
        have p1 : Q y1 z1 := ((Q.refl y1).drew).trans qs1
        refine hK.out _ _ ?_ (fun hHeld => ?_)
        · exact HS0.out _ p1
        clear hK K
        try simp only [Act.put, List.setIfInBounds_toArray, List.set_cons_zero, List.set_cons_succ]
        refine take_w (i := 3) (d := some 12) (v := ?_) rfl (by kernel_rfl) (by kernel_rfl) (by kernel_rfl) (fun _ _ _ h => h) rfl (by rfl) ?_ (by assumption) ?_
        rotate_left
        · (intro w hSw; (try dsimp only at hSw); go_simp; (try with_reducible rfl))
        try simp only [Act.put, List.setIfInBounds_toArray, List.set_cons_zero, List.set_cons_succ]
        refine take_w (i := 4) (d := some 13) (v := ?_) rfl (by kernel_rfl) (by kernel_rfl) (by kernel_rfl) (fun _ _ _ h => h) rfl (by rfl) ?_ (by assumption) ?_
        rotate_left
        · (intro w hSw; (try dsimp only at hSw); go_simp; (try with_reducible rfl))
        try simp only [Act.put, List.setIfInBounds_toArray, List.set_cons_zero, List.set_cons_succ]
        refine take_w (i := 5) (d := some 14) (v := ?_) rfl (by kernel_rfl) (by kernel_rfl) (by kernel_rfl) (fun _ _ _ h => h) rfl (by rfl) ?_ (by assumption) ?_
        rotate_left
        · (intro w hSw; (try dsimp only at hSw); go_simp; (try with_reducible rfl))
        try simp only [Act.put, List.setIfInBounds_toArray, List.set_cons_zero, List.set_cons_succ]
        refine take_w (i := 6) (d := some 15) (v := ?_) rfl (by kernel_rfl) (by kernel_rfl) (by kernel_rfl) (fun _ _ _ h => h) rfl (by rfl) ?_ (by assumption) ?_
        rotate_left
        · (intro w hSw; (try dsimp only at hSw); go_simp; (try with_reducible rfl))
        try simp only [Act.put, List.setIfInBounds_toArray, List.set_cons_zero, List.set_cons_succ]
        refine take_w (i := 7) (d := some 16) (v := ?_) rfl (by kernel_rfl) (by kernel_rfl) (by kernel_rfl) (fun _ _ _ h => h) rfl (by rfl) ?_ (by assumption) ?_
        rotate_left
        · (intro w hSw; (try dsimp only at hSw); go_simp; (try with_reducible rfl))
        try simp only [Act.put, List.setIfInBounds_toArray, List.set_cons_zero, List.set_cons_succ]
        refine take_w (i := 8) (d := some 17) (v := ?_) rfl (by kernel_rfl) (by kernel_rfl) (by kernel_rfl) (fun _ _ _ h => h) rfl (by rfl) ?_ (by assumption) ?_
        rotate_left
        · (intro w hSw; (try dsimp only at hSw); go_simp; (try with_reducible rfl))
        try simp only [Act.put, List.setIfInBounds_toArray, List.set_cons_zero, List.set_cons_succ]
        refine take_w (i := 9) (d := some 18) (v := ?_) rfl (by kernel_rfl) (by kernel_rfl) (by kernel_rfl) (fun _ _ _ h => h) rfl (by rfl) ?_ (by assumption) ?_
        rotate_left
        · (intro w hSw; (try dsimp only at hSw); go_simp; (try with_reducible rfl))
        try simp only [Act.put, List.setIfInBounds_toArray, List.set_cons_zero, List.set_cons_succ]
        refine take_w (i := 11) (d := some 20) (v := ?_) rfl (by kernel_rfl) (by kernel_rfl) (by kernel_rfl) (fun _ _ _ h => h) rfl (by rfl) ?_ (by assumption) ?_
        rotate_left
        · (intro w hSw; (try dsimp only at hSw); go_simp; (try with_reducible rfl))
        try simp only [Act.put, List.setIfInBounds_toArray, List.set_cons_zero, List.set_cons_succ]
        refine take_w (i := 12) (d := some 21) (v := ?_) rfl (by kernel_rfl) (by kernel_rfl) (by kernel_rfl) (fun _ _ _ h => h) rfl (by rfl) ?_ (by assumption) ?_
        rotate_left
        · (intro w hSw; (try dsimp only at hSw); go_simp; (try with_reducible rfl))
        try simp only [Act.put, List.setIfInBounds_toArray, List.set_cons_zero, List.set_cons_succ]
        refine call_w (i := 10) rfl (by kernel_rfl) (by rfl) (fun K hK => ?_)
        go_simp
        go_at_call 13
        refine (D1.out _).mono ?_
        rintro e z2 ⟨rfl, qs2⟩
        have p2 : Q y1 z2 := (p1).trans qs2
        refine hK.out _ _ ?_ (fun hHeld => ?_)
        · exact HS0.out _ p2
        clear hK K
        try simp only [Act.put, List.setIfInBounds_toArray, List.set_cons_zero, List.set_cons_succ]
        refine call_w (i := 13) rfl (by kernel_rfl) (by rfl) (fun K hK => ?_)
        go_simp
        go_at_call 13
        refine (D2.out _).mono ?_
        rintro e z3 ⟨rfl, qs3⟩
        have p3 : Q y1 z3 := (p2).trans qs3
        refine hK.out _ _ ?_ (fun hHeld => ?_)
        · exact HS0.out _ p3
        clear hK K
        try simp only [Act.put, List.setIfInBounds_toArray, List.set_cons_zero, List.set_cons_succ]
        refine take_w (i := 14) (d := some 23) (v := ?_) rfl (by kernel_rfl) (by kernel_rfl) (by kernel_rfl) (fun _ _ _ h => h) rfl (by rfl) ?_ (by assumption) ?_
        rotate_left
        · (intro w hSw; (try dsimp only at hSw); go_simp; (try with_reducible rfl))
        try simp only [Act.put, List.setIfInBounds_toArray, List.set_cons_zero, List.set_cons_succ]
        refine take_w (i := 15) (d := some 24) (v := ?_) rfl (by kernel_rfl) (by kernel_rfl) (by kernel_rfl) (fun _ _ _ h => h) rfl (by rfl) ?_ (by assumption) ?_
        rotate_left
        · (intro w hSw; (try dsimp only at hSw); go_simp; (try with_reducible rfl))
        try simp only [Act.put, List.setIfInBounds_toArray, List.set_cons_zero, List.set_cons_succ]
        refine take_w (i := 16) (d := some 25) (v := ?_) rfl (by kernel_rfl) (by kernel_rfl) (by kernel_rfl) (fun _ _ _ h => h) rfl (by rfl) ?_ (by assumption) ?_
        rotate_left
        · (intro w hSw; (try dsimp only at hSw); go_simp; (try with_reducible rfl))
        try simp only [Act.put, List.setIfInBounds_toArray, List.set_cons_zero, List.set_cons_succ]
        refine wpAnyH_done (by kernel_rfl) ?_ _
        go_wp2_with fail
        go_meet
        exact ⟨rfl, p3⟩
      · have hb : ltP (q1, q2) (p1, p2) := by
          rcases Classical.em (ltP (q1, q2) (p1, p2)) with h | h
          · exact h
          · exact absurd (nlt_both ha h) hpq
        have D1 : Hid (∀ U, Calls Try.prog 13 #[.agg #[.int .i64 p1, .int .i64 p2], .agg #[.int .i64 q1, .int .i64 q2]] U fun e U' => e = .returned (.bool false) ∧ Q U U') := fun U => by
          have := lessW4 p1 p2 q1 q2 U
          rwa [decide_eq_false ha] at this
        have D2 : Hid (∀ U, Calls Try.prog 13 #[.agg #[.int .i64 q1, .int .i64 q2], .agg #[.int .i64 p1, .int .i64 p2]] U fun e U' => e = .returned (.bool true) ∧ Q U U') := fun U => by
          have := lessW4 q1 q2 p1 p2 U
          rwa [decide_eq_true hb] at this
        clear ha hb hpq
  
        refine wp_region_held_drew (S := fun w' => w'.cell? ⟨w.heap.size, 0, none⟩ = some (.int .i64 p1) ∧ w'.cell? ⟨w.heap.size, 1, none⟩ = some (.int .i64 p2) ∧ w'.cell? ⟨w.heap.size + 1, 0, none⟩ = some (.int .i64 q1) ∧ w'.cell? ⟨w.heap.size + 1, 1, none⟩ = some (.int .i64 q2)) (by kernel_rfl) ?_ (fun hHeld => ?_)
        · exact HS0.out _ (Q.refl y1).drew
        refine take_w (i := 0) (d := some 9) (v := ?_) rfl (by kernel_rfl) (by kernel_rfl) (by kernel_rfl) (fun _ _ _ h => h) rfl (by rfl) ?_ (by assumption) ?_
        rotate_left
        · (intro w hSw; (try dsimp only at hSw); go_simp; (try with_reducible rfl))
        try simp only [Act.put, List.setIfInBounds_toArray, List.set_cons_zero, List.set_cons_succ]
        refine take_w (i := 1) (d := some 10) (v := ?_) rfl (by kernel_rfl) (by kernel_rfl) (by kernel_rfl) (fun _ _ _ h => h) rfl (by rfl) ?_ (by assumption) ?_
        rotate_left
        · (intro w hSw; (try dsimp only at hSw); go_simp; (try with_reducible rfl))
        try simp only [Act.put, List.setIfInBounds_toArray, List.set_cons_zero, List.set_cons_succ]
        refine call_w (i := 2) rfl (by kernel_rfl) (by rfl) (fun K hK => ?_)
        go_simp
        go_at_call 13
        refine (D0.out _).mono ?_
        rintro e z1 ⟨rfl, qs1⟩
        have p1 : Q y1 z1 := ((Q.refl y1).drew).trans qs1
        refine hK.out _ _ ?_ (fun hHeld => ?_)
        · exact HS0.out _ p1
        clear hK K
        try simp only [Act.put, List.setIfInBounds_toArray, List.set_cons_zero, List.set_cons_succ]
        refine take_w (i := 3) (d := some 12) (v := ?_) rfl (by kernel_rfl) (by kernel_rfl) (by kernel_rfl) (fun _ _ _ h => h) rfl (by rfl) ?_ (by assumption) ?_
        rotate_left
        · (intro w hSw; (try dsimp only at hSw); go_simp; (try with_reducible rfl))
        try simp only [Act.put, List.setIfInBounds_toArray, List.set_cons_zero, List.set_cons_succ]
        refine take_w (i := 4) (d := some 13) (v := ?_) rfl (by kernel_rfl) (by kernel_rfl) (by kernel_rfl) (fun _ _ _ h => h) rfl (by rfl) ?_ (by assumption) ?_
        rotate_left
        · (intro w hSw; (try dsimp only at hSw); go_simp; (try with_reducible rfl))
        try simp only [Act.put, List.setIfInBounds_toArray, List.set_cons_zero, List.set_cons_succ]
        refine take_w (i := 5) (d := some 14) (v := ?_) rfl (by kernel_rfl) (by kernel_rfl) (by kernel_rfl) (fun _ _ _ h => h) rfl (by rfl) ?_ (by assumption) ?_
        rotate_left
        · (intro w hSw; (try dsimp only at hSw); go_simp; (try with_reducible rfl))
        try simp only [Act.put, List.setIfInBounds_toArray, List.set_cons_zero, List.set_cons_succ]
        refine take_w (i := 6) (d := some 15) (v := ?_) rfl (by kernel_rfl) (by kernel_rfl) (by kernel_rfl) (fun _ _ _ h => h) rfl (by rfl) ?_ (by assumption) ?_
        rotate_left
        · (intro w hSw; (try dsimp only at hSw); go_simp; (try with_reducible rfl))
        try simp only [Act.put, List.setIfInBounds_toArray, List.set_cons_zero, List.set_cons_succ]
        refine take_w (i := 7) (d := some 16) (v := ?_) rfl (by kernel_rfl) (by kernel_rfl) (by kernel_rfl) (fun _ _ _ h => h) rfl (by rfl) ?_ (by assumption) ?_
        rotate_left
        · (intro w hSw; (try dsimp only at hSw); go_simp; (try with_reducible rfl))
        try simp only [Act.put, List.setIfInBounds_toArray, List.set_cons_zero, List.set_cons_succ]
        refine take_w (i := 8) (d := some 17) (v := ?_) rfl (by kernel_rfl) (by kernel_rfl) (by kernel_rfl) (fun _ _ _ h => h) rfl (by rfl) ?_ (by assumption) ?_
        rotate_left
        · (intro w hSw; (try dsimp only at hSw); go_simp; (try with_reducible rfl))
        try simp only [Act.put, List.setIfInBounds_toArray, List.set_cons_zero, List.set_cons_succ]
        refine take_w (i := 9) (d := some 18) (v := ?_) rfl (by kernel_rfl) (by kernel_rfl) (by kernel_rfl) (fun _ _ _ h => h) rfl (by rfl) ?_ (by assumption) ?_
        rotate_left
        · (intro w hSw; (try dsimp only at hSw); go_simp; (try with_reducible rfl))
        try simp only [Act.put, List.setIfInBounds_toArray, List.set_cons_zero, List.set_cons_succ]
        refine take_w (i := 11) (d := some 20) (v := ?_) rfl (by kernel_rfl) (by kernel_rfl) (by kernel_rfl) (fun _ _ _ h => h) rfl (by rfl) ?_ (by assumption) ?_
        rotate_left
        · (intro w hSw; (try dsimp only at hSw); go_simp; (try with_reducible rfl))
        try simp only [Act.put, List.setIfInBounds_toArray, List.set_cons_zero, List.set_cons_succ]
        refine take_w (i := 12) (d := some 21) (v := ?_) rfl (by kernel_rfl) (by kernel_rfl) (by kernel_rfl) (fun _ _ _ h => h) rfl (by rfl) ?_ (by assumption) ?_
        rotate_left
        · (intro w hSw; (try dsimp only at hSw); go_simp; (try with_reducible rfl))
        try simp only [Act.put, List.setIfInBounds_toArray, List.set_cons_zero, List.set_cons_succ]
        refine call_w (i := 10) rfl (by kernel_rfl) (by rfl) (fun K hK => ?_)
        go_simp
        go_at_call 13
        refine (D1.out _).mono ?_
        rintro e z2 ⟨rfl, qs2⟩
        have p2 : Q y1 z2 := (p1).trans qs2
        refine hK.out _ _ ?_ (fun hHeld => ?_)
        · exact HS0.out _ p2
        clear hK K
        try simp only [Act.put, List.setIfInBounds_toArray, List.set_cons_zero, List.set_cons_succ]
        refine call_w (i := 13) rfl (by kernel_rfl) (by rfl) (fun K hK => ?_)
        go_simp
        go_at_call 13
        refine (D2.out _).mono ?_
        rintro e z3 ⟨rfl, qs3⟩
        have p3 : Q y1 z3 := (p2).trans qs3
        refine hK.out _ _ ?_ (fun hHeld => ?_)
        · exact HS0.out _ p3
        clear hK K
        try simp only [Act.put, List.setIfInBounds_toArray, List.set_cons_zero, List.set_cons_succ]
        refine take_w (i := 14) (d := some 23) (v := ?_) rfl (by kernel_rfl) (by kernel_rfl) (by kernel_rfl) (fun _ _ _ h => h) rfl (by rfl) ?_ (by assumption) ?_
        rotate_left
        · (intro w hSw; (try dsimp only at hSw); go_simp; (try with_reducible rfl))
        try simp only [Act.put, List.setIfInBounds_toArray, List.set_cons_zero, List.set_cons_succ]
        refine take_w (i := 15) (d := some 24) (v := ?_) rfl (by kernel_rfl) (by kernel_rfl) (by kernel_rfl) (fun _ _ _ h => h) rfl (by rfl) ?_ (by assumption) ?_
        rotate_left
        · (intro w hSw; (try dsimp only at hSw); go_simp; (try with_reducible rfl))
        try simp only [Act.put, List.setIfInBounds_toArray, List.set_cons_zero, List.set_cons_succ]
        refine take_w (i := 16) (d := some 25) (v := ?_) rfl (by kernel_rfl) (by kernel_rfl) (by kernel_rfl) (fun _ _ _ h => h) rfl (by rfl) ?_ (by assumption) ?_
        rotate_left
        · (intro w hSw; (try dsimp only at hSw); go_simp; (try with_reducible rfl))
        try simp only [Act.put, List.setIfInBounds_toArray, List.set_cons_zero, List.set_cons_succ]
        refine wpAnyH_done (by kernel_rfl) ?_ _
        go_wp2_with fail
        go_meet
        exact ⟨rfl, p3⟩
  case rest =>
    obtain ⟨rfl, hcut⟩ := hcut
    replace HP := Lib.hid (HP.out.q hcut)
    replace HB := Lib.hid (HB.out.q hcut)
    replace HC := Lib.hid (HC.out.q hcut)
    replace HQ := Lib.hid (HQ.out.trans hcut)
    have C1 := fun U => lessW4 p1 p2 q1 q2 U
    have C2 := fun U => lessW4 q1 q2 r1 r2 U
    have C3 := fun U => lessW4 p1 p2 r1 r2 U
    have m0 := (HP.out.2 0 _ rfl).1
    have m1 := (HP.out.2 1 _ rfl).1
    have m2 := (HB.out.2 0 _ rfl).1
    have m3 := (HB.out.2 1 _ rfl).1
    clear HN ne D0 HS0
    go_upto_region 4 with fail
    have A1 := Lib.hid (fun (U : World) (q : Q wc U) => ((HB.out.q q).2 0 _ rfl).1)
    have A2 := Lib.hid (fun (U : World) (q : Q wc U) => ((HB.out.q q).2 1 _ rfl).1)
    have A3 := Lib.hid (fun (U : World) (q : Q wc U) => ((HC.out.q q).2 0 _ rfl).1)
    have A4 := Lib.hid (fun (U : World) (q : Q wc U) => ((HC.out.q q).2 1 _ rfl).1)
    have A5 := Lib.hid (fun (U : World) (q : Q wc U) => ((HP.out.q q).2 0 _ rfl).1)
    have A6 := Lib.hid (fun (U : World) (q : Q wc U) => ((HP.out.q q).2 1 _ rfl).1)
    by_cases ha : ltP (p1, p2) (q1, q2)
    · rw [decide_eq_true ha] at C1
      have C1 := Lib.hid C1
      by_cases hb : ltP (q1, q2) (r1, r2)
      · rw [decide_eq_true hb] at C2
        rw [decide_eq_true (ltP_trans ha hb)] at C3
        have C2 := Lib.hid C2
        have C3 := Lib.hid C3
        clear ha hb
        go_wp2_with (first
          | (go_at_call 13; refine (C1.out _).mono ?_; rintro e z1 ⟨rfl, s1⟩; have l0 := A1.out _ s1; have l1 := A2.out _ s1; have l2 := A3.out _ s1; have l3 := A4.out _ s1)
          | (go_at_call 13; refine (C2.out _).mono ?_; rintro e z2 ⟨rfl, s2⟩; have u0 := A5.out _ (s1.trans s2); have u1 := A6.out _ (s1.trans s2); have u2 := A3.out _ (s1.trans s2); have u3 := A4.out _ (s1.trans s2))
          | (go_at_call 13; refine (C3.out _).mono ?_; rintro e z3 ⟨rfl, s3⟩))
        go_ret
        exact ⟨rfl, ((HQ.out.trans s1).trans s2).trans s3⟩
      · rw [decide_eq_false hb] at C2
        have C2 := Lib.hid C2
        clear ha hb C3
        go_wp2_with (first
          | (go_at_call 13; refine (C1.out _).mono ?_; rintro e z1 ⟨rfl, s1⟩; have l0 := A1.out _ s1; have l1 := A2.out _ s1; have l2 := A3.out _ s1; have l3 := A4.out _ s1)
          | (go_at_call 13; refine (C2.out _).mono ?_; rintro e z2 ⟨rfl, s2⟩))
        go_ret
        exact ⟨rfl, (HQ.out.trans s1).trans s2⟩
    · rw [decide_eq_false ha] at C1
      have C1 := Lib.hid C1
      clear ha C2 C3
      go_wp2_with (go_at_call 13; refine (C1.out _).mono ?_; rintro e z1 ⟨rfl, s1⟩)
      go_ret
      exact ⟨rfl, HQ.out.trans s1⟩

set_option maxRecDepth 100000 in
theorem lifted (os : Os) (started : os.Started) (H : Type) (enc : TypeId × Value → H) :
    ReturnsInHanded {} Try.checked os 5 .any (Rows.workLessSpec.pre6 enc Try.prog Try.f5 Rows.workLessRow.domain false) (Rows.workLessSpec.post enc Try.prog Try.f5 false true false false) := by
  refine returnsInHanded_of_change (C := Try.checked) own started (by kernel_rfl) Try.func5
    (ChangeSpec.witness6 (enc := enc) (C := Try.checked) false ⟨#[], #[.agg #[.int .i64 0, .int .i64 0], .agg #[.int .i64 0, .int .i64 0], .agg #[.int .i64 0, .int .i64 0]], []⟩ 8 (by kernel_rfl) (by kernel_rfl) (by kernel_rfl) (by kernel_rfl)) ?_
  intro W base args ds gs before hval0 hW hcnd _
  have hval : ∀ (j : Nat) t v, Try.f5.params[j]? = some t → args[j]? = some v → Value.okWide Try.prog W .any base t v := hval0
  have hW' := hW
  obtain ⟨p, q, hA0, hV, rfl, hfz, hnd⟩ := hW
  have hA : DataW.TrodAll enc Try.prog W 0 (fun _ => true) true Try.f5.params.toList args.toList ds p := hA0
  rw [Try.params5] at hA hval
  obtain ⟨v0, vs0, d0, ds0, p0, q0, hargs, rfl, rfl, h0, r0⟩ := trodAll_cons hA
  obtain ⟨v1, vs1, d1, ds1, p1, q1, rfl, rfl, rfl, h1, r1⟩ := trodAll_cons r0
  obtain ⟨v2, vs2, d2, ds2, p2, q2, rfl, rfl, rfl, h2, r2⟩ := trodAll_cons r1
  obtain ⟨rfl, rfl, rfl⟩ := trodAll_nil r2
  obtain rfl : args = #[v0, v1, v2] := by cases args; simp_all
  obtain ⟨rfl, rfl⟩ := trodVars_none hV
  obtain ⟨⟨a1, a2⟩, rfl⟩ := open_pair11 (hval 0 30 v0 rfl rfl) h0
  obtain ⟨⟨b1, b2⟩, rfl⟩ := open_pair11 (hval 1 30 v1 rfl rfl) h1
  obtain ⟨⟨x1, x2⟩, rfl⟩ := open_pair11 (hval 2 30 v2 rfl rfl) h2
  clear hA0 hval0
  refine (walk a1 a2 b1 b2 x1 x2 W).mono fun e W' ⟨he, hg⟩ => ?_
  subst he
  exact ⟨_, rfl, post_law laid (by rw [Try.params5]; decide +kernel) rfl rfl (by kernel_rfl) Try.underlying4 hW' hg⟩

/-- THE STATEMENT -/
theorem proved : Rows.WorkLessSaid :=
  OpenClaim.holds_of_wide 5 Try.f5 rfl rfl rfl rfl rfl rfl rfl ⟨rfl, rfl, rfl, rfl, rfl⟩ rfl rfl rfl rfl rfl (by kernel_rfl) Try.func5 (by kernel_rfl)
    (of_decide_eq_true (by kernel_rfl)) (by unfold Func.isWrapper; first | (rw [if_pos (by decide +kernel)]; kernel_rfl) | (rw [if_neg (by decide +kernel)]; exact ⟨rfl, rfl⟩))
    (fun os started H enc _ => lifted os started H enc)
end Go.Proofs.Ytjgbheidkjgncaa.workLess
