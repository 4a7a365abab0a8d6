/-
  What the proofs lean on, part 14 of 16.
-/
import Derived.Test.YtjehccemilefgaaPb
import Derived.Test.YtjehccemilefgaaPc
import Derived.Test.YtjehccemilefgaaPm
import Derived.Deep.CutBlock
import Derived.Deep.SlicePairs
import Derived.Lib.SmallJoins
import Derived.Deep.Slices
import Derived.Deep.Fields
import Derived.ChangeSame
import Derived.SizedLaws
import Derived.OpenShut
namespace Go.Proofs.Ytjehccemilefgaa.St
open Go.RowKit Kit Rw Go.Maps
open Go.Proofs.Ytjehccemilefgaa.Sg (Sig Row)
open Go.Proofs.Ytjehccemilefgaa.Hs (Ints Keys BoxT)
open Go.Proofs.Ytjehccemilefgaa.Tm (Tm Store Wf isPl isPl_iff)
set_option maxRecDepth 100000 in
set_option maxHeartbeats 8000000 in
theorem all10_any (R A S : Option Addr) (nl cl n c m d : Nat) (L : List Sig) (ks : List (List Int)) (x y : Int) (w : World) (hnl : nl = L.length) (hr : Row w w.heap.size R L) (hn : n = ks.length) (hk : Keys w w.heap.size A ks) (hS : Store L ks) (hl8 : ∀ s ∈ L, s.2.size ≤ 8) (hs : ∀ k ∈ ks, k.length ≤ 100000) (hcap : ks.length ≤ c) (hks : ks.length ≤ 100) (hxy0 : WfP (x, y)) :
    Calls Try.prog 17 #[.slice R nl cl, .agg #[.slice A n c, .slice S m d], .int .i64 x, .int .i64 y] w (AllPost L ks (x, y) w) := by
  subst hnl hn
  obtain ⟨i0, hi, hz0, hz1, hz2⟩ := info_parts pairInfo
  have Hi := Lib.hid hi
  have Hz0 := Lib.hid hz0
  have Hz1 := Lib.hid hz1
  have Hz2 := Lib.hid hz2
  clear hi hz0 hz1 hz2
  have HQ0 := Lib.hid ((Q.refl w).alloc (Obj.cells #[Value.slice A ks.length c, Value.slice S m d] 26))
  have HT := Lib.hid (BoxT.new w (Value.slice A ks.length c) (Value.slice S m d) 26)
  have CO : Hid (∀ U z v, Q w U → Calls Try.prog 11 #[.slice R L.length cl, .agg #[.slice A ks.length c, .slice S m d], .int .i64 z, .int .i64 v] U (WayPost (stepF L ks z v) U)) := fun U z v p => step10_any R A S L.length cl ks.length c m d L ks z v U rfl ((hr.q (Nat.le_refl _) p).more p.size) rfl ((hk.q (Nat.le_refl _) p).more p.size) hS hl8 hs hcap
  have HS := Lib.hid hS
  have hxy := Lib.hid hxy0
  have HKS := Lib.hid hks
  have HLEN : Hid (∀ z : PI, (stepF L ks z.1 z.2).2.length ≤ 18) := fun z => step_len hS hl8 z.1 z.2
  have hmm := @run_makeMap Try.prog
  clear hr hk hS hl8 hs hcap hxy0 hks
  go_enter Try.func17, Try.ntmps17
  go_upto_region 2 with fail
  generalize w.alloc (Obj.cells #[Value.slice A ks.length c, Value.slice S m d] 26) = W1 at *
  have HQ : Hid (Q W1 W1) := Q.refl W1
  have hW2 : ∃ W2, W1 = W2 := ⟨_, rfl⟩
  go_cut [12, 13] (CutM W1 (x, y))
  case first =>
    clear CO HT HLEN
    refine wp_region_held_drew (S := fun _ => True) (by kernel_rfl) ?_ (fun hHeld => ?_)
    · exact trivial
    clear hHeld
    refine take_w (i := 1) (d := some 20) (v := ?_) rfl (by kernel_rfl) (by kernel_rfl) (by kernel_rfl) (fun _ _ _ h => h) rfl (by rfl) ?_ trivial ?_
    rotate_left
    · (intro w _; go_simp; (try with_reducible rfl))
    try simp only [Act.put, List.setIfInBounds_toArray, List.set_cons_zero, List.set_cons_succ]
    refine take_w (i := 2) (d := some 21) (v := ?_) rfl (by kernel_rfl) (by kernel_rfl) (by kernel_rfl) (fun _ _ _ h => h) rfl (by rfl) ?_ trivial ?_
    rotate_left
    · (intro w _; go_simp; (try with_reducible rfl))
    try simp only [Act.put, List.setIfInBounds_toArray, List.set_cons_zero, List.set_cons_succ]
    refine take_w (i := 3) (d := some 22) (v := ?_) rfl (by kernel_rfl) (by kernel_rfl) (by kernel_rfl) (fun _ _ _ h => h) rfl (by rfl) ?_ trivial ?_
    rotate_left
    · (intro w _; go_simp; (try with_reducible rfl))
    try simp only [Act.put, List.setIfInBounds_toArray, List.set_cons_zero, List.set_cons_succ]
    refine take_w (i := 4) (d := some 23) (v := ?_) rfl (by kernel_rfl) (by kernel_rfl) (by kernel_rfl) (fun _ _ _ h => h) rfl (by rfl) ?_ trivial ?_
    rotate_left
    · (intro w _; go_simp; (try with_reducible rfl))
    try simp only [Act.put, List.setIfInBounds_toArray, List.set_cons_zero, List.set_cons_succ]
    refine take_w (i := 8) (d := some 26) (v := ?_) rfl (by kernel_rfl) (by kernel_rfl) (by kernel_rfl) (fun _ _ _ h => h) rfl (by rfl) ?_ trivial ?_
    rotate_left
    · (intro w _; go_simp; (try with_reducible rfl))
    try simp only [Act.put, List.setIfInBounds_toArray, List.set_cons_zero, List.set_cons_succ]
    refine take_w (i := 9) (d := some 27) (v := ?_) rfl (by kernel_rfl) (by kernel_rfl) (by kernel_rfl) (fun _ _ _ h => h) rfl (by rfl) ?_ trivial ?_
    rotate_left
    · (intro w _; go_simp; (try with_reducible rfl))
    try simp only [Act.put, List.setIfInBounds_toArray, List.set_cons_zero, List.set_cons_succ]
    refine take_w (i := 10) (d := some 28) (v := ?_) rfl (by kernel_rfl) (by kernel_rfl) (by kernel_rfl) (fun _ _ _ h => h) rfl (by rfl) ?_ trivial ?_
    rotate_left
    · (intro w _; go_simp; (try with_reducible rfl))
    try simp only [Act.put, List.setIfInBounds_toArray, List.set_cons_zero, List.set_cons_succ]
    refine take_w (i := 11) (d := some 29) (v := ?_) rfl (by kernel_rfl) (by kernel_rfl) (by kernel_rfl) (fun _ _ _ h => h) rfl (by rfl) ?_ trivial ?_
    rotate_left
    · (intro w _; go_simp; (try with_reducible rfl))
    try simp only [Act.put, List.setIfInBounds_toArray, List.set_cons_zero, List.set_cons_succ]
    have q0 := Lib.hid HQ.out.drew
    generalize W1.drew = X0 at *
    refine two_w (i := 0) (j := 7) rfl rfl (by kernel_rfl) (by rfl) (by rfl) (fun K hK => ?_) (fun K hK => ?_)
    · have sA1 := Lib.hid (setP_made X0)
      have q1 := Lib.hid (q0.out.alloc (.map #[] 0))
      have l1 : Hid (W1.heap.size ≤ X0.heap.size) := q0.out.size
      go_simp
      refine hK.out _ _ trivial (fun hHeld => ?_)
      clear hK K hHeld
      try simp only [Act.put, List.setIfInBounds_toArray, List.set_cons_zero, List.set_cons_succ]
      generalize X0.alloc (.map #[] 0) = X1 at *
      refine two_w (i := 5) (j := 7) rfl rfl (by kernel_rfl) (by rfl) (by rfl) (fun K hK => ?_) (fun K hK => ?_)
      · obtain ⟨X2, hput2, hs2, hg2⟩ := setP_put2 sA1.out hxy.out (by simp)
        have sA2 := Lib.hid hs2
        have q2 := Lib.hid (grown_q hg2 q1.out l1.out)
        clear hs2 hg2
        go_simp
        refine hK.out _ _ trivial (fun hHeld => ?_)
        clear hK K hHeld hput2
        try simp only [Act.put, List.setIfInBounds_toArray, List.set_cons_zero, List.set_cons_succ]
        refine take_w (i := 6) (d := some 24) (v := ?_) rfl (by kernel_rfl) (by kernel_rfl) (by kernel_rfl) (fun _ _ _ h => h) rfl (by rfl) ?_ trivial ?_
        rotate_left
        · (intro w _; go_simp; (try with_reducible rfl))
        try simp only [Act.put, List.setIfInBounds_toArray, List.set_cons_zero, List.set_cons_succ]
        refine take_w (i := 14) (d := some 12) (v := ?_) rfl (by kernel_rfl) (by kernel_rfl) (by kernel_rfl) (fun _ _ _ h => h) rfl (by rfl) ?_ trivial ?_
        rotate_left
        · (intro w _; go_simp; (try with_reducible rfl))
        try simp only [Act.put, List.setIfInBounds_toArray, List.set_cons_zero, List.set_cons_succ]
        refine call_w (i := 7) rfl (by kernel_rfl) (by rfl) (fun K hK => ?_)
        have sB3 := Lib.hid (setP_made X2)
        have q3 := Lib.hid (q2.out.alloc (.map #[] 0))
        have l3 : Hid (W1.heap.size ≤ X2.heap.size) := q2.out.size
        have sA3 := Lib.hid (sA2.out.q ((Q.refl X2).alloc (.map #[] 0)))
        have ne3 : Hid (X0.heap.size ≠ X2.heap.size) := Nat.ne_of_lt sA2.out.lt
        go_simp
        refine hK.out _ _ trivial (fun hHeld => ?_)
        clear hK K hHeld
        try simp only [Act.put, List.setIfInBounds_toArray, List.set_cons_zero, List.set_cons_succ]
        generalize X2.alloc (.map #[] 0) = X3 at *
        refine call_w (i := 12) rfl (by kernel_rfl) (by rfl) (fun K hK => ?_)
        obtain ⟨X4, hput4, hs4, hg4⟩ := setP_put2 sB3.out hxy.out (by simp)
        have sB4 := Lib.hid hs4
        have q4 := Lib.hid (grown_q hg4 q3.out l3.out)
        have sA4 := Lib.hid (sA3.out.grown hg4 (fun e => ne3.out (by injection e)))
        clear hs4 hg4
        go_simp
        refine hK.out _ _ trivial (fun hHeld => ?_)
        clear hK K hHeld hput4
        try simp only [Act.put, List.setIfInBounds_toArray, List.set_cons_zero, List.set_cons_succ]
        refine take_w (i := 13) (d := some 30) (v := ?_) rfl (by kernel_rfl) (by kernel_rfl) (by kernel_rfl) (fun _ _ _ h => h) rfl (by rfl) ?_ trivial ?_
        rotate_left
        · (intro w _; go_simp; (try with_reducible rfl))
        try simp only [Act.put, List.setIfInBounds_toArray, List.set_cons_zero, List.set_cons_succ]
        refine take_w (i := 15) (d := some 13) (v := ?_) rfl (by kernel_rfl) (by kernel_rfl) (by kernel_rfl) (fun _ _ _ h => h) rfl (by rfl) ?_ trivial ?_
        rotate_left
        · (intro w _; go_simp; (try with_reducible rfl))
        try simp only [Act.put, List.setIfInBounds_toArray, List.set_cons_zero, List.set_cons_succ]
        refine wpAnyH_done (by kernel_rfl) ?_ _
        go_wp2_with fail
        go_meet
        exact ⟨X0.heap.size, X2.heap.size, rfl, rfl, ne3.out, l1.out, l3.out, sA4.out, sB4.out, q4.out⟩
      · have sB5 := Lib.hid (setP_made X1)
        have q5 := Lib.hid (q1.out.alloc (.map #[] 0))
        have l5 : Hid (W1.heap.size ≤ X1.heap.size) := q1.out.size
        have sA5 := Lib.hid (sA1.out.q ((Q.refl X1).alloc (.map #[] 0)))
        have ne5 : Hid (X0.heap.size ≠ X1.heap.size) := Nat.ne_of_lt sA1.out.lt
        go_simp
        refine hK.out _ _ trivial (fun hHeld => ?_)
        clear hK K hHeld
        try simp only [Act.put, List.setIfInBounds_toArray, List.set_cons_zero, List.set_cons_succ]
        generalize X1.alloc (.map #[] 0) = X5 at *
        refine two_w (i := 5) (j := 12) rfl rfl (by kernel_rfl) (by rfl) (by rfl) (fun K hK => ?_) (fun K hK => ?_)
        · obtain ⟨X6, hput6, hs6, hg6⟩ := setP_put2 sA5.out hxy.out (by simp)
          have sA6 := Lib.hid hs6
          have q6 := Lib.hid (grown_q hg6 q5.out l1.out)
          have sB6 := Lib.hid (sB5.out.grown hg6 (fun e => ne5.out.symm (by injection e)))
          clear hs6 hg6
          go_simp
          refine hK.out _ _ trivial (fun hHeld => ?_)
          clear hK K hHeld hput6
          try simp only [Act.put, List.setIfInBounds_toArray, List.set_cons_zero, List.set_cons_succ]
          refine take_w (i := 6) (d := some 24) (v := ?_) rfl (by kernel_rfl) (by kernel_rfl) (by kernel_rfl) (fun _ _ _ h => h) rfl (by rfl) ?_ trivial ?_
          rotate_left
          · (intro w _; go_simp; (try with_reducible rfl))
          try simp only [Act.put, List.setIfInBounds_toArray, List.set_cons_zero, List.set_cons_succ]
          refine take_w (i := 14) (d := some 12) (v := ?_) rfl (by kernel_rfl) (by kernel_rfl) (by kernel_rfl) (fun _ _ _ h => h) rfl (by rfl) ?_ trivial ?_
          rotate_left
          · (intro w _; go_simp; (try with_reducible rfl))
          try simp only [Act.put, List.setIfInBounds_toArray, List.set_cons_zero, List.set_cons_succ]
          refine call_w (i := 12) rfl (by kernel_rfl) (by rfl) (fun K hK => ?_)
          obtain ⟨X7, hput7, hs7, hg7⟩ := setP_put2 sB6.out hxy.out (by simp)
          have sB7 := Lib.hid hs7
          have q7 := Lib.hid (grown_q hg7 q6.out l5.out)
          have sA7 := Lib.hid (sA6.out.grown hg7 (fun e => ne5.out (by injection e)))
          clear hs7 hg7
          go_simp
          refine hK.out _ _ trivial (fun hHeld => ?_)
          clear hK K hHeld hput7
          try simp only [Act.put, List.setIfInBounds_toArray, List.set_cons_zero, List.set_cons_succ]
          refine take_w (i := 13) (d := some 30) (v := ?_) rfl (by kernel_rfl) (by kernel_rfl) (by kernel_rfl) (fun _ _ _ h => h) rfl (by rfl) ?_ trivial ?_
          rotate_left
          · (intro w _; go_simp; (try with_reducible rfl))
          try simp only [Act.put, List.setIfInBounds_toArray, List.set_cons_zero, List.set_cons_succ]
          refine take_w (i := 15) (d := some 13) (v := ?_) rfl (by kernel_rfl) (by kernel_rfl) (by kernel_rfl) (fun _ _ _ h => h) rfl (by rfl) ?_ trivial ?_
          rotate_left
          · (intro w _; go_simp; (try with_reducible rfl))
          try simp only [Act.put, List.setIfInBounds_toArray, List.set_cons_zero, List.set_cons_succ]
          refine wpAnyH_done (by kernel_rfl) ?_ _
          go_wp2_with fail
          go_meet
          exact ⟨X0.heap.size, X1.heap.size, rfl, rfl, ne5.out, l1.out, l5.out, sA7.out, sB7.out, q7.out⟩
        · obtain ⟨X8, hput8, hs8, hg8⟩ := setP_put2 sB5.out hxy.out (by simp)
          have sB8 := Lib.hid hs8
          have q8 := Lib.hid (grown_q hg8 q5.out l5.out)
          have sA8 := Lib.hid (sA5.out.grown hg8 (fun e => ne5.out (by injection e)))
          clear hs8 hg8
          go_simp
          refine hK.out _ _ trivial (fun hHeld => ?_)
          clear hK K hHeld hput8
          try simp only [Act.put, List.setIfInBounds_toArray, List.set_cons_zero, List.set_cons_succ]
          refine take_w (i := 13) (d := some 30) (v := ?_) rfl (by kernel_rfl) (by kernel_rfl) (by kernel_rfl) (fun _ _ _ h => h) rfl (by rfl) ?_ trivial ?_
          rotate_left
          · (intro w _; go_simp; (try with_reducible rfl))
          try simp only [Act.put, List.setIfInBounds_toArray, List.set_cons_zero, List.set_cons_succ]
          refine call_w (i := 5) rfl (by kernel_rfl) (by rfl) (fun K hK => ?_)
          obtain ⟨X9, hput9, hs9, hg9⟩ := setP_put2 sA8.out hxy.out (by simp)
          have sA9 := Lib.hid hs9
          have q9 := Lib.hid (grown_q hg9 q8.out l1.out)
          have sB9 := Lib.hid (sB8.out.grown hg9 (fun e => ne5.out.symm (by injection e)))
          clear hs9 hg9
          go_simp
          refine hK.out _ _ trivial (fun hHeld => ?_)
          clear hK K hHeld hput9
          try simp only [Act.put, List.setIfInBounds_toArray, List.set_cons_zero, List.set_cons_succ]
          refine take_w (i := 6) (d := some 24) (v := ?_) rfl (by kernel_rfl) (by kernel_rfl) (by kernel_rfl) (fun _ _ _ h => h) rfl (by rfl) ?_ trivial ?_
          rotate_left
          · (intro w _; go_simp; (try with_reducible rfl))
          try simp only [Act.put, List.setIfInBounds_toArray, List.set_cons_zero, List.set_cons_succ]
          refine take_w (i := 14) (d := some 12) (v := ?_) rfl (by kernel_rfl) (by kernel_rfl) (by kernel_rfl) (fun _ _ _ h => h) rfl (by rfl) ?_ trivial ?_
          rotate_left
          · (intro w _; go_simp; (try with_reducible rfl))
          try simp only [Act.put, List.setIfInBounds_toArray, List.set_cons_zero, List.set_cons_succ]
          refine take_w (i := 15) (d := some 13) (v := ?_) rfl (by kernel_rfl) (by kernel_rfl) (by kernel_rfl) (fun _ _ _ h => h) rfl (by rfl) ?_ trivial ?_
          rotate_left
          · (intro w _; go_simp; (try with_reducible rfl))
          try simp only [Act.put, List.setIfInBounds_toArray, List.set_cons_zero, List.set_cons_succ]
          refine wpAnyH_done (by kernel_rfl) ?_ _
          go_wp2_with fail
          go_meet
          exact ⟨X0.heap.size, X1.heap.size, rfl, rfl, ne5.out, l1.out, l5.out, sA9.out, sB9.out, q9.out⟩
    · have sB10 := Lib.hid (setP_made X0)
      have q10 := Lib.hid (q0.out.alloc (.map #[] 0))
      have l10 : Hid (W1.heap.size ≤ X0.heap.size) := q0.out.size
      go_simp
      refine hK.out _ _ trivial (fun hHeld => ?_)
      clear hK K hHeld
      try simp only [Act.put, List.setIfInBounds_toArray, List.set_cons_zero, List.set_cons_succ]
      generalize X0.alloc (.map #[] 0) = X10 at *
      refine two_w (i := 0) (j := 12) rfl rfl (by kernel_rfl) (by rfl) (by rfl) (fun K hK => ?_) (fun K hK => ?_)
      · have sA11 := Lib.hid (setP_made X10)
        have q11 := Lib.hid (q10.out.alloc (.map #[] 0))
        have l11 : Hid (W1.heap.size ≤ X10.heap.size) := q10.out.size
        have sB11 := Lib.hid (sB10.out.q ((Q.refl X10).alloc (.map #[] 0)))
        have ne11 : Hid (X0.heap.size ≠ X10.heap.size) := Nat.ne_of_lt sB10.out.lt
        go_simp
        refine hK.out _ _ trivial (fun hHeld => ?_)
        clear hK K hHeld
        try simp only [Act.put, List.setIfInBounds_toArray, List.set_cons_zero, List.set_cons_succ]
        generalize X10.alloc (.map #[] 0) = X11 at *
        refine two_w (i := 5) (j := 12) rfl rfl (by kernel_rfl) (by rfl) (by rfl) (fun K hK => ?_) (fun K hK => ?_)
        · obtain ⟨X12, hput12, hs12, hg12⟩ := setP_put2 sA11.out hxy.out (by simp)
          have sA12 := Lib.hid hs12
          have q12 := Lib.hid (grown_q hg12 q11.out l11.out)
          have sB12 := Lib.hid (sB11.out.grown hg12 (fun e => ne11.out (by injection e)))
          clear hs12 hg12
          go_simp
          refine hK.out _ _ trivial (fun hHeld => ?_)
          clear hK K hHeld hput12
          try simp only [Act.put, List.setIfInBounds_toArray, List.set_cons_zero, List.set_cons_succ]
          refine take_w (i := 6) (d := some 24) (v := ?_) rfl (by kernel_rfl) (by kernel_rfl) (by kernel_rfl) (fun _ _ _ h => h) rfl (by rfl) ?_ trivial ?_
          rotate_left
          · (intro w _; go_simp; (try with_reducible rfl))
          try simp only [Act.put, List.setIfInBounds_toArray, List.set_cons_zero, List.set_cons_succ]
          refine take_w (i := 14) (d := some 12) (v := ?_) rfl (by kernel_rfl) (by kernel_rfl) (by kernel_rfl) (fun _ _ _ h => h) rfl (by rfl) ?_ trivial ?_
          rotate_left
          · (intro w _; go_simp; (try with_reducible rfl))
          try simp only [Act.put, List.setIfInBounds_toArray, List.set_cons_zero, List.set_cons_succ]
          refine call_w (i := 12) rfl (by kernel_rfl) (by rfl) (fun K hK => ?_)
          obtain ⟨X13, hput13, hs13, hg13⟩ := setP_put2 sB12.out hxy.out (by simp)
          have sB13 := Lib.hid hs13
          have q13 := Lib.hid (grown_q hg13 q12.out l10.out)
          have sA13 := Lib.hid (sA12.out.grown hg13 (fun e => ne11.out.symm (by injection e)))
          clear hs13 hg13
          go_simp
          refine hK.out _ _ trivial (fun hHeld => ?_)
          clear hK K hHeld hput13
          try simp only [Act.put, List.setIfInBounds_toArray, List.set_cons_zero, List.set_cons_succ]
          refine take_w (i := 13) (d := some 30) (v := ?_) rfl (by kernel_rfl) (by kernel_rfl) (by kernel_rfl) (fun _ _ _ h => h) rfl (by rfl) ?_ trivial ?_
          rotate_left
          · (intro w _; go_simp; (try with_reducible rfl))
          try simp only [Act.put, List.setIfInBounds_toArray, List.set_cons_zero, List.set_cons_succ]
          refine take_w (i := 15) (d := some 13) (v := ?_) rfl (by kernel_rfl) (by kernel_rfl) (by kernel_rfl) (fun _ _ _ h => h) rfl (by rfl) ?_ trivial ?_
          rotate_left
          · (intro w _; go_simp; (try with_reducible rfl))
          try simp only [Act.put, List.setIfInBounds_toArray, List.set_cons_zero, List.set_cons_succ]
          refine wpAnyH_done (by kernel_rfl) ?_ _
          go_wp2_with fail
          go_meet
          exact ⟨X10.heap.size, X0.heap.size, rfl, rfl, ne11.out.symm, l11.out, l10.out, sA13.out, sB13.out, q13.out⟩
        · obtain ⟨X14, hput14, hs14, hg14⟩ := setP_put2 sB11.out hxy.out (by simp)
          have sB14 := Lib.hid hs14
          have q14 := Lib.hid (grown_q hg14 q11.out l10.out)
          have sA14 := Lib.hid (sA11.out.grown hg14 (fun e => ne11.out.symm (by injection e)))
          clear hs14 hg14
          go_simp
          refine hK.out _ _ trivial (fun hHeld => ?_)
          clear hK K hHeld hput14
          try simp only [Act.put, List.setIfInBounds_toArray, List.set_cons_zero, List.set_cons_succ]
          refine take_w (i := 13) (d := some 30) (v := ?_) rfl (by kernel_rfl) (by kernel_rfl) (by kernel_rfl) (fun _ _ _ h => h) rfl (by rfl) ?_ trivial ?_
          rotate_left
          · (intro w _; go_simp; (try with_reducible rfl))
          try simp only [Act.put, List.setIfInBounds_toArray, List.set_cons_zero, List.set_cons_succ]
          refine call_w (i := 5) rfl (by kernel_rfl) (by rfl) (fun K hK => ?_)
          obtain ⟨X15, hput15, hs15, hg15⟩ := setP_put2 sA14.out hxy.out (by simp)
          have sA15 := Lib.hid hs15
          have q15 := Lib.hid (grown_q hg15 q14.out l11.out)
          have sB15 := Lib.hid (sB14.out.grown hg15 (fun e => ne11.out (by injection e)))
          clear hs15 hg15
          go_simp
          refine hK.out _ _ trivial (fun hHeld => ?_)
          clear hK K hHeld hput15
          try simp only [Act.put, List.setIfInBounds_toArray, List.set_cons_zero, List.set_cons_succ]
          refine take_w (i := 6) (d := some 24) (v := ?_) rfl (by kernel_rfl) (by kernel_rfl) (by kernel_rfl) (fun _ _ _ h => h) rfl (by rfl) ?_ trivial ?_
          rotate_left
          · (intro w _; go_simp; (try with_reducible rfl))
          try simp only [Act.put, List.setIfInBounds_toArray, List.set_cons_zero, List.set_cons_succ]
          refine take_w (i := 14) (d := some 12) (v := ?_) rfl (by kernel_rfl) (by kernel_rfl) (by kernel_rfl) (fun _ _ _ h => h) rfl (by rfl) ?_ trivial ?_
          rotate_left
          · (intro w _; go_simp; (try with_reducible rfl))
          try simp only [Act.put, List.setIfInBounds_toArray, List.set_cons_zero, List.set_cons_succ]
          refine take_w (i := 15) (d := some 13) (v := ?_) rfl (by kernel_rfl) (by kernel_rfl) (by kernel_rfl) (fun _ _ _ h => h) rfl (by rfl) ?_ trivial ?_
          rotate_left
          · (intro w _; go_simp; (try with_reducible rfl))
          try simp only [Act.put, List.setIfInBounds_toArray, List.set_cons_zero, List.set_cons_succ]
          refine wpAnyH_done (by kernel_rfl) ?_ _
          go_wp2_with fail
          go_meet
          exact ⟨X10.heap.size, X0.heap.size, rfl, rfl, ne11.out.symm, l11.out, l10.out, sA15.out, sB15.out, q15.out⟩
      · obtain ⟨X16, hput16, hs16, hg16⟩ := setP_put2 sB10.out hxy.out (by simp)
        have sB16 := Lib.hid hs16
        have q16 := Lib.hid (grown_q hg16 q10.out l10.out)
        clear hs16 hg16
        go_simp
        refine hK.out _ _ trivial (fun hHeld => ?_)
        clear hK K hHeld hput16
        try simp only [Act.put, List.setIfInBounds_toArray, List.set_cons_zero, List.set_cons_succ]
        refine take_w (i := 13) (d := some 30) (v := ?_) rfl (by kernel_rfl) (by kernel_rfl) (by kernel_rfl) (fun _ _ _ h => h) rfl (by rfl) ?_ trivial ?_
        rotate_left
        · (intro w _; go_simp; (try with_reducible rfl))
        try simp only [Act.put, List.setIfInBounds_toArray, List.set_cons_zero, List.set_cons_succ]
        refine call_w (i := 0) rfl (by kernel_rfl) (by rfl) (fun K hK => ?_)
        have sA17 := Lib.hid (setP_made X16)
        have q17 := Lib.hid (q16.out.alloc (.map #[] 0))
        have l17 : Hid (W1.heap.size ≤ X16.heap.size) := q16.out.size
        have sB17 := Lib.hid (sB16.out.q ((Q.refl X16).alloc (.map #[] 0)))
        have ne17 : Hid (X0.heap.size ≠ X16.heap.size) := Nat.ne_of_lt sB16.out.lt
        go_simp
        refine hK.out _ _ trivial (fun hHeld => ?_)
        clear hK K hHeld
        try simp only [Act.put, List.setIfInBounds_toArray, List.set_cons_zero, List.set_cons_succ]
        generalize X16.alloc (.map #[] 0) = X17 at *
        refine call_w (i := 5) rfl (by kernel_rfl) (by rfl) (fun K hK => ?_)
        obtain ⟨X18, hput18, hs18, hg18⟩ := setP_put2 sA17.out hxy.out (by simp)
        have sA18 := Lib.hid hs18
        have q18 := Lib.hid (grown_q hg18 q17.out l17.out)
        have sB18 := Lib.hid (sB17.out.grown hg18 (fun e => ne17.out (by injection e)))
        clear hs18 hg18
        go_simp
        refine hK.out _ _ trivial (fun hHeld => ?_)
        clear hK K hHeld hput18
        try simp only [Act.put, List.setIfInBounds_toArray, List.set_cons_zero, List.set_cons_succ]
        refine take_w (i := 6) (d := some 24) (v := ?_) rfl (by kernel_rfl) (by kernel_rfl) (by kernel_rfl) (fun _ _ _ h => h) rfl (by rfl) ?_ trivial ?_
        rotate_left
        · (intro w _; go_simp; (try with_reducible rfl))
        try simp only [Act.put, List.setIfInBounds_toArray, List.set_cons_zero, List.set_cons_succ]
        refine take_w (i := 14) (d := some 12) (v := ?_) rfl (by kernel_rfl) (by kernel_rfl) (by kernel_rfl) (fun _ _ _ h => h) rfl (by rfl) ?_ trivial ?_
        rotate_left
        · (intro w _; go_simp; (try with_reducible rfl))
        try simp only [Act.put, List.setIfInBounds_toArray, List.set_cons_zero, List.set_cons_succ]
        refine take_w (i := 15) (d := some 13) (v := ?_) rfl (by kernel_rfl) (by kernel_rfl) (by kernel_rfl) (fun _ _ _ h => h) rfl (by rfl) ?_ trivial ?_
        rotate_left
        · (intro w _; go_simp; (try with_reducible rfl))
        try simp only [Act.put, List.setIfInBounds_toArray, List.set_cons_zero, List.set_cons_succ]
        refine wpAnyH_done (by kernel_rfl) ?_ _
        go_wp2_with fail
        go_meet
        exact ⟨X16.heap.size, X0.heap.size, rfl, rfl, ne17.out.symm, l17.out, l10.out, sA18.out, sB18.out, q18.out⟩
  case rest =>
    clear hW2 HQ
    obtain ⟨cb, lb0, rfl, rfl, hne0, hcb, hlb0, hsc, hsl, hq0⟩ := hcut
    have HSC := Lib.hid hsc
    have HSL := Lib.hid hsl
    have HQC := Lib.hid hq0
    have HCB := Lib.hid hcb
    clear hsc hsl hq0 hcb hmm
    have hmm := @run_makeMap Try.prog
    go_wp2_with fail
    go_loopw [10, 11, 13] (fun u v l wr => ∃ (u1 v1 : Value) (lb : Nat) (C Lf a c : List PI), u1 = u ∧ v1 = v ∧ l = .map (some lb) ∧ Hid (cb ≠ lb) ∧ Hid (W1.heap.size ≤ lb) ∧ Hid (LvI L ks (x, y) C (fun z => z ∈ Lf) a c) ∧ Hid (SetP wr lb Lf) ∧ Hid (AW W1 wr cb C u1 v1 a c)) (fun _ _ l wr => 2 * (20002 - mapSize wr cb) + (match l with | .map (some b) => (if mapSize wr b = 0 then 0 else 1) | _ => 0))
    case atStart => exact ⟨_, _, lb0, [(x, y)], [(x, y)], [], [], rfl, rfl, rfl, Lib.hid hne0, Lib.hid hlb0, Lib.hid ((LvI.init (x, y)).congr fun z => by simp), HSL, Lib.hid ⟨HQC.out, HCB.out, HSC.out, own_nil _ _ _ _, own_nil _ _ _ _, .inl rfl, .inl rfl⟩⟩
    case round =>
      clear HSC HSL HQC hlb0 hne0
      obtain ⟨u1, v1, lb, C, Lf, a, c1, rfl, rfl, rfl, HNE, HLB, HI, HL, HAW⟩ := hrel
      have hln := fun ty => setP_len HL.out ty
      have HAL := Lib.hid (HI.out.alen HS.out)
      have HCL := Lib.hid (HI.out.len HS.out)
      by_cases hl0 : Lf.length = 0
      · have d0 : decide (0 < Lf.length) = false := decide_eq_false (by omega)
        have hT : Hid (∀ z, ¬ z ∈ Lf) := fun z hz => by have := List.length_pos_of_mem hz; omega
        have hk2 : ks.length * ks.length ≤ 100 * 100 := Nat.mul_le_mul HKS.out HKS.out
        have hla : a.length ≤ 1000000 := by have := HAL.out.1; omega
        have hlc : c1.length ≤ 1000000 := by have := HAL.out.2; omega
        have CS1 := Lib.hid (sort10_any W1.heap.size u1 a wr HAW.out.ou hla)
        clear hl0 hla hk2
        go_wp2_with fail
        refine CS1.out.mono ?_
        rintro e w5 ⟨rfl, ⟨A1, k1, hu1, hr1⟩, hg1⟩
        have HG1 := Lib.hid hg1
        have HR1 := Lib.hid hr1
        have HU1 := Lib.hid hu1
        have HOV := Lib.hid (HAW.out.ov.kept hg1 HAW.out.ap2)
        clear hg1 hr1 hu1
        have CS2 := Lib.hid (sort10_any W1.heap.size v1 c1 w5 HOV.out hlc)
        clear hlc
        go_wp2_with fail
        refine CS2.out.mono ?_
        rintro e w6 ⟨rfl, ⟨A2, k2, hv1, hr2⟩, hg2⟩
        have HG2 := Lib.hid hg2
        have HR2 := Lib.hid hr2
        have HV1 := Lib.hid hv1
        clear hg2 hr2 hv1
        go_wp2_with fail
        obtain ⟨ea, ec⟩ := HI.out.end_ hT.out (sortP_perm a) (sortP_sorted a) (sortP_perm c1) (sortP_sorted c1)
        have hR1 : Rds w6 w6.heap.size A1 (cellsQ (sortP a)) := rds_row HR1.out HG2.out (fun ad e => by
          rcases HAW.out.ap1 with h | h
          · rw [HU1.out, e] at h; cases h
          · intro h2; apply h; rw [h2, HU1.out, e]; rfl)
        have hq1 : Q W1 w5 := Below.grown HAW.out.q HG1.out HAW.out.q.size (fun k e => (HAW.out.ou.lt k e).1)
        have hq2 : Q W1 w6 := Below.grown hq1 HG2.out hq1.size (fun k e => (HOV.out.lt k e).1)
        have la := sortP_len a
        have lc := sortP_len c1
        go_ret2
        refine ⟨A1, k1, A2, k2, ?_, by rw [← ea]; exact hR1, by rw [← ec]; exact HR2.out, HQ0.out.trans hq2⟩
        rw [HU1.out, HV1.out, ← ea, ← ec, la, lc]
        rfl
      · have d0 : decide (0 < Lf.length) = true := decide_eq_true (by omega)
        have qa := (Q.refl wr).alloc (.map #[] 0)
        have HNB := Lib.hid (setP_made wr)
        have HLa := Lib.hid (HL.out.q qa)
        have HAWa := Lib.hid (HAW.out.more qa)
        have HL0 := Lib.hid hl0
        have HMS := Lib.hid (show mapSize wr cb = C.length ∧ mapSize wr lb = Lf.length from ⟨HAW.out.come.mapSize, HL.out.mapSize⟩)
        have HNN : Hid (W1.heap.size ≤ wr.heap.size ∧ cb < wr.heap.size ∧ lb < wr.heap.size) := ⟨HAW.out.q.size, HAW.out.come.lt, HL.out.lt⟩
        clear hl0 qa HL HAW
        go_upto_region 5 with fail
        clear hln d0
        generalize hnb : wr.heap.size = nb at *
        generalize wr.alloc (.map #[] 0) = wa at *
        obtain ⟨D, hown, hsz, hhas, hwf⟩ := HLa.out
        obtain ⟨wb, hrun, hrg, hgb, hsb⟩ := hown.range pairKeyed Try.underlying81
        have HQb := Lib.hid (q_of_grown hgb)
        have HRG := Lib.hid hrg
        have HNBb := Lib.hid (HNB.out.q (q_of_grown hgb))
        have HAWb := Lib.hid (HAWa.out.more (q_of_grown hgb))
        have HIT : Hid (nb < wa.heap.size) := HNB.out.lt
        have HT0 : Hid (∀ z, (z ∈ ([] : List PI) ∨ leftP (Maps.has D) z) ↔ z ∈ Lf) := fun z => by
          unfold leftP
          constructor
          · rintro (h | ⟨h1, h2⟩)
            · cases h
            · rw [hhas z h1, decide_eq_true_eq] at h2; exact h2
          · intro h
            exact .inr ⟨hwf z h, by rw [hhas z (hwf z h)]; exact decide_eq_true h⟩
        clear hown hsz hhas hwf hrg hgb hsb HNB HAWa HLa
        go_wp2_with fail
        clear hrun
        generalize wa.heap.size = rb at *
        go_loopw [10, 11] (fun u v wr => ∃ (u2 v2 : Value) (C2 N a2 c2 : List PI) (left : Lit → Bool) (cnt : Nat), u2 = u ∧ v2 = v ∧ Hid (wr.ranges Try.prog 46 unitElem lb rb Lf.length D left cnt) ∧ Hid (LvI L ks (x, y) C2 (fun z => z ∈ N ∨ leftP left z) a2 c2) ∧ Hid (SetP wr nb N) ∧ Hid (AW W1 wr cb C2 u2 v2 a2 c2) ∧ Hid (∀ z ∈ N, ¬ leftP left z) ∧ Hid (C2.length = C.length + N.length)) (fun _ _ wr => wr.rangeLeft lb rb)
        case atStart => exact ⟨_, _, C, [], a, c1, _, _, rfl, rfl, HRG, Lib.hid (HI.out.congr HT0.out), HNBb, HAWb, Lib.hid (fun z h => by cases h), Lib.hid (by simp)⟩
        case round =>
          clear HRG HNBb HAWb HT0
          obtain ⟨u2, v2, C2, N, a2, c2, left, cnt, rfl, rfl, HR, HI2, HN, HA2, HNL, HLEN2⟩ := hrel
          rcases HR.out.next pairKeyed 0 with ⟨hc0, hl, hrun⟩ | ⟨key, v, kl, yy, wc, cnt2, hkey, hlk, hv, hat, hrun, hrg2, hlt, hgr, hsz, hen⟩
          · have HLF : Hid (∀ z, z ∈ N ↔ (z ∈ N ∨ leftP left z)) := fun z => ⟨.inl, fun h => h.elim id (fun h => by have := h.2; rw [hl] at this; cases this)⟩
            clear hc0 hl
            go_wp2_with fail
            go_roundw
            case rel => exact ⟨u2, v2, nb, C2, N, a2, c2, rfl, rfl, rfl, Lib.hid (Nat.ne_of_lt HNN.out.2.1), Lib.hid HNN.out.1, Lib.hid (HI2.out.congr HLF.out), HN, HA2⟩
            case measure =>
              have m1 := HA2.out.come.mapSize
              have m2 := HN.out.mapSize
              have m3 := HMS.out
              have m4 := HLEN2.out
              have m5 := HI2.out.len HS.out
              have hk2 : ks.length * ks.length ≤ 100 * 100 := Nat.mul_le_mul HKS.out HKS.out
              have m6 := HL0.out
              simp only [m1, m2, m3.1, m3.2]
              rw [if_neg m6]
              split <;> omega
          · obtain ⟨z, hz, rfl, rfl⟩ := key_inv hkey
            obtain ⟨rfl, _⟩ := unitElem_inv hv
            obtain ⟨z0, z1⟩ := z
            unfold pairV at hrun hen
            simp only at hrun hen
            obtain ⟨ob, hob, hoc, hom⟩ := ranges_iter HR.out
            have HRD : Hid (cb ≠ rb ∧ nb ≠ rb ∧ lb ≠ rb ∧ W1.heap.size ≤ rb) := by
              have h1 := HNN.out
              have h2 := HIT.out
              refine ⟨?_, ?_, ?_, ?_⟩ <;> omega
            have HLT := Lib.hid hlt
            have HML := Lib.hid HR.out.left_eq
            have HRc := Lib.hid hrg2
            have HAc := Lib.hid (HA2.out.iter hgr hob hoc HRD.out.2.2.2 HRD.out.1)
            have HNc := Lib.hid (HN.out.grown hgr (fun e => HRD.out.2.1 (by injection e)))
            have HZ := Lib.hid hz
            have HLK := Lib.hid (show leftP left (z0, z1) from ⟨hz, hlk⟩)
            have qz := (Q.refl wc).alloc (Obj.cells #[.int .i64 z0, .int .i64 z1] 46)
            have HBZ := Lib.hid (Ex.own_new8 wc [.int .i64 z0, .int .i64 z1] 46)
            have HRd := Lib.hid (ranges_q hrg2 qz)
            have HAd := Lib.hid (HAc.out.more qz)
            have HNd := Lib.hid (HNc.out.q qz)
            clear hkey hv hat hlt hsz hob hoc hom hz hlk hrg2 hgr qz HR HN HA2
            go_upto_region 8 with fail
            clear hrun hen HRc HAc HNc
            generalize hzb : wc.heap.size = zb at *
            generalize wc.alloc (Obj.cells #[.int .i64 z0, .int .i64 z1] 46) = wd at *
            obtain ⟨y0, _⟩ := HBZ.out.2 0 _ rfl
            obtain ⟨y1, _⟩ := HBZ.out.2 1 _ rfl
            have HTd := HT.out.q HAd.out.q
            have b0 := HTd.c0
            have b1 := HTd.c1
            go_wp2_with fail
            refine (CO.out wd z0 z1 (HQ0.out.trans HAd.out.q)).mono ?_
            rintro e w5 ⟨A5, c5, rfl, hr5, q5, hA5⟩
            obtain ⟨wy, hwy⟩ : ∃ r, stepF L ks z0 z1 = r := ⟨_, rfl⟩
            have HST := Lib.hid (fun u (hu : u ∈ wy.2) => step_places HS.out (x := z0) (y := z1) (z := u) (by rw [hwy]; exact hu))
            have HNX := Lib.hid (HI2.out.next (.inr HLK.out))
            have HW18 := Lib.hid (HLEN.out (z0, z1))
            rw [hwy] at hr5 ⊢
            have HWY := Lib.hid hwy
            unfold Hid at HNX HW18
            simp only [hwy] at HNX HW18
            have HNX2 := Lib.hid HNX
            have HW18b := Lib.hid HW18
            clear HNX HW18 hwy b0 b1 y0 y1 HTd
            have qw := (Q.refl w5).alloc (Obj.cells #[.int .i64 wy.1, .slice A5 wy.2.length c5] 33)
            have HBW := Lib.hid (Ex.own_new8 w5 [.int .i64 wy.1, .slice A5 wy.2.length c5] 33)
            have HRe := Lib.hid (ranges_q HRd.out (q5.trans qw))
            have HAe := Lib.hid (HAd.out.more (q5.trans qw))
            have HNe := Lib.hid (HNd.out.q (q5.trans qw))
            have HBZe := Lib.hid ((HBZ.out.q q5).q qw)
            have HR5 := Lib.hid (hr5.q qw)
            have HFA : Hid (∀ ad, A5 = some ad → (∀ g, u2.ownBlock = some g → g < ad.block) ∧ (∀ g, v2.ownBlock = some g → g < ad.block)) := fun ad e => ⟨fun g hg => Nat.lt_of_lt_of_le (HAd.out.ou.lt g hg).2 (hA5 ad e), fun g hg => Nat.lt_of_lt_of_le (HAd.out.ov.lt g hg).2 (hA5 ad e)⟩
            have HFW : Hid ((∀ g, u2.ownBlock = some g → g < w5.heap.size) ∧ (∀ g, v2.ownBlock = some g → g < w5.heap.size)) := ⟨fun g hg => Nat.lt_of_lt_of_le (HAd.out.ou.lt g hg).2 q5.size, fun g hg => Nat.lt_of_lt_of_le (HAd.out.ov.lt g hg).2 q5.size⟩
            clear hr5 hA5 q5 qw HRd HAd HNd HBZ
            go_upto_region 9 with fail
            generalize hwb5 : w5.heap.size = wb5 at *
            generalize w5.alloc (Obj.cells #[.int .i64 wy.1, .slice A5 wy.2.length c5] 33) = we at *
            obtain ⟨k0, _⟩ := HBW.out.2 0 _ rfl
            have HLA : Hid (a2.length ≤ 1000000 ∧ c2.length ≤ 1000000) := by
              have hk2 : ks.length * ks.length ≤ 100 * 100 := Nat.mul_le_mul HKS.out HKS.out
              have := HI2.out.alen HS.out
              exact ⟨by omega, by omega⟩
            go_upto_block 4 with fail
            clear k0
            go_cut [10, 11] (CutK W1 we cb C2 u2 v2 a2 c2 wy.1 (z0, z1))
            case first =>
              obtain ⟨y0, _⟩ := HBZe.out.2 0 _ rfl
              obtain ⟨y1, _⟩ := HBZe.out.2 1 _ rfl
              by_cases h2 : wy.1 = 2
              · have d2 : (wy.1 == 2) = true := beq_iff_eq.2 h2
                have H2 := Lib.hid h2
                have HO1 := Lib.hid (HAe.out.more ((Q.refl we).alloc (Obj.cells #[.int .i64 z0, .int .i64 z1] 46)))
                have HS1 := Lib.hid (src_alloc we [.int .i64 z0, .int .i64 z1] 46 (0, 0))
                clear h2
                go_wp2_with (at_builtin; refine wpList_append_src _ rfl (.tmp 52) (.tmp 54) _ rfl W1.heap.size 46 i0 _ 2 16 Try.underlying31 Hi.out Hz0.out Hz1.out Hz2.out rfl (by omega) u2 a2.length (cellsQ a2) rfl HO1.out.ou (some ⟨we.heap.size, 0, none⟩) 1 1 [.int .i64 z0, .int .i64 z1] rfl rfl HS1.out (by simp [Value.oneCell']) (by have := HLA.out.1; unfold maxLen; omega) (by have := HLA.out.1; omega) HO1.out.q.size ?_; intro v' w' own' gr' hor; have Own := Lib.hid own'; have Gr := Lib.hid gr'; have Hor := Lib.hid hor; clear own' gr' hor)
                go_meet
                have h2 := H2.out
                refine ⟨v', v2, u2.ownBlock, rfl, rfl, ?_, grown_trans (grows_q ((Q.refl we).alloc _) _) Gr.out, .inr (.inl rfl)⟩
                rw [if_pos h2, if_neg (by omega)]
                exact HO1.out.push Own.out Gr.out Hor.out
              · have d2 : (wy.1 == 2) = false := beq_eq_false_iff_ne.2 h2
                by_cases h3 : wy.1 = 3
                · have d3 : (wy.1 == 3) = true := beq_iff_eq.2 h3
                  have H3 := Lib.hid h3
                  have HO1 := Lib.hid (HAe.out.swap.more ((Q.refl we).alloc (Obj.cells #[.int .i64 z0, .int .i64 z1] 46)))
                  have HS1 := Lib.hid (src_alloc we [.int .i64 z0, .int .i64 z1] 46 (0, 0))
                  clear h2 h3
                  go_wp2_with (at_builtin; refine wpList_append_src _ rfl (.tmp 58) (.tmp 60) _ rfl W1.heap.size 46 i0 _ 2 16 Try.underlying31 Hi.out Hz0.out Hz1.out Hz2.out rfl (by omega) v2 c2.length (cellsQ c2) rfl HO1.out.ou (some ⟨we.heap.size, 0, none⟩) 1 1 [.int .i64 z0, .int .i64 z1] rfl rfl HS1.out (by simp [Value.oneCell']) (by have := HLA.out.2; unfold maxLen; omega) (by have := HLA.out.2; omega) HO1.out.q.size ?_; intro v' w' own' gr' hor; have Own := Lib.hid own'; have Gr := Lib.hid gr'; have Hor := Lib.hid hor; clear own' gr' hor)
                  go_meet
                  have h3 := H3.out
                  refine ⟨u2, v', v2.ownBlock, rfl, rfl, ?_, grown_trans (grows_q ((Q.refl we).alloc _) _) Gr.out, .inr (.inr rfl)⟩
                  rw [if_neg (by omega), if_pos h3]
                  exact (HO1.out.push Own.out Gr.out Hor.out).swap
                · have d3 : (wy.1 == 3) = false := beq_eq_false_iff_ne.2 h3
                  have H2 := Lib.hid h2
                  have H3 := Lib.hid h3
                  clear h2 h3
                  go_wp2_with fail
                  go_meet
                  refine ⟨u2, v2, none, rfl, rfl, ?_, q_grown (Q.refl _), .inl rfl⟩
                  rw [if_neg H2.out, if_neg H3.out]
                  exact HAe.out
            case rest =>
              obtain ⟨u3, v3, row, rfl, rfl, hA3, hgr3, hrow⟩ := hcut
              have hnm : ∀ (b : Nat) (es : Array MapEntry) (cl : Nat), we.heap[b]? = some (.map es cl) → some b ≠ row := fun b es cl hb => by
                rcases hrow with h | h | h
                · rw [h]; simp
                · rw [h]; exact row_ne_map HAe.out.ou hb
                · rw [h]; exact row_ne_map HAe.out.ov hb
              have hni : ∀ (b : Nat) (o : Obj), we.heap[b]? = some o → (∀ cs t fr, o ≠ .cells cs t fr) → some b ≠ row := fun b o hb ho => by
                rcases hrow with h | h | h
                · rw [h]; simp
                · rw [h]; exact row_ne_iter HAe.out.ou hb ho
                · rw [h]; exact row_ne_iter HAe.out.ov hb ho
              have hlt5 : ∀ g, row = some g → g < wb5 := fun g hg => by
                rcases hrow with h | h | h
                · rw [h] at hg; cases hg
                · exact HFW.out.1 g (by rw [← h]; exact hg)
                · exact HFW.out.2 g (by rw [← h]; exact hg)
              have hlta : ∀ ad, A5 = some ad → row ≠ some ad.block := fun ad e hg => by
                rcases hrow with h | h | h
                · rw [h] at hg; cases hg
                · have := (HFA.out ad e).1 ad.block (by rw [← h]; exact hg); omega
                · have := (HFA.out ad e).2 ad.block (by rw [← h]; exact hg); omega
              obtain ⟨es1, cl1, hm1⟩ := ranges_map HRe.out
              obtain ⟨ob1, hi1, ho1, _⟩ := ranges_iter HRe.out
              obtain ⟨es2, cl2, hm2⟩ := HNe.out.isMap
              have HR3 := Lib.hid (HRe.out.kept hgr3 (hnm lb es1 cl1 hm1) (hni rb ob1 hi1 ho1))
              have HN3 := Lib.hid (HNe.out.grown hgr3 (hnm nb es2 cl2 hm2))
              have HA3 := Lib.hid hA3
              have HP3 := Lib.hid (rds_row HR5.out hgr3 hlta)
              have k1 : wc.cell? ⟨wb5, 1, none⟩ = some (.slice A5 wy.2.length c5) := (World.cell?_of_block (a := ⟨wb5, 1, none⟩) (hgr3.block wb5 HBW.out.1 (fun e => by have := hlt5 wb5 e.symm; omega))).trans (HBW.out.2 1 _ rfl).1
              clear hnm hni hlt5 hlta hm1 hi1 ho1 hm2 hA3 hgr3 hrow HRe HNe HAe HR5 HBW HBZe HFA HFW
              go_wp2_with fail
              clear k1
              go_loopw [65] (fun iv wr => ∃ k : Nat, k ≤ wy.2.length ∧ iv = .int .i64 k ∧ Hid (wr.ranges Try.prog 46 unitElem lb rb Lf.length D (fun x => left x && !x.sameKey (keyL (z0, z1))) cnt2) ∧ Hid (SetP wr nb (N ++ addN C2 (wy.2.take k))) ∧ Hid (AW W1 wr cb (addF C2 (wy.2.take k)) u3 v3 (if wy.1 = 2 then a2 ++ [(z0, z1)] else a2) (if wy.1 = 3 then c2 ++ [(z0, z1)] else c2)) ∧ Hid (Rds wr wr.heap.size A5 (cellsQ wy.2))) (fun iv _ => wy.2.length - (intOf iv).toNat)
              case atStart => exact ⟨0, Nat.zero_le _, rfl, HR3, Lib.hid (by simpa [addN, addF] using HN3.out), Lib.hid (by simpa [addF] using HA3.out), HP3⟩
              case round =>
                clear HR3 HN3 HA3 HP3
                obtain ⟨k, hk, rfl, HRk, HNk, HAk, HPk⟩ := hrel
                have hk18 : k ≤ 18 := Nat.le_trans hk HW18b.out
                by_cases hkl : k < wy.2.length
                · obtain ⟨ad, rfl, had, e0, e1⟩ := pair_at HPk.out hkl
                  have d0 : decide ((k : Int) < (wy.2.length : Int)) = true := decide_eq_true (by omega)
                  have d0n : decide (k < wy.2.length) = true := decide_eq_true hkl
                  have i0 : (k : Int) < (wy.2.length : Int) := by omega
                  have i1 : (0 : Int) ≤ (k : Int) := Int.natCast_nonneg _
                  have hpl := HST.out _ (List.getElem_mem hkl)
                  have hks1 : ks.length ≤ 1000000 := by have := HKS.out; omega
                  have HQW : Hid (WfP wy.2[k]) := ⟨wf_place hpl.1 hks1, wf_place hpl.2 hks1⟩
                  have HTK : Hid (wy.2.take (k + 1) = wy.2.take k ++ [wy.2[k]]) := List.take_succ_eq_append_getElem hkl
                  have HKL := Lib.hid hkl
                  generalize wy.2[k] = qq at *
                  obtain ⟨p0, p1⟩ := qq
                  have qb := (Q.refl wr).alloc (Obj.cells #[.int .i64 p0, .int .i64 p1] 46)
                  have HBQ := Lib.hid (Ex.own_new8 wr [.int .i64 p0, .int .i64 p1] 46)
                  have HR6 := Lib.hid (ranges_q HRk.out qb)
                  have HN6 := Lib.hid (HNk.out.q qb)
                  have HA6 := Lib.hid (HAk.out.more qb)
                  have HP6 := Lib.hid (HPk.out.q qb)
                  clear hpl hks1 qb HRk HNk HAk HPk
                  go_upto_region 17 with fail
                  clear e0 e1
                  generalize hqb : wr.heap.size = qb at *
                  generalize wr.alloc (Obj.cells #[.int .i64 p0, .int .i64 p1] 46) = w6 at *
                  have hlenC : (addF C2 (wy.2.take k)).length ≤ 1000000 := by
                    have h1 := addF_len (wy.2.take k) C2
                    have h2 := HI2.out.len HS.out
                    have hk2 : ks.length * ks.length ≤ 100 * 100 := Nat.mul_le_mul HKS.out HKS.out
                    rw [List.length_take] at h1
                    omega
                  have hlenN : (N ++ addN C2 (wy.2.take k)).length ≤ 1000000 := by
                    have h1 := addN_len C2 (wy.2.take k)
                    have h2 := HLEN2.out
                    rw [List.length_append]; omega
                  have CA := Lib.hid (add10_any cb _ (p0, p1) w6 HA6.out.come HQW.out hlenC)
                  obtain ⟨bq, hbq⟩ : ∃ b, (!decide ((p0, p1) ∈ addF C2 (wy.2.take k))) = b := ⟨_, rfl⟩
                  unfold Hid at CA
                  rw [hbq] at CA
                  have CA1 := Lib.hid CA
                  have HBQ2 := Lib.hid hbq
                  have HLN := Lib.hid hlenN
                  obtain ⟨y0, _⟩ := HBQ.out.2 0 _ rfl
                  obtain ⟨y1, _⟩ := HBQ.out.2 1 _ rfl
                  clear CA hbq hlenC hlenN
                  go_wp2_with fail
                  refine CA1.out.mono ?_
                  rintro e w7 ⟨rfl, hs7, hg7⟩
                  obtain ⟨es3, cl3, hm3⟩ := HA6.out.come.isMap
                  have hne6 : qb ≠ cb := cell_ne_map y0 hm3
                  have HBQ7 : Hid (w7.cell? ⟨qb, 0, none⟩ = some (.int .i64 p0) ∧ w7.cell? ⟨qb, 1, none⟩ = some (.int .i64 p1)) :=
                    ⟨(World.cell?_of_block (a := ⟨qb, 0, none⟩) (hg7.block qb HBQ.out.1 (fun e => hne6 (by injection e)))).trans y0, (World.cell?_of_block (a := ⟨qb, 1, none⟩) (hg7.block qb HBQ.out.1 (fun e => hne6 (by injection e)))).trans y1⟩
                  have HN7 := Lib.hid (HN6.out.grown hg7 (fun e => by have := HNN.out.2.1; injection e; omega))
                  have HR7 := Lib.hid (HR6.out.kept hg7 (fun e => HNE.out (by injection e with e; exact e.symm)) (fun e => HRD.out.1 (by injection e with e; exact e.symm)))
                  have HP7 := Lib.hid (rds_map HP6.out hg7 hm3)
                  have HA7 := Lib.hid (HA6.out.came hg7 hs7)
                  clear hs7 hg7 hm3 hne6 y0 y1 HN6 HR6 HP6 HA6 HBQ
                  cases bq
                  · have hin : (p0, p1) ∈ addF C2 (wy.2.take k) := by have := HBQ2.out; simpa using this
                    have HE : Hid (addF C2 (wy.2.take (k + 1)) = addP (addF C2 (wy.2.take k)) (p0, p1) ∧ addN C2 (wy.2.take (k + 1)) = addN C2 (wy.2.take k)) := ⟨by rw [HTK.out, addF_snoc], by rw [HTK.out, addN_snoc, if_pos hin]⟩
                    clear hin
                    go_wp2_with fail
                    go_roundw
                    case rel =>
                      have hkl := HKL.out
                      exact ⟨k + 1, hkl, by go_num, HR7, Lib.hid (by rw [HE.out.2]; exact HN7.out), Lib.hid (by rw [HE.out.1]; exact HA7.out), HP7⟩
                    case measure => have hkl := HKL.out; simp [intOf]; omega
                  · have hout : (p0, p1) ∉ addF C2 (wy.2.take k) := by have := HBQ2.out; simpa using this
                    have hoN : (p0, p1) ∉ N ++ addN C2 (wy.2.take k) := by
                      rw [List.mem_append]
                      rintro (h | h)
                      · exact hout (addF_mem.2 (.inl (HI2.out.sub _ (.inl h))))
                      · exact hout ((addN_mem HI2.out.nd).1 h).1
                    have HE : Hid (addF C2 (wy.2.take (k + 1)) = addP (addF C2 (wy.2.take k)) (p0, p1) ∧ N ++ addN C2 (wy.2.take (k + 1)) = addP (N ++ addN C2 (wy.2.take k)) (p0, p1)) := ⟨by rw [HTK.out, addF_snoc], by rw [HTK.out, addN_snoc, if_neg hout]; unfold addP; rw [if_neg hoN, List.append_assoc]⟩
                    have CB := Lib.hid (add10_any nb _ (p0, p1) w7 HN7.out HQW.out HLN.out)
                    obtain ⟨y0, y1⟩ := HBQ7.out
                    clear hout hoN
                    go_wp2_with fail
                    refine CB.out.mono ?_
                    rintro e w8 ⟨rfl, hs8, hg8⟩
                    obtain ⟨es4, cl4, hm4⟩ := HN7.out.isMap
                    have hnb1 : W1.heap.size ≤ nb := HNN.out.1
                    have hnb2 : cb ≠ nb := Nat.ne_of_lt HNN.out.2.1
                    have hnb3 : lb ≠ nb := Nat.ne_of_lt HNN.out.2.2
                    have HA8 := Lib.hid (HA7.out.grow hg8 hm4 hnb1 hnb2)
                    have HR8 := Lib.hid (HR7.out.kept hg8 (fun e => hnb3 (by injection e)) (fun e => HRD.out.2.1 (by injection e with e; exact e.symm)))
                    have HP8 := Lib.hid (rds_map HP7.out hg8 hm4)
                    have HN8 := Lib.hid hs8
                    clear hs8 hg8 hm4 hnb1 hnb2 hnb3 y0 y1 HN7 HR7 HP7 HA7
                    go_wp2_with fail
                    go_roundw
                    case rel =>
                      have hkl := HKL.out
                      exact ⟨k + 1, hkl, by go_num, HR8, Lib.hid (by rw [HE.out.2]; exact HN8.out), Lib.hid (by rw [HE.out.1]; exact HA8.out), HP8⟩
                    case measure => have hkl := HKL.out; simp [intOf]; omega
                · have hke : k = wy.2.length := by omega
                  have d0 : decide ((k : Int) < (wy.2.length : Int)) = false := decide_eq_false (by omega)
                  have d0n : decide (k < wy.2.length) = false := decide_eq_false hkl
                  have HTE : Hid (wy.2.take k = wy.2) := by unfold Hid; rw [hke, List.take_length]
                  clear hke hkl
                  go_wp2_with fail
                  go_roundw
                  case rel =>
                    refine ⟨u3, v3, addF C2 wy.2, N ++ addN C2 wy.2, _, _, _, cnt2, rfl, rfl, HRk, Lib.hid (HNX2.out.congr fun u => ?_), Lib.hid (by have := HNk.out; rwa [HTE.out] at this), Lib.hid (by have := HAk.out; rwa [HTE.out] at this), Lib.hid (fun u hu hl => ?_), Lib.hid (by have h1 := addN_len C2 wy.2; have h2 := HLEN2.out; rw [List.length_append]; omega)⟩
                    · have hzn : (z0, z1) ∉ N := fun h => HNL.out _ h HLK.out
                      rw [List.mem_append, leftP_strike HZ.out, addN_mem HI2.out.nd]
                      constructor
                      · rintro ((h | ⟨h1, h2⟩) | ⟨h1, h2⟩)
                        · exact .inl ⟨.inl h, fun e => hzn (e ▸ h)⟩
                        · exact .inr ⟨h1, h2⟩
                        · exact .inl ⟨.inr h1, h2⟩
                      · rintro (⟨h | h, h2⟩ | h)
                        · exact .inl (.inl h)
                        · exact .inr ⟨h, h2⟩
                        · exact .inl (.inr h)
                    · rw [leftP_strike HZ.out] at hl
                      rcases List.mem_append.1 hu with h | h
                      · exact HNL.out u h hl.1
                      · exact ((addN_mem HI2.out.nd).1 h).2 (HI2.out.sub u (.inr hl.1))
                  case measure =>
                    have h1 := HRk.out.left_eq
                    have h2 := HML.out
                    have h3 := HLT.out
                    simp only [h1, h2]
                    omega
end Go.Proofs.Ytjehccemilefgaa.St

namespace Go.Proofs.Ytjehccemilefgaa.Sg
open Go.ChangeShapes Go.WideShapes Go.RowKit Kit Go.Deep Go.Joins

section
variable {H : Type} {enc : TypeId × Value → H} {W : World} {base : Nat}
set_option maxRecDepth 100000 in
theorem open_sigs {v : Value} {d : DataW H} {p : List MemPlace} (hv : Value.okWide Try.prog W .any base 22 v) (h : DataW.Trod enc Try.prog W 0 (fun _ => true) true 22 v d p) :
    ∃ A n c l, v = .slice A n c ∧ n = l.length ∧ Row W W.heap.size A l ∧ l.length ≤ maxLen ∧ Sized l ∧ n ≤ c := by
  obtain ⟨a, len, cap, rfl⟩ := okWide_slice Try.underlying22 hv
  obtain ⟨fuel, hf⟩ := h
  rcases open_slice_pairs Try.underlying22 Try.underlying55 (by kernel_rfl) rfl rfl (by kernel_rfl) (by kernel_rfl) hf with ⟨h0, _⟩ | ⟨ad, len', cap', m, n, V0, V1, D0, D1, P0, P1, hcs, _, hl, hm, hmm, _, hi⟩
  · simp only [Value.cells, List.cons.injEq, Value.slice.injEq, and_true] at h0
    obtain ⟨rfl, rfl, rfl⟩ := h0
    exact ⟨_, _, _, [], rfl, rfl, fun h => absurd h (by simp), by simp, (fun s hs => by cases hs), Nat.le_refl _⟩
  · simp only [Value.cells, List.cons.injEq, Value.slice.injEq, and_true] at hcs
    obtain ⟨rfl, rfl, rfl⟩ := hcs
    have hlm : len ≤ m := by rw [hmm]; split <;> omega
    have each : ∀ i, i < len → ∃ s : Sig, W.cell? (ad.add (i * 2)) = some (.string s.1) ∧ W.cell? (ad.add (i * 2 + 1)) = some (.string s.2) ∧ s.1.size ≤ maxLen ∧ s.2.size ≤ maxLen := fun i hil => by
      obtain ⟨c0, c1, t0, t1⟩ := hi i (by omega)
      obtain ⟨s0, e0, _, z0⟩ := DataW.trod_string Try.underlying9 t0
      obtain ⟨s1, e1, _, z1⟩ := DataW.trod_string Try.underlying9 t1
      simp only [List.cons.injEq, and_true] at e0 e1
      exact ⟨(s0, s1), by rw [c0, e0], by rw [c1, e1], z0, z1⟩
    obtain ⟨q, hq⟩ := choose_lt each
    refine ⟨_, _, _, (List.range len).map q, rfl, by simp, fun h0 => ⟨ad, rfl, ?_, fun i s hs => ?_⟩, by simp; omega, fun s hs => ?_, hl⟩
    · have := (hq 0 (by simpa using h0)).1
      have := World.block_lt_of_cell? W _ this
      rwa [add_block] at this
    · have hil : i < len := by
        have := (List.getElem?_eq_some_iff.1 hs).1
        simpa using this
      have e : s = q i := by
        rw [List.getElem?_map, List.getElem?_range hil] at hs
        simpa using hs.symm
      subst e
      obtain ⟨c0, c1, _, _⟩ := hq i hil
      rw [add_succ] at c1
      exact ⟨c0, c1⟩
    · simp only [List.mem_map, List.mem_range] at hs
      obtain ⟨i, hil, rfl⟩ := hs
      exact (hq i hil).2.2
end
end Go.Proofs.Ytjehccemilefgaa.Sg

namespace Go.Proofs.Ytjehccemilefgaa.Tm
open Go.RowKit Kit Hs

def of10B (l : List Sg.Sig) (ks : List (List Int)) (sl : List Int) : Bool := decide (l.length ≤ 64) && Sg.rightB l && fewB ks sl.length && storeB l ks sl

set_option maxRecDepth 100000 in
set_option maxHeartbeats 1000000 in
theorem of10_any (L A S : Option Addr) (nl cl n c m d : Nat) (l : List Sg.Sig) (ks : List (List Int)) (sl : List Int) (w : World) (hnl : nl = l.length) (hr : Sg.Row w w.heap.size L l) (hn : n = ks.length) (hm : m = sl.length) (hk : Keys w w.heap.size A ks) (hS : Ints w w.heap.size S sl)
    (hll : l.length ≤ maxLen) (hsz : Sg.Sized l) (hl : ks.length ≤ 1152921504606846976) (hs : ∀ k ∈ ks, k.length ≤ 1152921504606846976) (hsl : sl.length ≤ 1152921504606846976) :
    Calls Try.prog 10 #[.slice L nl cl, .agg #[.slice A n c, .slice S m d]] w fun e w' => e = .returned (.bool (of10B l ks sl)) ∧ Q w w' := by
  subst hnl
  subst hn
  subst hm
  have q0 := (Q.refl w).alloc (Obj.cells #[Value.slice A ks.length c, Value.slice S sl.length d] 26)
  have Hr := Lib.hid ((hr.q (Nat.le_refl _) q0).more q0.size)
  have Hk := Lib.hid ((hk.q (Nat.le_refl _) q0).more q0.size)
  have HS := Lib.hid ((hS.q (Nat.le_refl _) q0).more q0.size)
  have HB := Lib.hid (BoxT.new w (Value.slice A ks.length c) (Value.slice S sl.length d) 26)
  have HsM := Lib.hid hs
  have HD : Hid (of10B l ks sl = (decide (l.length ≤ 64) && Sg.rightB l && fewB ks sl.length && storeB l ks sl)) := rfl
  clear hr hk hS hs
  by_cases h64 : l.length ≤ 64
  · have d64 : decide ((l.length : Int) ≤ 64) = true := decide_eq_true (by omega)
    cases hR : Sg.rightB l
    · have HR : Hid (of10B l ks sl = false) := by unfold Hid; rw [HD.out, hR, Bool.and_false]; rfl
      go_enter Try.func10, Try.ntmps10
      go_wp2_with fail
      refine (Sg.refRight_any _ _ _ l _ rfl Hr.out hll hsz).mono ?_
      rintro e w1 ⟨rfl, rfl⟩
      go_wp2_with fail
      go_ret
      exact ⟨by rw [HR.out]; rfl, q0⟩
    · cases hf : fewB ks sl.length
      · have HR : Hid (of10B l ks sl = false) := by unfold Hid; rw [HD.out, hf, Bool.and_false]; rfl
        go_enter Try.func10, Try.ntmps10
        go_wp2_with fail
        refine (Sg.refRight_any _ _ _ l _ rfl Hr.out hll hsz).mono ?_
        rintro e w1 ⟨rfl, rfl⟩
        go_wp2_with fail
        refine (refFew_any _ _ _ _ _ _ ks _ rfl Hk.out hl HsM.out hsl).mono ?_
        rintro e w2 ⟨rfl, q2⟩
        go_wp2_with fail
        go_ret
        exact ⟨by rw [HR.out]; rfl, q0.trans q2⟩
      · have HR : Hid (of10B l ks sl = storeB l ks sl) := by unfold Hid; rw [HD.out, decide_eq_true h64, hR, hf]; rfl
        have hsum := few_sum hf
        go_enter Try.func10, Try.ntmps10
        go_wp2_with fail
        generalize w.alloc (Obj.cells #[Value.slice A ks.length c, Value.slice S sl.length d] 26) = W0 at *
        refine (Sg.refRight_any _ _ _ l _ rfl Hr.out hll hsz).mono ?_
        rintro e w1 ⟨rfl, rfl⟩
        have b0 := HB.out.c0
        have b1 := HB.out.c1
        go_wp2_with fail
        refine (refFew_any _ _ _ _ _ _ ks _ rfl Hk.out hl HsM.out hsl).mono ?_
        rintro e w2 ⟨rfl, q2⟩
        clear b0 b1
        have b0 := (HB.out.q q2).c0
        have b1 := (HB.out.q q2).c1
        go_wp2_with fail
        refine (refRight3_any _ _ _ _ _ _ _ _ _ l ks sl _ rfl ((Hr.out.q (Nat.le_refl _) q2).more q2.size) rfl rfl ((Hk.out.q (Nat.le_refl _) q2).more q2.size) ((HS.out.q (Nat.le_refl _) q2).more q2.size) (fun k hk => by have := mem_len hk; unfold maxLen; omega) (by omega) (by unfold maxLen; omega)).mono ?_
        rintro e w3 ⟨rfl, q3⟩
        go_wp2_with fail
        go_ret
        exact ⟨by rw [HR.out]; rfl, (q0.trans q2).trans q3⟩
  · have d64 : decide ((l.length : Int) ≤ 64) = false := decide_eq_false (by omega)
    have HR : Hid (of10B l ks sl = false) := by unfold Hid; rw [HD.out, decide_eq_false h64]; rfl
    go_enter Try.func10, Try.ntmps10
    go_wp2_with fail
    go_ret
    exact ⟨by rw [HR.out]; rfl, q0⟩

end Go.Proofs.Ytjehccemilefgaa.Tm

namespace Go.Proofs.Ytjehccemilefgaa.Rw
open Go.ChangeShapes Go.WideShapes Go.RowKit Kit Go.Deep Go.Joins

theorem weights_all {H : Type} {P : Program} {e : TypeId} : ∀ {ds : List (DataW H)} {d : DataW H}, d ∈ ds → ∀ n ∈ d.weights P e, n ∈ DataW.weightsAll P e ds
  | x :: l, d, h, n, hn => by
    simp only [DataW.weightsAll, List.mem_append]
    rcases List.mem_cons.1 h with rfl | h
    · exact .inl hn
    · exact .inr (weights_all h n hn)
section
variable {H : Type} {enc : TypeId × Value → H} {P : Program} {w : World} {base : Nat} {spare : Nat → Bool} {held : Bool}
end
end Go.Proofs.Ytjehccemilefgaa.Rw
