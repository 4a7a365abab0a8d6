/-
  StepTells holds.
-/
import Derived.Test.YtjehccemilefgaaPf
import Derived.Test.YtjehccemilefgaaPk
import Derived.Test.YtjehccemilefgaaRows
import Derived.OpenShut
import Derived.RegionTactic
import Derived.Deep.CutBlock
namespace Go.Proofs.Ytjehccemilefgaa.stepTells
open Go.ChangeShapes Go.WideShapes Go.ChangeAt Go.RowKit Kit Rw Ex St
open Go.Proofs.Ytjehccemilefgaa.Sg (Sig Row Sized)
open Go.Proofs.Ytjehccemilefgaa.Hs (Ints Keys BoxT)
open Go.Proofs.Ytjehccemilefgaa.Tm (Tm Store termAt isPl isPl_iff Wf of10B)
open Go.Proofs.Ytjehccemilefgaa.Ld (tmP)
set_option maxRecDepth 100000 in
set_option maxHeartbeats 16000000 in
theorem walk (R A S : Option Addr) (nl cl n c m d : Nat) (L : List Sig) (ks : List (List Int)) (sl : List Int) (x y : Int) (side : UInt8) (w : World) (hnl : nl = L.length) (hr : Row w w.heap.size R L) (hll : L.length ≤ maxLen) (hsz : Sized L) (hn : n = ks.length) (hm : m = sl.length) (hk : Keys w w.heap.size A ks) (hSi : Ints w w.heap.size S sl) (hl : ks.length ≤ 1152921504606846976) (hs : ∀ k ∈ ks, k.length ≤ 1152921504606846976) (hsl : sl.length ≤ 1152921504606846976) (hcap : n ≤ c) (_hx : (Lit.int .i64 x).wf = true) (_hy : (Lit.int .i64 y).wf = true) :
    Calls Try.prog 3 #[.agg #[.slice R nl cl, .slice A n c, .slice S m d, .int .i64 x, .int .i64 y, .int .u8 (side.toNat : Int)]] w fun e w' => e = .returned (.bool true) ∧ Q w w' := by
  subst hnl hn hm
  have HQ0 := Lib.hid (((Q.refl w).alloc (Obj.cells #[.slice R L.length cl, .slice A ks.length c, .slice S sl.length d, .int .i64 x, .int .i64 y, .int .u8 (side.toNat : Int)] 28)).alloc (Obj.cells #[Value.slice A ks.length c, Value.slice S sl.length d] 26))
  have HX := Lib.hid (own_new8 w [.slice R L.length cl, .slice A ks.length c, .slice S sl.length d, .int .i64 x, .int .i64 y, .int .u8 (side.toNat : Int)] 28)
  have HT := Lib.hid (BoxT.new (w.alloc (Obj.cells #[.slice R L.length cl, .slice A ks.length c, .slice S sl.length d, .int .i64 x, .int .i64 y, .int .u8 (side.toNat : Int)] 28)) (Value.slice A ks.length c) (Value.slice S sl.length d) 26)
  have HRow := Lib.hid hr
  have HKy := Lib.hid hk
  have CF := Lib.hid (fun (U : World) (p : Q w U) => Tm.of10_any R A S L.length cl ks.length c sl.length d L ks sl U rfl ((hr.q (Nat.le_refl _) p).more p.size) rfl rfl ((hk.q (Nat.le_refl _) p).more p.size) ((hSi.q (Nat.le_refl _) p).more p.size) hll hsz hl hs hsl)
  clear hr hll hsz hk hSi hl hs hsl
  cases hof : of10B L ks sl
  · rw [hof] at CF
    clear hof
    go_enter Try.func3, Try.ntmps3
    go_upto_region 1 with fail
    generalize hW : w.alloc (Obj.cells #[.slice R L.length cl, .slice A ks.length c, .slice S sl.length d, .int .i64 x, .int .i64 y, .int .u8 (side.toNat : Int)] 28) = W at *
    clear hW
    have x0 := (HX.out.2 0 _ rfl).1
    have x1 := (HX.out.2 1 _ rfl).1
    have x2 := (HX.out.2 2 _ rfl).1
    have HX2 := Lib.hid (HX.out.q ((Q.refl W).alloc (Obj.cells #[Value.slice A ks.length c, Value.slice S sl.length d] 26)))
    go_upto_region 3 with fail
    generalize hV : W.alloc (Obj.cells #[Value.slice A ks.length c, Value.slice S sl.length d] 26) = V at *
    clear hV x0 x1 x2
    have x3 := (HX2.out.2 3 _ rfl).1
    have x4 := (HX2.out.2 4 _ rfl).1
    have x5 := (HX2.out.2 5 _ rfl).1
    go_upto_region 6 with fail
    clear x3 x4 x5
    go_wp2_with fail
    refine (shown10_any _).mono ?_
    rintro e w1 ⟨rfl, q1⟩
    have p1 := Lib.hid (HQ0.out.trans q1)
    have b0 := (HT.out.q q1).c0
    have b1 := (HT.out.q q1).c1
    have HT1 := Lib.hid (HT.out.q q1)
    clear q1
    go_wp2_with fail
    refine (CF.out _ p1.out).mono ?_
    rintro e w2 ⟨rfl, q2⟩
    have p2 := Lib.hid (p1.out.trans q2)
    have HT2 := Lib.hid (HT1.out.q q2)
    clear q2 b0 b1
    have b0 := HT2.out.c0
    have b1 := HT2.out.c1
    go_wp2_with fail
    go_ret
    exact ⟨rfl, p2.out⟩
  · rw [hof] at CF
    obtain ⟨hS, hl8, hs5, h2k⟩ := of10_ok hof
    clear hof
    obtain ⟨⟨kd, ps⟩, hw⟩ : ∃ p, stepF L ks x y = p := ⟨_, rfl⟩
    have CT : Hid (∀ U, Q w U → Calls Try.prog 11 #[.slice R L.length cl, .agg #[.slice A ks.length c, .slice S sl.length d], .int .i64 x, .int .i64 y] U fun e w' => ∃ A c, e = .returned (.agg #[.int .i64 kd, .slice A ps.length c]) ∧ Rds w' w'.heap.size A (cellsQ ps) ∧ Q U w') := fun U p => by
      have := step10_any R A S L.length cl ks.length c sl.length d L ks x y U rfl ((HRow.out.q (Nat.le_refl _) p).more p.size) rfl ((HKy.out.q (Nat.le_refl _) p).more p.size) hS hl8 hs5 hcap
      rw [hw] at this
      refine this.mono ?_
      rintro e w' ⟨A1, c1, he, hr, hq, _⟩
      exact ⟨A1, c1, he, hr, hq⟩
    have hkk := step_kinds (L := L) (ks := ks) x y
    rw [hw] at hkk
    have HKK : Hid ((kd = 0 ∨ kd = 1 ∨ kd = 2 ∨ kd = 3) ∧ (kd = 1 ∨ ps = [])) := hkk
    have hlen := step_len hS hl8 x y
    rw [hw] at hlen
    have hpl : ps.length ≤ 18 := hlen
    obtain ⟨⟨kv, vs⟩, hv⟩ : ∃ p, stepF L ks y x = p := ⟨_, rfl⟩
    have CT2 : Hid (∀ U, Q w U → Calls Try.prog 11 #[.slice R L.length cl, .agg #[.slice A ks.length c, .slice S sl.length d], .int .i64 y, .int .i64 x] U fun e w' => ∃ A c, e = .returned (.agg #[.int .i64 kv, .slice A vs.length c]) ∧ Rds w' w'.heap.size A (cellsQ vs) ∧ Q U w') := fun U p => by
      have := step10_any R A S L.length cl ks.length c sl.length d L ks y x U rfl ((HRow.out.q (Nat.le_refl _) p).more p.size) rfl ((HKy.out.q (Nat.le_refl _) p).more p.size) hS hl8 hs5 hcap
      rw [hv] at this
      refine this.mono ?_
      rintro e w' ⟨A1, c1, he, hr, hq, _⟩
      exact ⟨A1, c1, he, hr, hq⟩
    have CR : Hid (∀ U, Q w U → Calls Try.prog 13 #[.slice R L.length cl, .agg #[.slice A ks.length c, .slice S sl.length d], .int .i64 x, .int .i64 y] U fun e w' => ∃ A c, e = .returned (.agg #[.int .i64 kd, .slice A ps.length c]) ∧ Rds w' w'.heap.size A (cellsQ ps) ∧ Q U w') := fun U p => by
      have := refStep10_any R A S L.length cl ks.length c sl.length d L ks x y U rfl ((HRow.out.q (Nat.le_refl _) p).more p.size) rfl ((HKy.out.q (Nat.le_refl _) p).more p.size) hS hl8
      rw [hw] at this
      refine this.mono ?_
      rintro e w' ⟨A1, c1, he, hr, hq, _⟩
      exact ⟨A1, c1, he, hr, hq⟩
    have hpl9 : ps.length ≤ 1000000 := by omega
    have CM : Hid (∀ (X Y : Option Addr) (a b : Nat) (U : World), Rds U U.heap.size X (cellsQ ps) → Rds U U.heap.size Y (cellsQ ps) → Calls Try.prog 12 #[.agg #[.int .i64 kd, .slice X ps.length a], .agg #[.int .i64 kd, .slice Y ps.length b]] U fun e w' => e = .returned (.bool true) ∧ Q U w') := fun X Y a b U h1 h2 => by
      have := refSame10_any X Y ps.length a ps.length b (kd, ps) (kd, ps) U rfl rfl h1 h2 hpl9
      rwa [(sameW_iff _ _).2 rfl] at this
    obtain ⟨sm, hsm⟩ : ∃ b, sameW (kd, ps) (kv, vs) = b := ⟨_, rfl⟩
    have CE1 : Hid (∀ (X Y : Option Addr) (a b : Nat) (U : World), Rds U U.heap.size X (cellsQ ps) → Rds U U.heap.size Y (cellsQ vs) → Calls Try.prog 16 #[.agg #[.int .i64 kd, .slice X ps.length a], .agg #[.int .i64 kv, .slice Y vs.length b]] U fun e w' => e = .returned (.bool sm) ∧ Q U w') := fun X Y a b U h1 h2 => by
      have := same10_any X Y ps.length a vs.length b (kd, ps) (kv, vs) U rfl rfl h1 h2 hpl9
      rwa [hsm] at this
    have CE2 : Hid (∀ (X Y : Option Addr) (a b : Nat) (U : World), Rds U U.heap.size X (cellsQ ps) → Rds U U.heap.size Y (cellsQ vs) → Calls Try.prog 12 #[.agg #[.int .i64 kd, .slice X ps.length a], .agg #[.int .i64 kv, .slice Y vs.length b]] U fun e w' => e = .returned (.bool sm) ∧ Q U w') := fun X Y a b U h1 h2 => by
      have := refSame10_any X Y ps.length a vs.length b (kd, ps) (kv, vs) U rfl rfl h1 h2 hpl9
      rwa [hsm] at this
    obtain ⟨bs, hbs⟩ : ∃ b, sidedF L ks x side = b := ⟨_, rfl⟩
    have CS1 : Hid (∀ U, Q w U → Calls Try.prog 14 #[.slice R L.length cl, .agg #[.slice A ks.length c, .slice S sl.length d], .int .i64 x, .int .u8 (side.toNat : Int)] U fun e w' => e = .returned (.bool bs) ∧ Q U w') := fun U p => by
      have := sided10_any R A S L.length cl ks.length c sl.length d L ks x side U rfl ((HRow.out.q (Nat.le_refl _) p).more p.size) rfl ((HKy.out.q (Nat.le_refl _) p).more p.size) hS hl8 hs5 hcap (by omega)
      rwa [hbs] at this
    have CS2 : Hid (∀ U, Q w U → Calls Try.prog 15 #[.slice R L.length cl, .agg #[.slice A ks.length c, .slice S sl.length d], .int .i64 x, .int .u8 (side.toNat : Int)] U fun e w' => e = .returned (.bool bs) ∧ Q U w') := fun U p => by
      have := refSided10_any R A S L.length cl ks.length c sl.length d L ks x side U rfl ((HRow.out.q (Nat.le_refl _) p).more p.size) rfl ((HKy.out.q (Nat.le_refl _) p).more p.size) hS hl8 (by omega)
      rwa [hbs] at this
    have hb1 : (bs == bs) = true := beq_self_eq_true _
    have hb2 : (sm == sm) = true := beq_self_eq_true _
    clear hkk HKK hlen hw hv hsm hbs hS hl8 hs5 h2k hcap hpl hpl9
    go_enter Try.func3, Try.ntmps3
    go_upto_region 1 with fail
    generalize hW : w.alloc (Obj.cells #[.slice R L.length cl, .slice A ks.length c, .slice S sl.length d, .int .i64 x, .int .i64 y, .int .u8 (side.toNat : Int)] 28) = W at *
    clear hW
    have x0 := (HX.out.2 0 _ rfl).1
    have x1 := (HX.out.2 1 _ rfl).1
    have x2 := (HX.out.2 2 _ rfl).1
    have HX2 := Lib.hid (HX.out.q ((Q.refl W).alloc (Obj.cells #[Value.slice A ks.length c, Value.slice S sl.length d] 26)))
    go_upto_region 3 with fail
    generalize hV : W.alloc (Obj.cells #[Value.slice A ks.length c, Value.slice S sl.length d] 26) = V at *
    clear hV x0 x1 x2
    have x3 := (HX2.out.2 3 _ rfl).1
    have x4 := (HX2.out.2 4 _ rfl).1
    have x5 := (HX2.out.2 5 _ rfl).1
    go_upto_region 6 with fail
    clear x3 x4 x5
    go_wp2_with fail
    refine (shown10_any _).mono ?_
    rintro e w1 ⟨rfl, q1⟩
    have p1 := Lib.hid (HQ0.out.trans q1)
    have b0 := (HT.out.q q1).c0
    have b1 := (HT.out.q q1).c1
    have HT1 := Lib.hid (HT.out.q q1)
    clear q1
    go_wp2_with fail
    refine (CF.out _ p1.out).mono ?_
    rintro e w2 ⟨rfl, q2⟩
    have p2 := Lib.hid (p1.out.trans q2)
    have HT2 := Lib.hid (HT1.out.q q2)
    clear q2 b0 b1
    have b0 := HT2.out.c0
    have b1 := HT2.out.c1
    go_wp2_with fail
    refine (CT.out _ p2.out).mono ?_
    rintro e w3 ⟨A3, c3, rfl, r3, q3⟩
    have HW := Lib.hid (BoxT.new w3 (.int .i64 kd) (.slice A3 ps.length c3) 33)
    have q3' := q3.alloc (Obj.cells #[.int .i64 kd, .slice A3 ps.length c3] 33)
    have HA3 := Lib.hid (r3.q ((Q.refl w3).alloc (Obj.cells #[.int .i64 kd, .slice A3 ps.length c3] 33)))
    have p3 := Lib.hid (p2.out.trans q3')
    have HT3 := Lib.hid (HT2.out.q q3')
    clear b0 b1 q3 r3 q3'
    go_upto_region 10 with fail
    generalize hV3 : w3.alloc (Obj.cells #[.int .i64 kd, .slice A3 ps.length c3] 33) = V3 at *
    clear hV3
    have b0 := HT3.out.c0
    have b1 := HT3.out.c1
    go_wp2_with fail
    refine (CT2.out _ p3.out).mono ?_
    rintro e w4 ⟨A4, c4, rfl, r4, q4⟩
    have HV := Lib.hid (BoxT.new w4 (.int .i64 kv) (.slice A4 vs.length c4) 33)
    have q4' := q4.alloc (Obj.cells #[.int .i64 kv, .slice A4 vs.length c4] 33)
    have HB4 := Lib.hid (r4.q ((Q.refl w4).alloc (Obj.cells #[.int .i64 kv, .slice A4 vs.length c4] 33)))
    have HW4 := Lib.hid (HW.out.q q4')
    have HA4 := Lib.hid (HA3.out.q q4')
    have p4 := Lib.hid (p3.out.trans q4')
    have HT4 := Lib.hid (HT3.out.q q4')
    clear b0 b1 q4 r4 q4'
    go_upto_region 11 with fail
    generalize hV4 : w4.alloc (Obj.cells #[.int .i64 kv, .slice A4 vs.length c4] 33) = V4 at *
    clear hV4
    refine wp_region_held_drew (S := fun w' => w'.cell? ⟨W.heap.size, 0, none⟩ = some (.slice A ks.length c) ∧ w'.cell? ⟨W.heap.size, 1, none⟩ = some (.slice S sl.length d) ∧ w'.cell? ⟨w3.heap.size, 0, none⟩ = some (.int .i64 kd) ∧ w'.cell? ⟨w3.heap.size, 1, none⟩ = some (.slice A3 ps.length c3) ∧ w'.cell? ⟨w4.heap.size, 0, none⟩ = some (.int .i64 kv) ∧ w'.cell? ⟨w4.heap.size, 1, none⟩ = some (.slice A4 vs.length c4)) (by kernel_rfl) ?_ (fun hHeld => ?_)
    · exact ⟨(HT4.out.q (Q.refl V4).drew).c0, (HT4.out.q (Q.refl V4).drew).c1, (HW4.out.q (Q.refl V4).drew).c0, (HW4.out.q (Q.refl V4).drew).c1, (HV.out.q (Q.refl V4).drew).c0, (HV.out.q (Q.refl V4).drew).c1⟩
    refine take_w (i := 0) (d := some 37) (v := ?_) rfl (by kernel_rfl) (by kernel_rfl) (by kernel_rfl) (fun _ _ _ h => h) rfl (by rfl) ?_ (by assumption) ?_
    rotate_left
    · (intro w hSw; (try dsimp only at hSw); go_simp; (try with_reducible rfl))
    try simp only [Act.put, List.setIfInBounds_toArray, List.set_cons_zero, List.set_cons_succ]
    refine take_w (i := 1) (d := some 38) (v := ?_) rfl (by kernel_rfl) (by kernel_rfl) (by kernel_rfl) (fun _ _ _ h => h) rfl (by rfl) ?_ (by assumption) ?_
    rotate_left
    · (intro w hSw; (try dsimp only at hSw); go_simp; (try with_reducible rfl))
    try simp only [Act.put, List.setIfInBounds_toArray, List.set_cons_zero, List.set_cons_succ]
    refine take_w (i := 2) (d := some 39) (v := ?_) rfl (by kernel_rfl) (by kernel_rfl) (by kernel_rfl) (fun _ _ _ h => h) rfl (by rfl) ?_ (by assumption) ?_
    rotate_left
    · (intro w hSw; (try dsimp only at hSw); go_simp; (try with_reducible rfl))
    try simp only [Act.put, List.setIfInBounds_toArray, List.set_cons_zero, List.set_cons_succ]
    refine take_w (i := 3) (d := some 40) (v := ?_) rfl (by kernel_rfl) (by kernel_rfl) (by kernel_rfl) (fun _ _ _ h => h) rfl (by rfl) ?_ (by assumption) ?_
    rotate_left
    · (intro w hSw; (try dsimp only at hSw); go_simp; (try with_reducible rfl))
    try simp only [Act.put, List.setIfInBounds_toArray, List.set_cons_zero, List.set_cons_succ]
    refine take_w (i := 4) (d := some 41) (v := ?_) rfl (by kernel_rfl) (by kernel_rfl) (by kernel_rfl) (fun _ _ _ h => h) rfl (by rfl) ?_ (by assumption) ?_
    rotate_left
    · (intro w hSw; (try dsimp only at hSw); go_simp; (try with_reducible rfl))
    try simp only [Act.put, List.setIfInBounds_toArray, List.set_cons_zero, List.set_cons_succ]
    refine take_w (i := 5) (d := some 42) (v := ?_) rfl (by kernel_rfl) (by kernel_rfl) (by kernel_rfl) (fun _ _ _ h => h) rfl (by rfl) ?_ (by assumption) ?_
    rotate_left
    · (intro w hSw; (try dsimp only at hSw); go_simp; (try with_reducible rfl))
    try simp only [Act.put, List.setIfInBounds_toArray, List.set_cons_zero, List.set_cons_succ]
    refine take_w (i := 6) (d := some 43) (v := ?_) rfl (by kernel_rfl) (by kernel_rfl) (by kernel_rfl) (fun _ _ _ h => h) rfl (by rfl) ?_ (by assumption) ?_
    rotate_left
    · (intro w hSw; (try dsimp only at hSw); go_simp; (try with_reducible rfl))
    try simp only [Act.put, List.setIfInBounds_toArray, List.set_cons_zero, List.set_cons_succ]
    refine call_w (i := 7) rfl (by kernel_rfl) (by rfl) (fun K hK => ?_)
    go_simp
    go_at_call 13
    refine (CR.out _ (p4.out.trans (Q.refl V4).drew)).mono ?_
    rintro e w5 ⟨A5, c5, rfl, r5, q5⟩
    have z5 := Lib.hid ((Q.refl V4).drew.trans q5)
    have R5 := Lib.hid r5
    clear q5 r5
    refine hK.out _ _ ?_ (fun hHeld => ?_)
    · exact ⟨(HT4.out.q z5.out).c0, (HT4.out.q z5.out).c1, (HW4.out.q z5.out).c0, (HW4.out.q z5.out).c1, (HV.out.q z5.out).c0, (HV.out.q z5.out).c1⟩
    clear hK K
    try simp only [Act.put, List.setIfInBounds_toArray, List.set_cons_zero, List.set_cons_succ]
    refine call_w (i := 8) rfl (by kernel_rfl) (by rfl) (fun K hK => ?_)
    go_simp
    go_at_call 12
    refine (CM.out _ _ _ _ _ (HA4.out.q z5.out) R5.out).mono ?_
    rintro e w6 ⟨rfl, q6⟩
    have z6 := Lib.hid (z5.out.trans q6)
    clear q6
    refine hK.out _ _ ?_ (fun hHeld => ?_)
    · exact ⟨(HT4.out.q z6.out).c0, (HT4.out.q z6.out).c1, (HW4.out.q z6.out).c0, (HW4.out.q z6.out).c1, (HV.out.q z6.out).c0, (HV.out.q z6.out).c1⟩
    clear hK K
    try simp only [Act.put, List.setIfInBounds_toArray, List.set_cons_zero, List.set_cons_succ]
    refine take_w (i := 9) (d := some 46) (v := ?_) rfl (by kernel_rfl) (by kernel_rfl) (by kernel_rfl) (fun _ _ _ h => h) rfl (by rfl) ?_ (by assumption) ?_
    rotate_left
    · (intro w hSw; (try dsimp only at hSw); go_simp; (try with_reducible rfl))
    try simp only [Act.put, List.setIfInBounds_toArray, List.set_cons_zero, List.set_cons_succ]
    refine take_w (i := 10) (d := some 47) (v := ?_) rfl (by kernel_rfl) (by kernel_rfl) (by kernel_rfl) (fun _ _ _ h => h) rfl (by rfl) ?_ (by assumption) ?_
    rotate_left
    · (intro w hSw; (try dsimp only at hSw); go_simp; (try with_reducible rfl))
    try simp only [Act.put, List.setIfInBounds_toArray, List.set_cons_zero, List.set_cons_succ]
    refine take_w (i := 11) (d := some 48) (v := ?_) rfl (by kernel_rfl) (by kernel_rfl) (by kernel_rfl) (fun _ _ _ h => h) rfl (by rfl) ?_ (by assumption) ?_
    rotate_left
    · (intro w hSw; (try dsimp only at hSw); go_simp; (try with_reducible rfl))
    try simp only [Act.put, List.setIfInBounds_toArray, List.set_cons_zero, List.set_cons_succ]
    refine take_w (i := 12) (d := some 49) (v := ?_) rfl (by kernel_rfl) (by kernel_rfl) (by kernel_rfl) (fun _ _ _ h => h) rfl (by rfl) ?_ (by assumption) ?_
    rotate_left
    · (intro w hSw; (try dsimp only at hSw); go_simp; (try with_reducible rfl))
    try simp only [Act.put, List.setIfInBounds_toArray, List.set_cons_zero, List.set_cons_succ]
    refine take_w (i := 13) (d := some 50) (v := ?_) rfl (by kernel_rfl) (by kernel_rfl) (by kernel_rfl) (fun _ _ _ h => h) rfl (by rfl) ?_ (by assumption) ?_
    rotate_left
    · (intro w hSw; (try dsimp only at hSw); go_simp; (try with_reducible rfl))
    try simp only [Act.put, List.setIfInBounds_toArray, List.set_cons_zero, List.set_cons_succ]
    refine take_w (i := 14) (d := some 51) (v := ?_) rfl (by kernel_rfl) (by kernel_rfl) (by kernel_rfl) (fun _ _ _ h => h) rfl (by rfl) ?_ (by assumption) ?_
    rotate_left
    · (intro w hSw; (try dsimp only at hSw); go_simp; (try with_reducible rfl))
    try simp only [Act.put, List.setIfInBounds_toArray, List.set_cons_zero, List.set_cons_succ]
    refine take_w (i := 16) (d := some 53) (v := ?_) rfl (by kernel_rfl) (by kernel_rfl) (by kernel_rfl) (fun _ _ _ h => h) rfl (by rfl) ?_ (by assumption) ?_
    rotate_left
    · (intro w hSw; (try dsimp only at hSw); go_simp; (try with_reducible rfl))
    try simp only [Act.put, List.setIfInBounds_toArray, List.set_cons_zero, List.set_cons_succ]
    refine take_w (i := 17) (d := some 54) (v := ?_) rfl (by kernel_rfl) (by kernel_rfl) (by kernel_rfl) (fun _ _ _ h => h) rfl (by rfl) ?_ (by assumption) ?_
    rotate_left
    · (intro w hSw; (try dsimp only at hSw); go_simp; (try with_reducible rfl))
    try simp only [Act.put, List.setIfInBounds_toArray, List.set_cons_zero, List.set_cons_succ]
    refine take_w (i := 18) (d := some 55) (v := ?_) rfl (by kernel_rfl) (by kernel_rfl) (by kernel_rfl) (fun _ _ _ h => h) rfl (by rfl) ?_ (by assumption) ?_
    rotate_left
    · (intro w hSw; (try dsimp only at hSw); go_simp; (try with_reducible rfl))
    try simp only [Act.put, List.setIfInBounds_toArray, List.set_cons_zero, List.set_cons_succ]
    refine take_w (i := 19) (d := some 56) (v := ?_) rfl (by kernel_rfl) (by kernel_rfl) (by kernel_rfl) (fun _ _ _ h => h) rfl (by rfl) ?_ (by assumption) ?_
    rotate_left
    · (intro w hSw; (try dsimp only at hSw); go_simp; (try with_reducible rfl))
    try simp only [Act.put, List.setIfInBounds_toArray, List.set_cons_zero, List.set_cons_succ]
    refine call_w (i := 15) rfl (by kernel_rfl) (by rfl) (fun K hK => ?_)
    go_simp
    go_at_call 14
    refine (CS1.out _ (p4.out.trans z6.out)).mono ?_
    rintro e w7 ⟨rfl, q7⟩
    have z7 := Lib.hid (z6.out.trans q7)
    clear q7
    refine hK.out _ _ ?_ (fun hHeld => ?_)
    · exact ⟨(HT4.out.q z7.out).c0, (HT4.out.q z7.out).c1, (HW4.out.q z7.out).c0, (HW4.out.q z7.out).c1, (HV.out.q z7.out).c0, (HV.out.q z7.out).c1⟩
    clear hK K
    try simp only [Act.put, List.setIfInBounds_toArray, List.set_cons_zero, List.set_cons_succ]
    refine call_w (i := 20) rfl (by kernel_rfl) (by rfl) (fun K hK => ?_)
    go_simp
    go_at_call 15
    refine (CS2.out _ (p4.out.trans z7.out)).mono ?_
    rintro e w8 ⟨rfl, q8⟩
    have z8 := Lib.hid (z7.out.trans q8)
    clear q8
    refine hK.out _ _ ?_ (fun hHeld => ?_)
    · exact ⟨(HT4.out.q z8.out).c0, (HT4.out.q z8.out).c1, (HW4.out.q z8.out).c0, (HW4.out.q z8.out).c1, (HV.out.q z8.out).c0, (HV.out.q z8.out).c1⟩
    clear hK K
    try simp only [Act.put, List.setIfInBounds_toArray, List.set_cons_zero, List.set_cons_succ]
    refine take_w (i := 21) (d := some 58) (v := ?_) rfl (by kernel_rfl) (by kernel_rfl) (by kernel_rfl) (fun _ _ _ h => h) rfl (by rfl) ?_ (by assumption) ?_
    rotate_left
    · (intro w hSw; (try dsimp only at hSw); go_simp; (try with_reducible rfl))
    try simp only [Act.put, List.setIfInBounds_toArray, List.set_cons_zero, List.set_cons_succ]
    refine take_w (i := 22) (d := some 59) (v := ?_) rfl (by kernel_rfl) (by kernel_rfl) (by kernel_rfl) (fun _ _ _ h => h) rfl (by rfl) ?_ (by assumption) ?_
    rotate_left
    · (intro w hSw; (try dsimp only at hSw); go_simp; (try with_reducible rfl))
    try simp only [Act.put, List.setIfInBounds_toArray, List.set_cons_zero, List.set_cons_succ]
    refine take_w (i := 23) (d := some 60) (v := ?_) rfl (by kernel_rfl) (by kernel_rfl) (by kernel_rfl) (fun _ _ _ h => h) rfl (by rfl) ?_ (by assumption) ?_
    rotate_left
    · (intro w hSw; (try dsimp only at hSw); go_simp; (try with_reducible rfl))
    try simp only [Act.put, List.setIfInBounds_toArray, List.set_cons_zero, List.set_cons_succ]
    refine take_w (i := 24) (d := some 61) (v := ?_) rfl (by kernel_rfl) (by kernel_rfl) (by kernel_rfl) (fun _ _ _ h => h) rfl (by rfl) ?_ (by assumption) ?_
    rotate_left
    · (intro w hSw; (try dsimp only at hSw); go_simp; (try with_reducible rfl))
    try simp only [Act.put, List.setIfInBounds_toArray, List.set_cons_zero, List.set_cons_succ]
    refine take_w (i := 25) (d := some 62) (v := ?_) rfl (by kernel_rfl) (by kernel_rfl) (by kernel_rfl) (fun _ _ _ h => h) rfl (by rfl) ?_ (by assumption) ?_
    rotate_left
    · (intro w hSw; (try dsimp only at hSw); go_simp; (try with_reducible rfl))
    try simp only [Act.put, List.setIfInBounds_toArray, List.set_cons_zero, List.set_cons_succ]
    refine take_w (i := 27) (d := some 64) (v := ?_) rfl (by kernel_rfl) (by kernel_rfl) (by kernel_rfl) (fun _ _ _ h => h) rfl (by rfl) ?_ (by assumption) ?_
    rotate_left
    · (intro w hSw; (try dsimp only at hSw); go_simp; (try with_reducible rfl))
    try simp only [Act.put, List.setIfInBounds_toArray, List.set_cons_zero, List.set_cons_succ]
    refine take_w (i := 28) (d := some 65) (v := ?_) rfl (by kernel_rfl) (by kernel_rfl) (by kernel_rfl) (fun _ _ _ h => h) rfl (by rfl) ?_ (by assumption) ?_
    rotate_left
    · (intro w hSw; (try dsimp only at hSw); go_simp; (try with_reducible rfl))
    try simp only [Act.put, List.setIfInBounds_toArray, List.set_cons_zero, List.set_cons_succ]
    refine call_w (i := 26) rfl (by kernel_rfl) (by rfl) (fun K hK => ?_)
    go_simp
    go_at_call 16
    refine (CE1.out _ _ _ _ _ (HA4.out.q z8.out) (HB4.out.q z8.out)).mono ?_
    rintro e w9 ⟨rfl, q9⟩
    have z9 := Lib.hid (z8.out.trans q9)
    clear q9
    refine hK.out _ _ ?_ (fun hHeld => ?_)
    · exact ⟨(HT4.out.q z9.out).c0, (HT4.out.q z9.out).c1, (HW4.out.q z9.out).c0, (HW4.out.q z9.out).c1, (HV.out.q z9.out).c0, (HV.out.q z9.out).c1⟩
    clear hK K
    try simp only [Act.put, List.setIfInBounds_toArray, List.set_cons_zero, List.set_cons_succ]
    refine call_w (i := 29) rfl (by kernel_rfl) (by rfl) (fun K hK => ?_)
    go_simp
    go_at_call 12
    refine (CE2.out _ _ _ _ _ (HA4.out.q z9.out) (HB4.out.q z9.out)).mono ?_
    rintro e w10 ⟨rfl, q10⟩
    have z10 := Lib.hid (z9.out.trans q10)
    clear q10
    refine hK.out _ _ ?_ (fun hHeld => ?_)
    · exact ⟨(HT4.out.q z10.out).c0, (HT4.out.q z10.out).c1, (HW4.out.q z10.out).c0, (HW4.out.q z10.out).c1, (HV.out.q z10.out).c0, (HV.out.q z10.out).c1⟩
    clear hK K
    try simp only [Act.put, List.setIfInBounds_toArray, List.set_cons_zero, List.set_cons_succ]
    refine take_w (i := 30) (d := some 67) (v := ?_) rfl (by kernel_rfl) (by kernel_rfl) (by kernel_rfl) (fun _ _ _ h => h) rfl (by rfl) ?_ (by assumption) ?_
    rotate_left
    · (intro w hSw; (try dsimp only at hSw); go_simp; (try with_reducible rfl))
    try simp only [Act.put, List.setIfInBounds_toArray, List.set_cons_zero, List.set_cons_succ]
    refine take_w (i := 31) (d := some 68) (v := ?_) rfl (by kernel_rfl) (by kernel_rfl) (by kernel_rfl) (fun _ _ _ h => h) rfl (by rfl) ?_ (by assumption) ?_
    rotate_left
    · (intro w hSw; (try dsimp only at hSw); go_simp; (try with_reducible rfl))
    try simp only [Act.put, List.setIfInBounds_toArray, List.set_cons_zero, List.set_cons_succ]
    refine take_w (i := 32) (d := some 2) (v := ?_) rfl (by kernel_rfl) (by kernel_rfl) (by kernel_rfl) (fun _ _ _ h => h) rfl (by rfl) ?_ (by assumption) ?_
    rotate_left
    · (intro w hSw; (try dsimp only at hSw); go_simp; (try with_reducible rfl))
    try simp only [Act.put, List.setIfInBounds_toArray, List.set_cons_zero, List.set_cons_succ]
    refine wpAnyH_done (by kernel_rfl) ?_ _
    go_wp2_with fail
    go_ret
    exact ⟨by first | rfl | simp, p4.out.trans z10.out⟩

set_option maxRecDepth 100000 in
theorem lifted (os : Os) (started : os.Started) (H : Type) (enc : TypeId × Value → H) :
    ReturnsInHanded {} Try.checked os 3 .any (Rows.stepTellsSpec.pre6 enc Try.prog Try.f3 Rows.stepTellsRow.domain false) (Rows.stepTellsSpec.post enc Try.prog Try.f3 false true false false) := by
  refine returnsInHanded_of_change_sized (C := Try.checked) own started (by kernel_rfl) Try.func3
    (ChangeSpec.witness6 (enc := enc) (C := Try.checked) false ⟨#[], #[.agg #[.slice none 0 0, .slice none 0 0, .slice none 0 0, .int .i64 0, .int .i64 0, .int .u8 0]], []⟩ 8 (by kernel_rfl) (by kernel_rfl) (by kernel_rfl) (by kernel_rfl)) ?_
  intro W base args ds gs before hval0 hW hcnd hsz0 _
  have hval : ∀ (j : Nat) t v, Try.f3.params[j]? = some t → args[j]? = some v → Value.okWide Try.prog W .any base t v := hval0
  have hW' := hW
  obtain ⟨p, q, hA0, hV, rfl, hfz, hnd⟩ := hW
  have hA : DataW.TrodAll enc Try.prog W 0 (fun _ => true) true Try.f3.params.toList args.toList ds p := hA0
  rw [Try.params3] at hA hval
  obtain ⟨v0, vs0, d0, ds0, p0, q0, hargs, rfl, rfl, h0, r0⟩ := trodAll_cons hA
  obtain ⟨rfl, rfl, rfl⟩ := trodAll_nil r0
  obtain rfl : args = #[v0] := by cases args; simp_all
  obtain ⟨rfl, rfl⟩ := trodVars_none hV
  have z0 : ∀ n ∈ d0.weights Try.prog 28, n ≤ reachBytes := fun n hn => by
    have := List.all_eq_true.1 hsz0 n (DataW.weights_mem_each (j := 0) (t := 28) (d := d0) (by rw [Try.params3]; rfl) rfl n hn)
    simpa using this
  obtain ⟨R, nl, cl, L, A, n, c, S, m, d, ks, sl, x, y, side, rfl, a1, a2, a3, a4, hn, hm, hk, hS, hl, hs, hsl, hcap, hx, hy⟩ := open_StepTellsIn (hval 0 28 v0 rfl rfl) h0 z0
  clear hA0 hval0
  refine (walk R A S nl cl n c m d L ks sl x y side _ a1 a2 a3 a4 hn hm hk hS hl hs hsl hcap hx hy).mono fun e W' ⟨he, hg⟩ => ?_
  subst he
  exact ⟨_, rfl, post_law laid (by rw [Try.params3]; decide +kernel) rfl rfl (by kernel_rfl) Try.underlying4 hW' hg⟩

/-- THE STATEMENT -/
theorem proved : Rows.StepTellsSaid :=
  OpenClaim.holds_of_wide 3 Try.f3 rfl rfl rfl rfl rfl rfl rfl ⟨rfl, rfl, rfl, rfl, rfl⟩ rfl rfl rfl rfl rfl (by kernel_rfl) Try.func3 (by kernel_rfl)
    (of_decide_eq_true (by kernel_rfl)) (by unfold Func.isWrapper; first | (rw [if_pos (by decide +kernel)]; kernel_rfl) | (rw [if_neg (by decide +kernel)]; exact ⟨rfl, rfl⟩))
    (fun os started H enc _ => lifted os started H enc)
end Go.Proofs.Ytjehccemilefgaa.stepTells
