/-
  SideTells holds: the sides of nodes, what may not be, and the variables, are as the document says. No conditions.
-/
import Derived.Test.YtmohedkhbjeapaaSideA
import Derived.Test.YtmohedkhbjeapaaRef1Open
import Derived.Test.YtmohedkhbjeapaaExprOpen
import Derived.Test.YtmohedkhbjeapaaKitMore
import Derived.Test.YtmohedkhbjeapaaRows
import Derived.OpenShut
import Derived.RegionTactic
namespace Go.Proofs.Ytmohedkhbjeapaa.sideTells
open Go.ChangeShapes Go.WideShapes Go.ChangeAt Go.RowKit Kit Rw Ex
open Go.ChangeMaps (open_string shut_string)
open Go.Proofs.Ytmohedkhbjeapaa.Sg (Sig Row Sized)

theorem len8 (L : List Sig) (s : UInt8) {l : List Tg} {x : Ex} (hs : runS [] l = some [x]) : (x.sides L s).length = l.length := by
  have hx : x.size = l.length := by
    have := run_sum (i := l.length) (by rw [List.take_length]; exact hs) (Nat.le_refl _)
    simpa [sumS] using this
  rw [sides_len, hx]
set_option maxRecDepth 100000 in
set_option maxHeartbeats 8000000 in
theorem walk (A B : Option Addr) (m c n d : Nat) (L : List Sig) (l : List Tg) (s : UInt8) (w : World) (hm : m = L.length) (hn : n = l.length) (hL : Row w w.heap.size A L) (hS : Sized L) (hl8 : L.length ≤ maxLen) (hr : Rds w w.heap.size B (cellsG l)) (hl : l.length ≤ 140737488355328) (hz : ∀ t ∈ l, t.2.1.size ≤ 140737488355328) :
    Calls Try.prog 3 #[.slice A m c, .slice B n d, .int .u8 (s.toNat : Int)] w fun e w' => e = .returned (.bool true) ∧ Q w w' := by
  subst hm hn
  have HL := Lib.hid hL
  have HR := Lib.hid hr
  have CO := Lib.hid (fun (W : World) (q : Q w W) => of_any8 A B L.length c l.length d L l W rfl rfl ((hL.q (Nat.le_refl _) q).more q.size) hS hl8 (hr.q q) hl hz)
  clear hL hS hr hz
  cases hof : ofB L l
  · rw [hof] at CO
    clear hof
    go_enter Try.func3, Try.ntmps3
    go_wp2_with fail
    refine (shown8_any _).mono ?_
    rintro e w1 ⟨rfl, q1⟩
    have p1 := Lib.hid q1
    clear q1
    go_wp2_with fail
    refine (CO.out _ p1.out).mono ?_
    rintro e w2 ⟨rfl, q2⟩
    have p2 := Lib.hid (p1.out.trans q2)
    clear q2
    go_wp2_with fail
    go_ret
    exact ⟨rfl, p2.out⟩
  · rw [hof] at CO
    obtain ⟨h64, hf, hm, ⟨x, hs⟩, hpos, h600⟩ := ofB_out hof
    have CF := Lib.hid (fun (W : World) (q : Q w W) => sideOf_any A B L.length c l.length d L l x s W rfl rfl ((HL.out.q (Nat.le_refl _) q).more q.size) (HR.out.q q) (by omega) h600 hm hs)
    have DF := Lib.hid (fun (W : World) (q : Q w W) => refOf_any A B L.length c l.length d L l x s W rfl rfl ((HL.out.q (Nat.le_refl _) q).more q.size) (HR.out.q q) (by omega) h600 hm hs)
    have CC := Lib.hid (fun (W : World) (q : Q w W) => sideCheck_any A B L.length c l.length d L l x s W rfl rfl ((HL.out.q (Nat.le_refl _) q).more q.size) (HR.out.q q) (by omega) h600 hm hs)
    have DC := Lib.hid (fun (W : World) (q : Q w W) => refCheck_any A B L.length c l.length d L l x s W rfl rfl ((HL.out.q (Nat.le_refl _) q).more q.size) (HR.out.q q) (by omega) h600 hm hs)
    have CV := Lib.hid (fun (W : World) (q : Q w W) => sideVars_any B l.length d l W rfl (HR.out.q q) (by omega) hm)
    have DV := Lib.hid (fun (W : World) (q : Q w W) => refVars_any B l.length d l W rfl (HR.out.q q) (by omega))
    have hFl : 0 < (x.sides L (side0 s)).length := by rw [len8 L (side0 s) hs]; exact hpos
    have HFl := Lib.hid hFl
    have hvl := varsF_len l []
    have HVl : Hid ((varsF l []).length ≤ 1000000) := by
      have : (varsF l []).length ≤ l.length := by simpa using hvl
      exact Lib.hid (by omega)
    have HT : Hid (eqT (varsF l []) (varsF l []) = true) := (eqT_iff _ _).2 rfl
    clear hof hf hm hs h64 hFl hvl
    generalize (checkF L l (x.sides L (side0 s)) 0).1 = r1 at *
    generalize (checkF L l (x.sides L (side0 s)) 0).2 = r2 at *
    generalize x.sides L (side0 s) = F at *
    generalize varsF l [] = V at *
    go_enter Try.func3, Try.ntmps3
    go_wp2_with fail
    refine (shown8_any _).mono ?_
    rintro e w1 ⟨rfl, q1⟩
    have p1 := Lib.hid q1
    clear q1
    go_wp2_with fail
    refine (CO.out _ p1.out).mono ?_
    rintro e w2 ⟨rfl, q2⟩
    have p2 := Lib.hid (p1.out.trans q2)
    clear q2
    go_wp2_with fail
    refine (CC.out _ p2.out).mono ?_
    rintro e w3 ⟨rfl, q3⟩
    have p3 := Lib.hid (p2.out.trans q3)
    clear q3
    go_wp2_with fail
    refine (DC.out _ p3.out).mono ?_
    rintro e w4 ⟨rfl, q4⟩
    have p4 := Lib.hid (p3.out.trans q4)
    clear q4
    go_wp2_with fail
    have pd := Lib.hid (p4.out.trans (Q.refl w4).drew)
    refine wp_region_held_drew (S := fun _ => True) (by kernel_rfl) ?_ (fun hHeld => ?_)
    · exact trivial
    refine take_w (i := 0) (d := some 32) (v := ?_) rfl (by kernel_rfl) (by kernel_rfl) (by kernel_rfl) (fun _ _ _ h => h) rfl (by rfl) ?_ (by assumption) ?_
    rotate_left
    · (intro w hSw; (try dsimp only at hSw); go_simp; (try with_reducible rfl))
    try simp only [Act.put, List.setIfInBounds_toArray, List.set_cons_zero, List.set_cons_succ]
    refine take_w (i := 1) (d := some 33) (v := ?_) rfl (by kernel_rfl) (by kernel_rfl) (by kernel_rfl) (fun _ _ _ h => h) rfl (by rfl) ?_ (by assumption) ?_
    rotate_left
    · (intro w hSw; (try dsimp only at hSw); go_simp; (try with_reducible rfl))
    try simp only [Act.put, List.setIfInBounds_toArray, List.set_cons_zero, List.set_cons_succ]
    refine take_w (i := 2) (d := some 34) (v := ?_) rfl (by kernel_rfl) (by kernel_rfl) (by kernel_rfl) (fun _ _ _ h => h) rfl (by rfl) ?_ (by assumption) ?_
    rotate_left
    · (intro w hSw; (try dsimp only at hSw); go_simp; (try with_reducible rfl))
    try simp only [Act.put, List.setIfInBounds_toArray, List.set_cons_zero, List.set_cons_succ]
    refine take_w (i := 3) (d := some 35) (v := ?_) rfl (by kernel_rfl) (by kernel_rfl) (by kernel_rfl) (fun _ _ _ h => h) rfl (by rfl) ?_ (by assumption) ?_
    rotate_left
    · (intro w hSw; (try dsimp only at hSw); go_simp; (try with_reducible rfl))
    try simp only [Act.put, List.setIfInBounds_toArray, List.set_cons_zero, List.set_cons_succ]
    refine take_w (i := 4) (d := some 36) (v := ?_) rfl (by kernel_rfl) (by kernel_rfl) (by kernel_rfl) (fun _ _ _ h => h) rfl (by rfl) ?_ (by assumption) ?_
    rotate_left
    · (intro w hSw; (try dsimp only at hSw); go_simp; (try with_reducible rfl))
    try simp only [Act.put, List.setIfInBounds_toArray, List.set_cons_zero, List.set_cons_succ]
    refine take_w (i := 7) (d := some 39) (v := ?_) rfl (by kernel_rfl) (by kernel_rfl) (by kernel_rfl) (fun _ _ _ h => h) rfl (by rfl) ?_ (by assumption) ?_
    rotate_left
    · (intro w hSw; (try dsimp only at hSw); go_simp; (try with_reducible rfl))
    try simp only [Act.put, List.setIfInBounds_toArray, List.set_cons_zero, List.set_cons_succ]
    refine take_w (i := 8) (d := some 40) (v := ?_) rfl (by kernel_rfl) (by kernel_rfl) (by kernel_rfl) (fun _ _ _ h => h) rfl (by rfl) ?_ (by assumption) ?_
    rotate_left
    · (intro w hSw; (try dsimp only at hSw); go_simp; (try with_reducible rfl))
    try simp only [Act.put, List.setIfInBounds_toArray, List.set_cons_zero, List.set_cons_succ]
    refine take_w (i := 9) (d := some 41) (v := ?_) rfl (by kernel_rfl) (by kernel_rfl) (by kernel_rfl) (fun _ _ _ h => h) rfl (by rfl) ?_ (by assumption) ?_
    rotate_left
    · (intro w hSw; (try dsimp only at hSw); go_simp; (try with_reducible rfl))
    try simp only [Act.put, List.setIfInBounds_toArray, List.set_cons_zero, List.set_cons_succ]
    refine call_w (i := 5) rfl (by kernel_rfl) (by rfl) (fun K hK => ?_)
    go_simp
    go_at_call 14
    refine (CF.out _ pd.out).mono ?_
    rintro e w5 ⟨A5, c5, rfl, r5, q5⟩
    have p5 := Lib.hid (pd.out.trans q5)
    have R5 := Lib.hid r5
    clear q5 r5
    refine hK.out _ _ ?_ (fun hHeld => ?_)
    · exact trivial
    clear hK K
    try simp only [Act.put, List.setIfInBounds_toArray, List.set_cons_zero, List.set_cons_succ]
    refine more_w (S' := fun w' => Rds w' w'.heap.size A5 (cells8 F)) (fun _ _ => trivial) _ _ _ _ ?_
    have hHeld : (fun w' => Rds w' w'.heap.size A5 (cells8 F)) w5 := R5.out
    refine take_w (i := 6) (d := some 38) (v := ?_) rfl (by kernel_rfl) (by kernel_rfl) (by kernel_rfl) (fun _ _ _ h => h) rfl (by rfl) ?_ (by assumption) ?_
    rotate_left
    · (intro w hSw; (try dsimp only at hSw); have hcv := conv8 (c := c5) hSw HFl.out; go_simp; (try with_reducible rfl))
    try simp only [Act.put, List.setIfInBounds_toArray, List.set_cons_zero, List.set_cons_succ]
    refine call_w (i := 10) rfl (by kernel_rfl) (by rfl) (fun K hK => ?_)
    go_simp
    go_at_call 15
    refine (DF.out _ p5.out).mono ?_
    rintro e w6 ⟨g6, rfl, r6, _, q6⟩
    have p6 := Lib.hid (p5.out.trans q6)
    have R56 := Lib.hid (R5.out.q q6)
    have R6 := Lib.hid (OwnC.rds r6)
    clear q6 r6
    refine hK.out _ _ ?_ (fun hHeld => ?_)
    · exact R56.out
    clear hK K
    try simp only [Act.put, List.setIfInBounds_toArray, List.set_cons_zero, List.set_cons_succ]
    refine more_w (S' := fun w' => Rds w' w'.heap.size A5 (cells8 F) ∧ Rds w' w'.heap.size (some ⟨g6, 0, none⟩) (cells8 F)) (fun _ h => h.1) _ _ _ _ ?_
    have hHeld : (fun w' => Rds w' w'.heap.size A5 (cells8 F) ∧ Rds w' w'.heap.size (some ⟨g6, 0, none⟩) (cells8 F)) w6 := ⟨R56.out, R6.out⟩
    refine take_w (i := 11) (d := some 43) (v := ?_) rfl (by kernel_rfl) (by kernel_rfl) (by kernel_rfl) (fun _ _ _ h => h) rfl (by rfl) ?_ (by assumption) ?_
    rotate_left
    · (intro w hSw; (try dsimp only at hSw); have hcv := conv8 (c := F.length) hSw.2 HFl.out; go_simp; (try with_reducible rfl))
    try simp only [Act.put, List.setIfInBounds_toArray, List.set_cons_zero, List.set_cons_succ]
    refine take_w (i := 12) (d := some 44) (v := ?_) rfl (by kernel_rfl) (by kernel_rfl) (by kernel_rfl) (fun _ _ _ h => h) rfl (by rfl) ?_ (by assumption) ?_
    rotate_left
    · (intro w hSw; (try dsimp only at hSw); go_simp; (try with_reducible rfl))
    try simp only [Act.put, List.setIfInBounds_toArray, List.set_cons_zero, List.set_cons_succ]
    refine take_w (i := 13) (d := some 45) (v := ?_) rfl (by kernel_rfl) (by kernel_rfl) (by kernel_rfl) (fun _ _ _ h => h) rfl (by rfl) ?_ (by assumption) ?_
    rotate_left
    · (intro w hSw; (try dsimp only at hSw); go_simp; (try with_reducible rfl))
    try simp only [Act.put, List.setIfInBounds_toArray, List.set_cons_zero, List.set_cons_succ]
    refine take_w (i := 14) (d := some 46) (v := ?_) rfl (by kernel_rfl) (by kernel_rfl) (by kernel_rfl) (fun _ _ _ h => h) rfl (by rfl) ?_ (by assumption) ?_
    rotate_left
    · (intro w hSw; (try dsimp only at hSw); go_simp; (try with_reducible rfl))
    try simp only [Act.put, List.setIfInBounds_toArray, List.set_cons_zero, List.set_cons_succ]
    refine take_w (i := 15) (d := some 47) (v := ?_) rfl (by kernel_rfl) (by kernel_rfl) (by kernel_rfl) (fun _ _ _ h => h) rfl (by rfl) ?_ (by assumption) ?_
    rotate_left
    · (intro w hSw; (try dsimp only at hSw); go_simp; (try with_reducible rfl))
    try simp only [Act.put, List.setIfInBounds_toArray, List.set_cons_zero, List.set_cons_succ]
    refine take_w (i := 16) (d := some 48) (v := ?_) rfl (by kernel_rfl) (by kernel_rfl) (by kernel_rfl) (fun _ _ _ h => h) rfl (by rfl) ?_ (by assumption) ?_
    rotate_left
    · (intro w hSw; (try dsimp only at hSw); go_simp; (try with_reducible rfl))
    try simp only [Act.put, List.setIfInBounds_toArray, List.set_cons_zero, List.set_cons_succ]
    refine take_w (i := 17) (d := some 49) (v := ?_) rfl (by kernel_rfl) (by kernel_rfl) (by kernel_rfl) (fun _ _ _ h => h) rfl (by rfl) ?_ (by assumption) ?_
    rotate_left
    · (intro w hSw; (try dsimp only at hSw); go_simp; (try with_reducible rfl))
    try simp only [Act.put, List.setIfInBounds_toArray, List.set_cons_zero, List.set_cons_succ]
    refine take_w (i := 18) (d := some 50) (v := ?_) rfl (by kernel_rfl) (by kernel_rfl) (by kernel_rfl) (fun _ _ _ h => h) rfl (by rfl) ?_ (by assumption) ?_
    rotate_left
    · (intro w hSw; (try dsimp only at hSw); go_simp; (try with_reducible rfl))
    try simp only [Act.put, List.setIfInBounds_toArray, List.set_cons_zero, List.set_cons_succ]
    refine take_w (i := 19) (d := some 51) (v := ?_) rfl (by kernel_rfl) (by kernel_rfl) (by kernel_rfl) (fun _ _ _ h => h) rfl (by rfl) ?_ (by assumption) ?_
    rotate_left
    · (intro w hSw; (try dsimp only at hSw); go_simp; (try with_reducible rfl))
    try simp only [Act.put, List.setIfInBounds_toArray, List.set_cons_zero, List.set_cons_succ]
    refine take_w (i := 20) (d := some 52) (v := ?_) rfl (by kernel_rfl) (by kernel_rfl) (by kernel_rfl) (fun _ _ _ h => h) rfl (by rfl) ?_ (by assumption) ?_
    rotate_left
    · (intro w hSw; (try dsimp only at hSw); go_simp; (try with_reducible rfl))
    try simp only [Act.put, List.setIfInBounds_toArray, List.set_cons_zero, List.set_cons_succ]
    refine take_w (i := 21) (d := some 53) (v := ?_) rfl (by kernel_rfl) (by kernel_rfl) (by kernel_rfl) (fun _ _ _ h => h) rfl (by rfl) ?_ (by assumption) ?_
    rotate_left
    · (intro w hSw; (try dsimp only at hSw); go_simp; (try with_reducible rfl))
    try simp only [Act.put, List.setIfInBounds_toArray, List.set_cons_zero, List.set_cons_succ]
    refine take_w (i := 22) (d := some 54) (v := ?_) rfl (by kernel_rfl) (by kernel_rfl) (by kernel_rfl) (fun _ _ _ h => h) rfl (by rfl) ?_ (by assumption) ?_
    rotate_left
    · (intro w hSw; (try dsimp only at hSw); go_simp; (try with_reducible rfl))
    try simp only [Act.put, List.setIfInBounds_toArray, List.set_cons_zero, List.set_cons_succ]
    refine take_w (i := 23) (d := some 55) (v := ?_) rfl (by kernel_rfl) (by kernel_rfl) (by kernel_rfl) (fun _ _ _ h => h) rfl (by rfl) ?_ (by assumption) ?_
    rotate_left
    · (intro w hSw; (try dsimp only at hSw); go_simp; (try with_reducible rfl))
    try simp only [Act.put, List.setIfInBounds_toArray, List.set_cons_zero, List.set_cons_succ]
    refine take_w (i := 24) (d := some 56) (v := ?_) rfl (by kernel_rfl) (by kernel_rfl) (by kernel_rfl) (fun _ _ _ h => h) rfl (by rfl) ?_ (by assumption) ?_
    rotate_left
    · (intro w hSw; (try dsimp only at hSw); go_simp; (try with_reducible rfl))
    try simp only [Act.put, List.setIfInBounds_toArray, List.set_cons_zero, List.set_cons_succ]
    refine take_w (i := 25) (d := some 57) (v := ?_) rfl (by kernel_rfl) (by kernel_rfl) (by kernel_rfl) (fun _ _ _ h => h) rfl (by rfl) ?_ (by assumption) ?_
    rotate_left
    · (intro w hSw; (try dsimp only at hSw); go_simp; (try with_reducible rfl))
    try simp only [Act.put, List.setIfInBounds_toArray, List.set_cons_zero, List.set_cons_succ]
    refine take_w (i := 27) (d := some 59) (v := ?_) rfl (by kernel_rfl) (by kernel_rfl) (by kernel_rfl) (fun _ _ _ h => h) rfl (by rfl) ?_ (by assumption) ?_
    rotate_left
    · (intro w hSw; (try dsimp only at hSw); go_simp; (try with_reducible rfl))
    try simp only [Act.put, List.setIfInBounds_toArray, List.set_cons_zero, List.set_cons_succ]
    refine call_w (i := 26) rfl (by kernel_rfl) (by rfl) (fun K hK => ?_)
    go_simp
    go_at_call 17
    refine (CV.out _ p6.out).mono ?_
    rintro e w7 ⟨A7, c7, rfl, r7, q7⟩
    have p7 := Lib.hid (p6.out.trans q7)
    have R7 := Lib.hid r7
    have R57 := Lib.hid (R56.out.q q7)
    have R67 := Lib.hid (R6.out.q q7)
    clear q7 r7
    refine hK.out _ _ ?_ (fun hHeld => ?_)
    · exact ⟨R57.out, R67.out⟩
    clear hK K
    try simp only [Act.put, List.setIfInBounds_toArray, List.set_cons_zero, List.set_cons_succ]
    refine call_w (i := 28) rfl (by kernel_rfl) (by rfl) (fun K hK => ?_)
    go_simp
    go_at_call 18
    refine (DV.out _ p7.out).mono ?_
    rintro e w8 ⟨v8, rfl, hO8, q8⟩
    obtain ⟨A8, c8, rfl, _, r8⟩ := own_read hO8
    have p8 := Lib.hid (p7.out.trans q8)
    have R8 := Lib.hid r8
    have R78 := Lib.hid (R7.out.q q8)
    have CT := Lib.hid (texts8_any A7 A8 V.length c7 V.length c8 V V w8 rfl rfl R78.out r8 HVl.out)
    have R58 := Lib.hid (R57.out.q q8)
    have R68 := Lib.hid (R67.out.q q8)
    clear q8 r8 hO8
    refine hK.out _ _ ?_ (fun hHeld => ?_)
    · exact ⟨R58.out, R68.out⟩
    clear hK K
    try simp only [Act.put, List.setIfInBounds_toArray, List.set_cons_zero, List.set_cons_succ]
    refine call_w (i := 29) rfl (by kernel_rfl) (by rfl) (fun K hK => ?_)
    go_simp
    go_at_call 16
    refine CT.out.mono ?_
    rintro e w9 ⟨rfl, q9⟩
    have p9 := Lib.hid (p8.out.trans q9)
    have R59 := Lib.hid (R58.out.q q9)
    have R69 := Lib.hid (R68.out.q q9)
    clear q9
    refine hK.out _ _ ?_ (fun hHeld => ?_)
    · exact ⟨R59.out, R69.out⟩
    clear hK K
    try simp only [Act.put, List.setIfInBounds_toArray, List.set_cons_zero, List.set_cons_succ]
    refine take_w (i := 30) (d := some 62) (v := ?_) rfl (by kernel_rfl) (by kernel_rfl) (by kernel_rfl) (fun _ _ _ h => h) rfl (by rfl) ?_ (by assumption) ?_
    rotate_left
    · (intro w hSw; (try dsimp only at hSw); go_simp; (try with_reducible rfl))
    try simp only [Act.put, List.setIfInBounds_toArray, List.set_cons_zero, List.set_cons_succ]
    refine take_w (i := 31) (d := some 6) (v := ?_) rfl (by kernel_rfl) (by kernel_rfl) (by kernel_rfl) (fun _ _ _ h => h) rfl (by rfl) ?_ (by assumption) ?_
    rotate_left
    · (intro w hSw; (try dsimp only at hSw); go_simp; (try with_reducible rfl))
    try simp only [Act.put, List.setIfInBounds_toArray, List.set_cons_zero, List.set_cons_succ]
    refine wpAnyH_done (by kernel_rfl) ?_ _
    go_wp2_with fail
    go_ret
    exact ⟨by first | rfl | (rw [HT.out]; rfl) | simp [HT.out], p9.out⟩

set_option maxRecDepth 100000 in
theorem lifted (os : Os) (started : os.Started) (H : Type) (enc : TypeId × Value → H) :
    ReturnsInHanded {} Try.checked os 3 .any (Rows.sideTellsSpec.pre6 enc Try.prog Try.f3 Rows.sideTellsRow.domain false) (Rows.sideTellsSpec.post enc Try.prog Try.f3 false true false false) := by
  refine returnsInHanded_of_change_sized (C := Try.checked) own started (by kernel_rfl) Try.func3
    (ChangeSpec.witness6 (enc := enc) (C := Try.checked) false ⟨#[], #[.slice none 0 0, .slice none 0 0, .int .u8 0], []⟩ 8 (by kernel_rfl) (by kernel_rfl) (by kernel_rfl) (by kernel_rfl)) ?_
  intro W base args ds gs before hval0 hW hcnd hsz0 _
  have hval : ∀ (j : Nat) t v, Try.f3.params[j]? = some t → args[j]? = some v → Value.okWide Try.prog W .any base t v := hval0
  have hW' := hW
  obtain ⟨p, q, hA0, hV, rfl, hfz, hnd⟩ := hW
  have hA : DataW.TrodAll enc Try.prog W 0 (fun _ => true) true Try.f3.params.toList args.toList ds p := hA0
  rw [Try.params3] at hA hval
  obtain ⟨v0, vs0, d0, ds0, p0, q0, hargs, rfl, rfl, h0, r0⟩ := trodAll_cons hA
  obtain ⟨v1, vs1, d1, ds1, p1, q1, rfl, rfl, rfl, h1, r1⟩ := trodAll_cons r0
  obtain ⟨v2, vs2, d2, ds2, p2, q2, rfl, rfl, rfl, h2, r2⟩ := trodAll_cons r1
  obtain ⟨rfl, rfl, rfl⟩ := trodAll_nil r2
  obtain rfl : args = #[v0, v1, v2] := by cases args; simp_all
  obtain ⟨rfl, rfl⟩ := trodVars_none hV
  have z0 : ∀ n ∈ d0.weights Try.prog 22, n ≤ reachBytes := fun n hn => by
    have := List.all_eq_true.1 hsz0 n (DataW.weights_mem_each (j := 0) (t := 22) (d := d0) (by rw [Try.params3]; rfl) rfl n hn)
    simpa using this
  have z1 : ∀ n ∈ d1.weights Try.prog 23, n ≤ reachBytes := fun n hn => by
    have := List.all_eq_true.1 hsz0 n (DataW.weights_mem_each (j := 1) (t := 23) (d := d1) (by rw [Try.params3]; rfl) rfl n hn)
    simpa using this
  have z2 : ∀ n ∈ d2.weights Try.prog 5, n ≤ reachBytes := fun n hn => by
    have := List.all_eq_true.1 hsz0 n (DataW.weights_mem_each (j := 2) (t := 5) (d := d2) (by rw [Try.params3]; rfl) rfl n hn)
    simpa using this
  obtain ⟨A0, m0, c0, L0, rfl, y0, hL0, g0, s0, _⟩ := Sg.open_sigs (hval 0 22 v0 rfl rfl) h0
  obtain ⟨B1, n1, k1, l1, rfl, x1, hr1, w1, _, u1⟩ := open_nodes (hval 1 23 v1 rfl rfl) h1 z1
  obtain ⟨b, rfl, rfl, rfl, hbw⟩ := open_int Try.underlying5 (hval 2 5 v2 rfl rfl) h2
  have hb : 0 ≤ b ∧ b ≤ 255 := by
    have h1 : IntKind.u8.min = 0 := rfl
    have h2 : IntKind.u8.max = 255 := rfl
    simp [Lit.wf] at hbw
    omega
  obtain ⟨sb, rfl⟩ : ∃ sb : UInt8, b = (sb.toNat : Int) := ⟨UInt8.ofNat b.toNat, by rw [UInt8.toNat_ofNat']; omega⟩
  clear hA0 hval0
  refine (walk A0 B1 m0 c0 n1 k1 L0 l1 sb W y0 x1 hL0 s0 g0 hr1 w1 u1).mono fun e W' ⟨he, hg⟩ => ?_
  subst he
  exact ⟨_, rfl, post_law laid (by rw [Try.params3]; decide +kernel) rfl rfl (by kernel_rfl) Try.underlying4 hW' hg⟩

/-- THE STATEMENT -/
theorem proved : Rows.SideTellsSaid :=
  OpenClaim.holds_of_wide 3 Try.f3 rfl rfl rfl rfl rfl rfl rfl ⟨rfl, rfl, rfl, rfl, rfl⟩ rfl rfl rfl rfl rfl (by kernel_rfl) Try.func3 (by kernel_rfl)
    (of_decide_eq_true (by kernel_rfl)) (by unfold Func.isWrapper; first | (rw [if_pos (by decide +kernel)]; kernel_rfl) | (rw [if_neg (by decide +kernel)]; exact ⟨rfl, rfl⟩))
    (fun os started H enc _ => lifted os started H enc)
end Go.Proofs.Ytmohedkhbjeapaa.sideTells
