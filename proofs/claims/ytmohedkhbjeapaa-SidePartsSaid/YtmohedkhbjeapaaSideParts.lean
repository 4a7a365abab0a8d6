/-
  SideParts holds: where an expression may stand each part of it may stand on its own side, which is as its sides say. No conditions.
-/
import Derived.Test.YtmohedkhbjeapaaSideX
import Derived.Test.YtmohedkhbjeapaaRef1Open
import Derived.Test.YtmohedkhbjeapaaExprOpen
import Derived.Test.YtmohedkhbjeapaaRows
import Derived.OpenShut
import Derived.RegionTactic
namespace Go.Proofs.Ytmohedkhbjeapaa.sideParts
open Go.ChangeShapes Go.WideShapes Go.ChangeAt Go.RowKit Kit Rw Ex
open Go.ChangeMaps (open_string shut_string)
open Go.Proofs.Ytmohedkhbjeapaa.Sg (Sig Row Sized)

theorem len8 (L : List Sig) (s : UInt8) {l : List Tg} {x : Ex} (hs : runS [] l = some [x]) : (x.sides L s).length = l.length := by
  have hx : x.size = l.length := by
    have := run_sum (i := l.length) (by rw [List.take_length]; exact hs) (Nat.le_refl _)
    simpa [sumS] using this
  rw [sides_len, hx]
set_option maxRecDepth 100000 in
set_option maxHeartbeats 8000000 in
theorem walk (A B : Option Addr) (m c n d : Nat) (L : List Sig) (l : List Tg) (s : UInt8) (ka : Int) (w : World) (hm : m = L.length) (hn : n = l.length) (hL : Row w w.heap.size A L) (hS : Sized L) (hl8 : L.length ≤ maxLen) (hr : Rds w w.heap.size B (cellsG l)) (hl : l.length ≤ 140737488355328) (hld : n ≤ d) (hz : ∀ t ∈ l, t.2.1.size ≤ 140737488355328) :
    Calls Try.prog 5 #[.agg #[.slice A m c, .slice B n d, .int .u8 (s.toNat : Int), .int .i64 ka]] w fun e w' => e = .returned (.bool true) ∧ Q w w' := by
  subst hm hn
  have HL := Lib.hid hL
  have HR := Lib.hid hr
  have CO := Lib.hid (fun (W : World) (q : Q w W) => of_any8 A B L.length c l.length d L l W rfl rfl ((hL.q (Nat.le_refl _) q).more q.size) hS hl8 (hr.q q) hl hz)
  clear hL hS hr hz
  cases hof : ofB L l
  · rw [hof] at CO
    clear hof hld
    go_enter Try.func5, Try.ntmps5
    go_wp2_with fail
    refine (shown8_any _).mono ?_
    rintro e w1 ⟨rfl, q1⟩
    have p1 := Lib.hid (((Q.refl w).alloc _).trans q1)
    clear q1
    go_wp2_with fail
    refine (CO.out _ p1.out).mono ?_
    rintro e w2 ⟨rfl, q2⟩
    have p2 := Lib.hid (p1.out.trans q2)
    clear q2
    go_wp2_with fail
    go_ret
    exact ⟨by first | rfl | simp, p2.out⟩
  · rw [hof] at CO
    obtain ⟨h64, hf, hm, ⟨x, hs⟩, hpos, h600⟩ := ofB_out hof
    by_cases hk0 : ka < 0
    · have d1 : decide (ka < 0) = true := decide_eq_true hk0
      clear hof hf hm hs h64 hpos hld
      go_enter Try.func5, Try.ntmps5
      go_wp2_with fail
      refine (shown8_any _).mono ?_
      rintro e w1 ⟨rfl, q1⟩
      have p1 := Lib.hid (((Q.refl w).alloc _).trans q1)
      clear q1
      go_wp2_with fail
      refine (CO.out _ p1.out).mono ?_
      rintro e w2 ⟨rfl, q2⟩
      have p2 := Lib.hid (p1.out.trans q2)
      clear q2
      go_wp2_with fail
      go_ret
      exact ⟨by first | rfl | simp, p2.out⟩
    · by_cases hk1 : (l.length : Int) ≤ ka
      · have d1 : decide (ka < 0) = false := decide_eq_false hk0
        have d2 : decide ((l.length : Int) ≤ ka) = true := decide_eq_true hk1
        clear hof hf hm hs h64 hpos hld
        go_enter Try.func5, Try.ntmps5
        go_wp2_with fail
        refine (shown8_any _).mono ?_
        rintro e w1 ⟨rfl, q1⟩
        have p1 := Lib.hid (((Q.refl w).alloc _).trans q1)
        clear q1
        go_wp2_with fail
        refine (CO.out _ p1.out).mono ?_
        rintro e w2 ⟨rfl, q2⟩
        have p2 := Lib.hid (p1.out.trans q2)
        clear q2
        go_wp2_with fail
        go_ret
        exact ⟨by first | rfl | simp, p2.out⟩
      · obtain ⟨k, rfl⟩ : ∃ k : Nat, ka = (k : Int) := ⟨ka.toNat, by omega⟩
        have hk : k < l.length := by omega
        have d1 : decide ((k : Int) < 0) = false := decide_eq_false (by omega)
        have d2 : decide ((l.length : Int) ≤ (k : Int)) = false := decide_eq_false (by omega)
        have d2' : decide (l.length ≤ k) = false := decide_eq_false (by omega)
        have HF := Lib.hid (len8 L (side0 s) hs)
        obtain ⟨x1, t, ht, hpn, hpf, hst, hsp, hlt, hpl, hpF⟩ := part_all L s hs hk
        have CF := Lib.hid (fun (W : World) (q : Q w W) => sideOf_cap A B L.length c l.length d L l x s W rfl rfl ((HL.out.q (Nat.le_refl _) q).more q.size) (HR.out.q q) (by omega) h600 hm hs)
        have CC := Lib.hid (fun (W : World) (q : Q w W) => sideCheck_any A B L.length c l.length d L l x s W rfl rfl ((HL.out.q (Nat.le_refl _) q).more q.size) (HR.out.q q) (by omega) h600 hm hs)
        have CS := Lib.hid (fun (W : World) (q : Q w W) => starts_any B l.length d l [x] W rfl (HR.out.q q) (by omega) hm hs)
        have hpm : ∀ u ∈ x1.nodes, mayN u = true := fun u hu => hm u (by rw [← hpn] at hu; exact List.mem_of_mem_take (List.mem_of_mem_drop hu))
        have CPF := Lib.hid (fun (W : World) (q : Q w W) (g cap nn : Nat) (hnn : nn = x1.nodes.length) (h : Rds W W.heap.size (some ⟨g, 0, none⟩) (cellsG x1.nodes)) => show Calls Try.prog 14 #[.slice A L.length c, .slice (some ⟨g, 0, none⟩) nn cap, .int .u8 (t.toNat : Int)] W (SideOfC (x1.sides L t) W) by
          have := sideOf_cap A (some ⟨g, 0, none⟩) L.length c nn cap L x1.nodes x1 t W rfl hnn ((HL.out.q (Nat.le_refl _) q).more q.size) h (by omega) (by omega) hpm hsp
          rwa [hst] at this)
        have CPC := Lib.hid (fun (W : World) (q : Q w W) (g cap nn : Nat) (hnn : nn = x1.nodes.length) (h : Rds W W.heap.size (some ⟨g, 0, none⟩) (cellsG x1.nodes)) => show Calls Try.prog 12 #[.slice A L.length c, .slice (some ⟨g, 0, none⟩) nn cap, .int .u8 (t.toNat : Int)] W (fun e w' => e = .returned (.tuple #[.int .i64 (checkF L x1.nodes (x1.sides L t) 0).1, .int .i64 (checkF L x1.nodes (x1.sides L t) 0).2]) ∧ Q W w') by
          have := sideCheck_any A (some ⟨g, 0, none⟩) L.length c nn cap L x1.nodes x1 t W rfl hnn ((HL.out.q (Nat.le_refl _) q).more q.size) h (by omega) (by omega) hpm hsp
          rwa [hst] at this)
        have hok : (checkF L l (x.sides L (side0 s)) 0).2 = 0 → (checkF L x1.nodes (x1.sides L t) 0).2 = 0 := fun h0 => part_ok L HF.out hk hpn hpf fun j hj => (checkF_ok L l _ 0 HF.out).1 h0 j (by omega) (by rw [HF.out]; omega)
        have Hok := Lib.hid hok
        have Hpn := Lib.hid hpn
        have Hpf := Lib.hid hpf
        have Hpl := Lib.hid hpl
        have HpF := Lib.hid hpF
        have Ht := Lib.hid ht
        clear hok hpn hpf hpm hsp hof hf hm hs h64 hst ht hpl hpF
        generalize x.sides L (side0 s) = F at *
        generalize x1.sides L t = G at *
        generalize x1.nodes = P at *
        generalize (checkF L l F 0).1 = r1 at *
        generalize (checkF L l F 0).2 = r2 at *
        generalize (checkF L P G 0).1 = r3 at *
        generalize (checkF L P G 0).2 = r4 at *
        have HS : Hid (∀ (W : World) (S : Option Addr), Rds W W.heap.size S (cellsI (startsL l l.length)) → ∃ sd, S = some sd ∧ W.cell? (sd.add k) = some (.int .i64 (startOf l k : Int))) := fun W S h => by
          obtain ⟨sd, e, _, a0⟩ := int_at h (k := k) (by rw [startsL_len]; omega)
          subst e
          rw [startsL_at l _ _ (by omega)] at a0
          exact ⟨sd, rfl, a0⟩
        generalize startOf l k = st at *
        obtain ⟨ad, rfl, _⟩ := tok_at HR.out hpos
        go_enter Try.func5, Try.ntmps5
        go_wp2_with fail
        refine (shown8_any _).mono ?_
        rintro e w1 ⟨rfl, q1⟩
        have p1 := Lib.hid (((Q.refl w).alloc _).trans q1)
        clear q1
        go_wp2_with fail
        refine (CO.out _ p1.out).mono ?_
        rintro e w2 ⟨rfl, q2⟩
        have p2 := Lib.hid (p1.out.trans q2)
        clear q2
        go_wp2_with fail
        refine (CF.out _ p2.out).mono ?_
        rintro e w3 ⟨a3, c3, rfl, hc3, o3, q3⟩
        have p3 := Lib.hid (p2.out.trans q3)
        have O3 := Lib.hid o3
        clear q3 o3
        rw [HF.out] at hc3 ⊢
        go_wp2_with fail
        refine (CS.out _ p3.out).mono ?_
        rintro e w4 ⟨S4, c4, rfl, _, r4', q4⟩
        obtain ⟨sd, rfl, d4⟩ := HS.out _ _ r4'
        have p4 := Lib.hid (p3.out.trans q4)
        have O4 := Lib.hid (O3.out.q q4)
        have p4a : Hid (Q w (w4.alloc (Obj.cells #[] 38))) := p4.out.alloc _
        have O4a : Hid (Rds (w4.alloc (Obj.cells #[] 38)) (w4.alloc (Obj.cells #[] 38)).heap.size (some a3) (cells8 F)) := O4.out.q ((Q.refl w4).alloc _)
        have HE4 : Hid ((w4.alloc (Obj.cells #[] 38)).ownsRow w4.heap.size 38 3 (.slice (some ⟨w4.heap.size, 0, none⟩) 0 0) 0 []) := own_empty (Nat.le_refl _) (heap_alloc_new w4 _)
        have Q4a : Hid (Q w4 (w4.alloc (Obj.cells #[] 38))) := (Q.refl w4).alloc _
        have HSr4 : Hid (Src (w4.alloc (Obj.cells #[] 38)) (some (ad.add (st * 3))) (cellsG P)) := by
          have := src_sub8 (HR.out.q p4a.out) (a := st) (b := k + 1) (by omega) (by omega)
          rw [Hpn.out] at this
          exact this
        obtain ⟨i0, hi, hz0, hz1, hz2⟩ := info_parts nodeInfo8
        have Hi := Lib.hid hi
        have Hz0 := Lib.hid hz0
        have Hz1 := Lib.hid hz1
        have Hz2 := Lib.hid hz2
        clear q4 r4' hi hz0 hz1 hz2
        go_wp2_with (first
          | (at_builtin; refine wpList_append_src _ rfl (.tmp 54) (.tmp 59) _ rfl w4.heap.size 38 i0 _ 3 32 Try.underlying23 Hi.out Hz0.out Hz1.out Hz2.out rfl (by omega) (.slice (some ⟨w4.heap.size, 0, none⟩) 0 0) 0 [] rfl HE4.out (some (ad.add (st * 3))) (k + 1 - st) (d - st) (cellsG P) rfl (by rw [cellsG_len, Hpl.out]) HSr4.out (cellsG_one P) (by unfold maxLen; omega) (by omega) Q4a.out.size ?_; intro v5 w5 own5 gr5 _
             obtain ⟨g5, cap5, rfl⟩ := own_slice8 own5 (by omega)
             have q5 : Hid (Q w4 w5) := grown_q gr5 Q4a.out (Nat.le_refl _)
             have p5 := Lib.hid (p4.out.trans q5.out)
             have O5 := Lib.hid (O4.out.q q5.out)
             have R5 : Hid (Rds w5 w5.heap.size (some ⟨g5, 0, none⟩) (cellsG P)) := (OwnC.of_row own5).rds
             have d5 := byte_here O5.out Ht.out
             clear own5 gr5))
        refine (CPF.out _ p5.out _ _ _ Hpl.out.symm R5.out).mono ?_
        rintro e w6 ⟨a6, c6, rfl, _, r6, q6⟩
        have p6 := Lib.hid (p5.out.trans q6)
        have R6 := Lib.hid r6
        have O6 := Lib.hid (O5.out.q q6)
        have R56 := Lib.hid (R5.out.q q6)
        clear q6 r6 d5
        go_wp2_with fail
        refine (CC.out _ p6.out).mono ?_
        rintro e w7 ⟨rfl, q7⟩
        have p7 := Lib.hid (p6.out.trans q7)
        have R7 := Lib.hid (R6.out.q q7)
        have O7 := Lib.hid (O6.out.q q7)
        have R57 := Lib.hid (R56.out.q q7)
        have d7 := byte_here O7.out Ht.out
        clear q7
        go_wp2_with fail
        refine (CPC.out _ p7.out _ _ _ Hpl.out.symm R57.out).mono ?_
        rintro e w8 ⟨rfl, q8⟩
        have p8 := Lib.hid (p7.out.trans q8)
        have R8 := Lib.hid (R7.out.q q8)
        have O8 := Lib.hid (O7.out.q q8)
        have hpo : 0 < G.length := by rw [HpF.out, Hpl.out]; omega
        have HP8 := Lib.hid hpo
        have hsl : ∀ u : World, (Instr.slice 31 (.slice (some a3) l.length c3) (some (.int .i64 (st : Int))) (some (.int .i64 ((k : Int) + 1))) none).run Try.prog u = .ok (.slice (some (a3.add st)) (k + 1 - st) (c3 - st)) u := fun u => by
          have e : ((k : Int) + 1) = ((k + 1 : Nat) : Int) := by omega
          rw [e]
          exact slice_bytes8 a3 l.length c3 st (k + 1) (by omega) (by omega) u
        have htn : ((k : Int) + 1).toNat = k + 1 := by omega
        have hwr : IntKind.i64.wrap ((k : Int) + 1) = (k : Int) + 1 := IntWalk.i64_in _ (by omega)
        have HC1 : Hid (∀ W : World, Rds W W.heap.size (some a6) (cells8 G) → (convert 31 9 (.slice (some a6) G.length c6)).run Try.prog W = .ok (.string ⟨G.toArray⟩) W) := fun W h => conv8 h HP8.out
        have HC2 : Hid (∀ W : World, Rds W W.heap.size (some a3) (cells8 F) → (convert 31 9 (.slice (some (a3.add st)) (k + 1 - st) (c3 - st))).run Try.prog W = .ok (.string ⟨G.toArray⟩) W) := fun W h => by
          have := rds_sub8 h st (k + 1)
          rw [Hpf.out] at this
          rw [← Hpl.out, ← HpF.out]
          exact conv8 this HP8.out
        clear q8 hpo d7
        go_wp2_with fail
        have p8d := Lib.hid (p8.out.trans (Q.refl w8).drew)
        have R8d := Lib.hid (R8.out.q (Q.refl w8).drew)
        have O8d := Lib.hid (O8.out.q (Q.refl w8).drew)
        by_cases h2 : r2 = 0
        · obtain rfl := Hok.out h2
          subst h2
          refine wp_region_held_drew (S := fun w' => Rds w' w'.heap.size (some a6) (cells8 G) ∧ Rds w' w'.heap.size (some a3) (cells8 F)) (by kernel_rfl) ?_ (fun hHeld => ?_)
          · exact ⟨R8d.out, O8d.out⟩
          refine take_w (i := 0) (d := some 85) (v := ?_) rfl (by kernel_rfl) (by kernel_rfl) (by kernel_rfl) (fun _ _ _ h => h) rfl (by rfl) ?_ (by assumption) ?_
          rotate_left
          · (intro w hSw; (try dsimp only at hSw); go_simp; (try with_reducible rfl))
          try simp only [Act.put, List.setIfInBounds_toArray, List.set_cons_zero, List.set_cons_succ]
          refine take_w (i := 1) (d := some 86) (v := ?_) rfl (by kernel_rfl) (by kernel_rfl) (by kernel_rfl) (fun _ _ _ h => h) rfl (by rfl) ?_ (by assumption) ?_
          rotate_left
          · (intro w hSw; (try dsimp only at hSw); go_simp; (try with_reducible rfl))
          try simp only [Act.put, List.setIfInBounds_toArray, List.set_cons_zero, List.set_cons_succ]
          refine take_w (i := 2) (d := some 87) (v := ?_) rfl (by kernel_rfl) (by kernel_rfl) (by kernel_rfl) (fun _ _ _ h => h) rfl (by rfl) ?_ (by assumption) ?_
          rotate_left
          · (intro w hSw; (try dsimp only at hSw); go_simp; (try with_reducible rfl))
          try simp only [Act.put, List.setIfInBounds_toArray, List.set_cons_zero, List.set_cons_succ]
          refine take_w (i := 3) (d := some 88) (v := ?_) rfl (by kernel_rfl) (by kernel_rfl) (by kernel_rfl) (fun _ _ _ h => h) rfl (by rfl) ?_ (by assumption) ?_
          rotate_left
          · (intro w hSw; (try dsimp only at hSw); have hcv := HC1.out _ hSw.1; go_simp; (try with_reducible rfl))
          try simp only [Act.put, List.setIfInBounds_toArray, List.set_cons_zero, List.set_cons_succ]
          refine take_w (i := 4) (d := some 89) (v := ?_) rfl (by kernel_rfl) (by kernel_rfl) (by kernel_rfl) (fun _ _ _ h => h) rfl (by rfl) ?_ (by assumption) ?_
          rotate_left
          · (intro w hSw; (try dsimp only at hSw); go_simp; (try with_reducible rfl))
          try simp only [Act.put, List.setIfInBounds_toArray, List.set_cons_zero, List.set_cons_succ]
          refine take_w (i := 5) (d := some 90) (v := ?_) rfl (by kernel_rfl) (by kernel_rfl) (by kernel_rfl) (fun _ _ _ h => h) rfl (by rfl) ?_ (by assumption) ?_
          rotate_left
          · (intro w hSw; (try dsimp only at hSw); go_simp; (try with_reducible rfl))
          try simp only [Act.put, List.setIfInBounds_toArray, List.set_cons_zero, List.set_cons_succ]
          refine take_w (i := 6) (d := some 91) (v := ?_) rfl (by kernel_rfl) (by kernel_rfl) (by kernel_rfl) (fun _ _ _ h => h) rfl (by rfl) ?_ (by assumption) ?_
          rotate_left
          · (intro w hSw; (try dsimp only at hSw); go_simp; (try with_reducible rfl))
          try simp only [Act.put, List.setIfInBounds_toArray, List.set_cons_zero, List.set_cons_succ]
          refine take_w (i := 7) (d := some 92) (v := ?_) rfl (by kernel_rfl) (by kernel_rfl) (by kernel_rfl) (fun _ _ _ h => h) rfl (by rfl) ?_ (by assumption) ?_
          rotate_left
          · (intro w hSw; (try dsimp only at hSw); go_simp; (try with_reducible rfl))
          try simp only [Act.put, List.setIfInBounds_toArray, List.set_cons_zero, List.set_cons_succ]
          refine take_w (i := 8) (d := some 93) (v := ?_) rfl (by kernel_rfl) (by kernel_rfl) (by kernel_rfl) (fun _ _ _ h => h) rfl (by rfl) ?_ (by assumption) ?_
          rotate_left
          · (intro w hSw; (try dsimp only at hSw); go_simp; (try with_reducible rfl))
          try simp only [Act.put, List.setIfInBounds_toArray, List.set_cons_zero, List.set_cons_succ]
          refine take_w (i := 9) (d := some 94) (v := ?_) rfl (by kernel_rfl) (by kernel_rfl) (by kernel_rfl) (fun _ _ _ h => h) rfl (by rfl) ?_ (by assumption) ?_
          rotate_left
          · (intro w hSw; (try dsimp only at hSw); have hcv := HC2.out _ hSw.2; go_simp; (try with_reducible rfl))
          try simp only [Act.put, List.setIfInBounds_toArray, List.set_cons_zero, List.set_cons_succ]
          refine take_w (i := 10) (d := some 95) (v := ?_) rfl (by kernel_rfl) (by kernel_rfl) (by kernel_rfl) (fun _ _ _ h => h) rfl (by rfl) ?_ (by assumption) ?_
          rotate_left
          · (intro w hSw; (try dsimp only at hSw); go_simp; (try with_reducible rfl))
          try simp only [Act.put, List.setIfInBounds_toArray, List.set_cons_zero, List.set_cons_succ]
          refine take_w (i := 11) (d := some 96) (v := ?_) rfl (by kernel_rfl) (by kernel_rfl) (by kernel_rfl) (fun _ _ _ h => h) rfl (by rfl) ?_ (by assumption) ?_
          rotate_left
          · (intro w hSw; (try dsimp only at hSw); go_simp; (try with_reducible rfl))
          try simp only [Act.put, List.setIfInBounds_toArray, List.set_cons_zero, List.set_cons_succ]
          refine take_w (i := 12) (d := some 97) (v := ?_) rfl (by kernel_rfl) (by kernel_rfl) (by kernel_rfl) (fun _ _ _ h => h) rfl (by rfl) ?_ (by assumption) ?_
          rotate_left
          · (intro w hSw; (try dsimp only at hSw); go_simp; (try with_reducible rfl))
          try simp only [Act.put, List.setIfInBounds_toArray, List.set_cons_zero, List.set_cons_succ]
          refine take_w (i := 13) (d := some 98) (v := ?_) rfl (by kernel_rfl) (by kernel_rfl) (by kernel_rfl) (fun _ _ _ h => h) rfl (by rfl) ?_ (by assumption) ?_
          rotate_left
          · (intro w hSw; (try dsimp only at hSw); go_simp; (try with_reducible rfl))
          try simp only [Act.put, List.setIfInBounds_toArray, List.set_cons_zero, List.set_cons_succ]
          refine take_w (i := 14) (d := some 99) (v := ?_) rfl (by kernel_rfl) (by kernel_rfl) (by kernel_rfl) (fun _ _ _ h => h) rfl (by rfl) ?_ (by assumption) ?_
          rotate_left
          · (intro w hSw; (try dsimp only at hSw); go_simp; (try with_reducible rfl))
          try simp only [Act.put, List.setIfInBounds_toArray, List.set_cons_zero, List.set_cons_succ]
          refine take_w (i := 15) (d := some 100) (v := ?_) rfl (by kernel_rfl) (by kernel_rfl) (by kernel_rfl) (fun _ _ _ h => h) rfl (by rfl) ?_ (by assumption) ?_
          rotate_left
          · (intro w hSw; (try dsimp only at hSw); go_simp; (try with_reducible rfl))
          try simp only [Act.put, List.setIfInBounds_toArray, List.set_cons_zero, List.set_cons_succ]
          refine take_w (i := 16) (d := some 101) (v := ?_) rfl (by kernel_rfl) (by kernel_rfl) (by kernel_rfl) (fun _ _ _ h => h) rfl (by rfl) ?_ (by assumption) ?_
          rotate_left
          · (intro w hSw; (try dsimp only at hSw); go_simp; (try with_reducible rfl))
          try simp only [Act.put, List.setIfInBounds_toArray, List.set_cons_zero, List.set_cons_succ]
          refine take_w (i := 17) (d := some 102) (v := ?_) rfl (by kernel_rfl) (by kernel_rfl) (by kernel_rfl) (fun _ _ _ h => h) rfl (by rfl) ?_ (by assumption) ?_
          rotate_left
          · (intro w hSw; (try dsimp only at hSw); go_simp; (try with_reducible rfl))
          try simp only [Act.put, List.setIfInBounds_toArray, List.set_cons_zero, List.set_cons_succ]
          refine take_w (i := 18) (d := some 103) (v := ?_) rfl (by kernel_rfl) (by kernel_rfl) (by kernel_rfl) (fun _ _ _ h => h) rfl (by rfl) ?_ (by assumption) ?_
          rotate_left
          · (intro w hSw; (try dsimp only at hSw); go_simp; (try with_reducible rfl))
          try simp only [Act.put, List.setIfInBounds_toArray, List.set_cons_zero, List.set_cons_succ]
          refine take_w (i := 19) (d := some 104) (v := ?_) rfl (by kernel_rfl) (by kernel_rfl) (by kernel_rfl) (fun _ _ _ h => h) rfl (by rfl) ?_ (by assumption) ?_
          rotate_left
          · (intro w hSw; (try dsimp only at hSw); go_simp; (try with_reducible rfl))
          try simp only [Act.put, List.setIfInBounds_toArray, List.set_cons_zero, List.set_cons_succ]
          refine take_w (i := 20) (d := some 2) (v := ?_) rfl (by kernel_rfl) (by kernel_rfl) (by kernel_rfl) (fun _ _ _ h => h) rfl (by rfl) ?_ (by assumption) ?_
          rotate_left
          · (intro w hSw; (try dsimp only at hSw); go_simp; (try with_reducible rfl))
          try simp only [Act.put, List.setIfInBounds_toArray, List.set_cons_zero, List.set_cons_succ]
          refine wpAnyH_done (by kernel_rfl) ?_ _
          go_wp2_with fail
          go_ret
          exact ⟨by first | rfl | simp, p8d.out⟩
        · have e2 : (r2 == 0) = false := beq_eq_false_iff_ne.2 h2
          have e2' : (r2 != 0) = true := bne_iff_ne.2 h2
          clear h2
          refine wp_region_held_drew (S := fun w' => Rds w' w'.heap.size (some a6) (cells8 G) ∧ Rds w' w'.heap.size (some a3) (cells8 F)) (by kernel_rfl) ?_ (fun hHeld => ?_)
          · exact ⟨R8d.out, O8d.out⟩
          refine take_w (i := 0) (d := some 85) (v := ?_) rfl (by kernel_rfl) (by kernel_rfl) (by kernel_rfl) (fun _ _ _ h => h) rfl (by rfl) ?_ (by assumption) ?_
          rotate_left
          · (intro w hSw; (try dsimp only at hSw); go_simp; (try with_reducible rfl))
          try simp only [Act.put, List.setIfInBounds_toArray, List.set_cons_zero, List.set_cons_succ]
          refine take_w (i := 1) (d := some 86) (v := ?_) rfl (by kernel_rfl) (by kernel_rfl) (by kernel_rfl) (fun _ _ _ h => h) rfl (by rfl) ?_ (by assumption) ?_
          rotate_left
          · (intro w hSw; (try dsimp only at hSw); go_simp; (try with_reducible rfl))
          try simp only [Act.put, List.setIfInBounds_toArray, List.set_cons_zero, List.set_cons_succ]
          refine take_w (i := 2) (d := some 87) (v := ?_) rfl (by kernel_rfl) (by kernel_rfl) (by kernel_rfl) (fun _ _ _ h => h) rfl (by rfl) ?_ (by assumption) ?_
          rotate_left
          · (intro w hSw; (try dsimp only at hSw); go_simp; (try with_reducible rfl))
          try simp only [Act.put, List.setIfInBounds_toArray, List.set_cons_zero, List.set_cons_succ]
          refine take_w (i := 3) (d := some 88) (v := ?_) rfl (by kernel_rfl) (by kernel_rfl) (by kernel_rfl) (fun _ _ _ h => h) rfl (by rfl) ?_ (by assumption) ?_
          rotate_left
          · (intro w hSw; (try dsimp only at hSw); have hcv := HC1.out _ hSw.1; go_simp; (try with_reducible rfl))
          try simp only [Act.put, List.setIfInBounds_toArray, List.set_cons_zero, List.set_cons_succ]
          refine take_w (i := 4) (d := some 89) (v := ?_) rfl (by kernel_rfl) (by kernel_rfl) (by kernel_rfl) (fun _ _ _ h => h) rfl (by rfl) ?_ (by assumption) ?_
          rotate_left
          · (intro w hSw; (try dsimp only at hSw); go_simp; (try with_reducible rfl))
          try simp only [Act.put, List.setIfInBounds_toArray, List.set_cons_zero, List.set_cons_succ]
          refine take_w (i := 5) (d := some 90) (v := ?_) rfl (by kernel_rfl) (by kernel_rfl) (by kernel_rfl) (fun _ _ _ h => h) rfl (by rfl) ?_ (by assumption) ?_
          rotate_left
          · (intro w hSw; (try dsimp only at hSw); go_simp; (try with_reducible rfl))
          try simp only [Act.put, List.setIfInBounds_toArray, List.set_cons_zero, List.set_cons_succ]
          refine take_w (i := 6) (d := some 91) (v := ?_) rfl (by kernel_rfl) (by kernel_rfl) (by kernel_rfl) (fun _ _ _ h => h) rfl (by rfl) ?_ (by assumption) ?_
          rotate_left
          · (intro w hSw; (try dsimp only at hSw); go_simp; (try with_reducible rfl))
          try simp only [Act.put, List.setIfInBounds_toArray, List.set_cons_zero, List.set_cons_succ]
          refine take_w (i := 7) (d := some 92) (v := ?_) rfl (by kernel_rfl) (by kernel_rfl) (by kernel_rfl) (fun _ _ _ h => h) rfl (by rfl) ?_ (by assumption) ?_
          rotate_left
          · (intro w hSw; (try dsimp only at hSw); go_simp; (try with_reducible rfl))
          try simp only [Act.put, List.setIfInBounds_toArray, List.set_cons_zero, List.set_cons_succ]
          refine take_w (i := 8) (d := some 93) (v := ?_) rfl (by kernel_rfl) (by kernel_rfl) (by kernel_rfl) (fun _ _ _ h => h) rfl (by rfl) ?_ (by assumption) ?_
          rotate_left
          · (intro w hSw; (try dsimp only at hSw); go_simp; (try with_reducible rfl))
          try simp only [Act.put, List.setIfInBounds_toArray, List.set_cons_zero, List.set_cons_succ]
          refine take_w (i := 9) (d := some 94) (v := ?_) rfl (by kernel_rfl) (by kernel_rfl) (by kernel_rfl) (fun _ _ _ h => h) rfl (by rfl) ?_ (by assumption) ?_
          rotate_left
          · (intro w hSw; (try dsimp only at hSw); have hcv := HC2.out _ hSw.2; go_simp; (try with_reducible rfl))
          try simp only [Act.put, List.setIfInBounds_toArray, List.set_cons_zero, List.set_cons_succ]
          refine take_w (i := 10) (d := some 95) (v := ?_) rfl (by kernel_rfl) (by kernel_rfl) (by kernel_rfl) (fun _ _ _ h => h) rfl (by rfl) ?_ (by assumption) ?_
          rotate_left
          · (intro w hSw; (try dsimp only at hSw); go_simp; (try with_reducible rfl))
          try simp only [Act.put, List.setIfInBounds_toArray, List.set_cons_zero, List.set_cons_succ]
          refine take_w (i := 11) (d := some 96) (v := ?_) rfl (by kernel_rfl) (by kernel_rfl) (by kernel_rfl) (fun _ _ _ h => h) rfl (by rfl) ?_ (by assumption) ?_
          rotate_left
          · (intro w hSw; (try dsimp only at hSw); go_simp; (try with_reducible rfl))
          try simp only [Act.put, List.setIfInBounds_toArray, List.set_cons_zero, List.set_cons_succ]
          refine take_w (i := 12) (d := some 97) (v := ?_) rfl (by kernel_rfl) (by kernel_rfl) (by kernel_rfl) (fun _ _ _ h => h) rfl (by rfl) ?_ (by assumption) ?_
          rotate_left
          · (intro w hSw; (try dsimp only at hSw); go_simp; (try with_reducible rfl))
          try simp only [Act.put, List.setIfInBounds_toArray, List.set_cons_zero, List.set_cons_succ]
          refine take_w (i := 13) (d := some 98) (v := ?_) rfl (by kernel_rfl) (by kernel_rfl) (by kernel_rfl) (fun _ _ _ h => h) rfl (by rfl) ?_ (by assumption) ?_
          rotate_left
          · (intro w hSw; (try dsimp only at hSw); go_simp; (try with_reducible rfl))
          try simp only [Act.put, List.setIfInBounds_toArray, List.set_cons_zero, List.set_cons_succ]
          refine take_w (i := 14) (d := some 99) (v := ?_) rfl (by kernel_rfl) (by kernel_rfl) (by kernel_rfl) (fun _ _ _ h => h) rfl (by rfl) ?_ (by assumption) ?_
          rotate_left
          · (intro w hSw; (try dsimp only at hSw); go_simp; (try with_reducible rfl))
          try simp only [Act.put, List.setIfInBounds_toArray, List.set_cons_zero, List.set_cons_succ]
          refine take_w (i := 15) (d := some 100) (v := ?_) rfl (by kernel_rfl) (by kernel_rfl) (by kernel_rfl) (fun _ _ _ h => h) rfl (by rfl) ?_ (by assumption) ?_
          rotate_left
          · (intro w hSw; (try dsimp only at hSw); go_simp; (try with_reducible rfl))
          try simp only [Act.put, List.setIfInBounds_toArray, List.set_cons_zero, List.set_cons_succ]
          refine take_u (i := 16) (d := some 101) rfl (by kernel_rfl) (by kernel_rfl) (by kernel_rfl) (fun _ _ _ h => h) rfl (by rfl) (by assumption) ?_
          try simp only [Act.put, List.setIfInBounds_toArray, List.set_cons_zero, List.set_cons_succ]
          refine take_u (i := 17) (d := some 102) rfl (by kernel_rfl) (by kernel_rfl) (by kernel_rfl) (fun _ _ _ h => h) rfl (by rfl) (by assumption) ?_
          try simp only [Act.put, List.setIfInBounds_toArray, List.set_cons_zero, List.set_cons_succ]
          refine take_w (i := 18) (d := some 103) (v := ?_) rfl (by kernel_rfl) (by kernel_rfl) (by kernel_rfl) (fun _ _ _ h => h) rfl (by rfl) ?_ (by assumption) ?_
          rotate_left
          · (intro w hSw; (try dsimp only at hSw); go_simp; (try with_reducible rfl))
          try simp only [Act.put, List.setIfInBounds_toArray, List.set_cons_zero, List.set_cons_succ]
          refine take_w (i := 19) (d := some 104) (v := ?_) rfl (by kernel_rfl) (by kernel_rfl) (by kernel_rfl) (fun _ _ _ h => h) rfl (by rfl) ?_ (by assumption) ?_
          rotate_left
          · (intro w hSw; (try dsimp only at hSw); go_simp; (try with_reducible rfl))
          try simp only [Act.put, List.setIfInBounds_toArray, List.set_cons_zero, List.set_cons_succ]
          refine take_w (i := 20) (d := some 2) (v := ?_) rfl (by kernel_rfl) (by kernel_rfl) (by kernel_rfl) (fun _ _ _ h => h) rfl (by rfl) ?_ (by assumption) ?_
          rotate_left
          · (intro w hSw; (try dsimp only at hSw); go_simp; (try with_reducible rfl))
          try simp only [Act.put, List.setIfInBounds_toArray, List.set_cons_zero, List.set_cons_succ]
          refine wpAnyH_done (by kernel_rfl) ?_ _
          go_wp2_with fail
          go_ret
          exact ⟨by first | rfl | simp, p8d.out⟩

set_option maxRecDepth 100000 in
theorem lifted (os : Os) (started : os.Started) (H : Type) (enc : TypeId × Value → H) :
    ReturnsInHanded {} Try.checked os 5 .any (Rows.sidePartsSpec.pre6 enc Try.prog Try.f5 Rows.sidePartsRow.domain false) (Rows.sidePartsSpec.post enc Try.prog Try.f5 false true false false) := by
  refine returnsInHanded_of_change_sized (C := Try.checked) own started (by kernel_rfl) Try.func5
    (ChangeSpec.witness6 (enc := enc) (C := Try.checked) false ⟨#[], #[.agg #[.slice none 0 0, .slice none 0 0, .int .u8 0, .int .i64 0]], []⟩ 8 (by kernel_rfl) (by kernel_rfl) (by kernel_rfl) (by kernel_rfl)) ?_
  intro W base args ds gs before hval0 hW hcnd hsz0 _
  have hval : ∀ (j : Nat) t v, Try.f5.params[j]? = some t → args[j]? = some v → Value.okWide Try.prog W .any base t v := hval0
  have hW' := hW
  obtain ⟨p, q, hA0, hV, rfl, hfz, hnd⟩ := hW
  have hA : DataW.TrodAll enc Try.prog W 0 (fun _ => true) true Try.f5.params.toList args.toList ds p := hA0
  rw [Try.params5] at hA hval
  obtain ⟨v0, vs0, d0, ds0, p0, q0, hargs, rfl, rfl, h0, r0⟩ := trodAll_cons hA
  obtain ⟨rfl, rfl, rfl⟩ := trodAll_nil r0
  obtain rfl : args = #[v0] := by cases args; simp_all
  obtain ⟨rfl, rfl⟩ := trodVars_none hV
  have z0 : ∀ n ∈ d0.weights Try.prog 40, n ≤ reachBytes := fun n hn => by
    have := List.all_eq_true.1 hsz0 n (DataW.weights_mem_each (j := 0) (t := 40) (d := d0) (by rw [Try.params5]; rfl) rfl n hn)
    simpa using this
  obtain ⟨A0, B0, m0, c0, n0, k0, L0, l0, sb, ka, rfl, y0, hL0, g0, s0, x0, hr0, w0, u0, r0⟩ := open_SidePartsIn (hval 0 40 v0 rfl rfl) h0 z0
  clear hA0 hval0
  refine (walk A0 B0 m0 c0 n0 k0 L0 l0 sb ka W y0 x0 hL0 s0 g0 hr0 w0 u0 r0).mono fun e W' ⟨he, hg⟩ => ?_
  subst he
  exact ⟨_, rfl, post_law laid (by rw [Try.params5]; decide +kernel) rfl rfl (by kernel_rfl) Try.underlying4 hW' hg⟩

/-- THE STATEMENT -/
theorem proved : Rows.SidePartsSaid :=
  OpenClaim.holds_of_wide 5 Try.f5 rfl rfl rfl rfl rfl rfl rfl ⟨rfl, rfl, rfl, rfl, rfl⟩ rfl rfl rfl rfl rfl (by kernel_rfl) Try.func5 (by kernel_rfl)
    (of_decide_eq_true (by kernel_rfl)) (by unfold Func.isWrapper; first | (rw [if_pos (by decide +kernel)]; kernel_rfl) | (rw [if_neg (by decide +kernel)]; exact ⟨rfl, rfl⟩))
    (fun os started H enc _ => lifted os started H enc)
end Go.Proofs.Ytmohedkhbjeapaa.sideParts
