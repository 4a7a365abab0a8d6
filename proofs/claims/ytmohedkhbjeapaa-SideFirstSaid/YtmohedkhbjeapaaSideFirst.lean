/-
  SideFirst holds: what may not be is at a node, and nothing ahead of it may not be, as its own expression on its side. No conditions.
-/
import Derived.Test.YtmohedkhbjeapaaSideX
import Derived.Test.YtmohedkhbjeapaaRef1Open
import Derived.Test.YtmohedkhbjeapaaExprOpen
import Derived.Test.YtmohedkhbjeapaaRows
import Derived.OpenShut
import Derived.RegionTactic
namespace Go.Proofs.Ytmohedkhbjeapaa.sideFirst
open Go.ChangeShapes Go.WideShapes Go.ChangeAt Go.RowKit Kit Rw Ex
open Go.ChangeMaps (open_string shut_string)
open Go.Proofs.Ytmohedkhbjeapaa.Sg (Sig Row Sized)

theorem len8 (L : List Sig) (s : UInt8) {l : List Tg} {x : Ex} (hs : runS [] l = some [x]) : (x.sides L s).length = l.length := by
  have hx : x.size = l.length := by
    have := run_sum (i := l.length) (by rw [List.take_length]; exact hs) (Nat.le_refl _)
    simpa [sumS] using this
  rw [sides_len, hx]
set_option maxRecDepth 100000 in
set_option maxHeartbeats 8000000 in
theorem walk (A B : Option Addr) (m c n d : Nat) (L : List Sig) (l : List Tg) (s : UInt8) (ka : Int) (w : World) (hm : m = L.length) (hn : n = l.length) (hL : Row w w.heap.size A L) (hS : Sized L) (hl8 : L.length ≤ maxLen) (hr : Rds w w.heap.size B (cellsG l)) (hl : l.length ≤ 140737488355328) (hld : n ≤ d) (hz : ∀ t ∈ l, t.2.1.size ≤ 140737488355328) :
    Calls Try.prog 8 #[.agg #[.slice A m c, .slice B n d, .int .u8 (s.toNat : Int), .int .i64 ka]] w fun e w' => e = .returned (.bool true) ∧ Q w w' := by
  subst hm hn
  have HL := Lib.hid hL
  have HR := Lib.hid hr
  have CO := Lib.hid (fun (W : World) (q : Q w W) => of_any8 A B L.length c l.length d L l W rfl rfl ((hL.q (Nat.le_refl _) q).more q.size) hS hl8 (hr.q q) hl hz)
  clear hL hS hr hz
  cases hof : ofB L l
  · rw [hof] at CO
    clear hof hld
    go_enter Try.func8, Try.ntmps8
    go_wp2_with fail
    refine (shown8_any _).mono ?_
    rintro e w1 ⟨rfl, q1⟩
    have p1 := Lib.hid (((Q.refl w).alloc _).trans q1)
    clear q1
    go_wp2_with fail
    refine (CO.out _ p1.out).mono ?_
    rintro e w2 ⟨rfl, q2⟩
    have p2 := Lib.hid (p1.out.trans q2)
    clear q2
    go_wp2_with fail
    go_ret
    exact ⟨by first | rfl | simp, p2.out⟩
  · rw [hof] at CO
    obtain ⟨h64, hf, hm, ⟨x, hs⟩, hpos, h600⟩ := ofB_out hof
    have HF := Lib.hid (len8 L (side0 s) hs)
    have CF := Lib.hid (fun (W : World) (q : Q w W) => sideOf_cap A B L.length c l.length d L l x s W rfl rfl ((HL.out.q (Nat.le_refl _) q).more q.size) (HR.out.q q) (by omega) h600 hm hs)
    have CC := Lib.hid (fun (W : World) (q : Q w W) => sideCheck_any A B L.length c l.length d L l x s W rfl rfl ((HL.out.q (Nat.le_refl _) q).more q.size) (HR.out.q q) (by omega) h600 hm hs)
    have d0 : decide ((l.length : Int) ≤ 0) = false := decide_eq_false (by omega)
    have d0' : decide (l.length = 0) = false := decide_eq_false (by omega)
    have d0'' : decide (l.length ≤ 0) = false := decide_eq_false (by omega)
    rcases checkF_first L l (x.sides L (side0 s)) 0 HF.out with ⟨h1, _⟩ | ⟨j, hj, hj', h1, h2, h3⟩
    · rw [h1] at CC
      have CC2 : Hid (∀ W : World, Q w W → Calls Try.prog 12 #[.slice A L.length c, .slice B l.length d, .int .u8 (s.toNat : Int)] W fun e w' => e = .returned (.tuple #[.int .i64 0, .int .i64 0]) ∧ Q W w') := CC
      have hne : ¬ l = [] := fun e => by rw [e] at hpos; exact absurd hpos (Nat.lt_irrefl _)
      clear CC h1 hof hf hm hs h64 hld
      generalize x.sides L (side0 s) = F at *
      have CC := CC2
      clear CC2
      go_enter Try.func8, Try.ntmps8
      go_wp2_with fail
      refine (shown8_any _).mono ?_
      rintro e w1 ⟨rfl, q1⟩
      have p1 := Lib.hid (((Q.refl w).alloc _).trans q1)
      clear q1
      go_wp2_with fail
      refine (CO.out _ p1.out).mono ?_
      rintro e w2 ⟨rfl, q2⟩
      have p2 := Lib.hid (p1.out.trans q2)
      clear q2
      go_wp2_with fail
      refine (CC.out _ p2.out).mono ?_
      rintro e w3 ⟨rfl, q3⟩
      have p3 := Lib.hid (p2.out.trans q3)
      clear q3
      go_wp2_with fail
      refine (CF.out _ p3.out).mono ?_
      rintro e w4 ⟨a4, c4, rfl, hc4, o4, q4⟩
      have p4 := Lib.hid (p3.out.trans q4)
      have O4 := Lib.hid o4
      clear q4 o4
      rw [HF.out] at hc4 ⊢
      go_wp2_with fail
      go_ret
      exact ⟨by first | rfl | simp, p4.out⟩
    · rw [h1, Nat.zero_add] at CC
      have e2 : (badN L l[j] (x.sides L (side0 s))[j] == 0) = false := beq_eq_false_iff_ne.2 h2
      have e2' : (badN L l[j] (x.sides L (side0 s))[j] != 0) = true := bne_iff_ne.2 h2
      have j1 : decide ((j : Int) < 0) = false := decide_eq_false (by omega)
      have j2 : decide ((l.length : Int) ≤ (j : Int)) = false := decide_eq_false (by omega)
      have j2' : decide (l.length ≤ j) = false := decide_eq_false (by omega)
      have HB := Lib.hid h3
      clear h1 h2 h3
      generalize badN L l[j] (x.sides L (side0 s))[j] = r2 at *
      by_cases hk0 : ka < 0
      · have d1 : decide (ka < 0) = true := decide_eq_true hk0
        clear hof hf hm hs h64 hld HB hj'
        generalize x.sides L (side0 s) = F at *
        go_enter Try.func8, Try.ntmps8
        go_wp2_with fail
        refine (shown8_any _).mono ?_
        rintro e w1 ⟨rfl, q1⟩
        have p1 := Lib.hid (((Q.refl w).alloc _).trans q1)
        clear q1
        go_wp2_with fail
        refine (CO.out _ p1.out).mono ?_
        rintro e w2 ⟨rfl, q2⟩
        have p2 := Lib.hid (p1.out.trans q2)
        clear q2
        go_wp2_with fail
        refine (CC.out _ p2.out).mono ?_
        rintro e w3 ⟨rfl, q3⟩
        have p3 := Lib.hid (p2.out.trans q3)
        clear q3
        go_wp2_with fail
        refine (CF.out _ p3.out).mono ?_
        rintro e w4 ⟨a4, c4, rfl, hc4, o4, q4⟩
        have p4 := Lib.hid (p3.out.trans q4)
        have O4 := Lib.hid o4
        clear q4 o4
        rw [HF.out] at hc4 ⊢
        go_wp2_with fail
        go_ret
        exact ⟨by first | rfl | simp, p4.out⟩
      · by_cases hk1 : (j : Int) ≤ ka
        · have d1 : decide (ka < 0) = false := decide_eq_false hk0
          have d2 : decide ((j : Int) ≤ ka) = true := decide_eq_true hk1
          clear hof hf hm hs h64 hld HB hj'
          generalize x.sides L (side0 s) = F at *
          go_enter Try.func8, Try.ntmps8
          go_wp2_with fail
          refine (shown8_any _).mono ?_
          rintro e w1 ⟨rfl, q1⟩
          have p1 := Lib.hid (((Q.refl w).alloc _).trans q1)
          clear q1
          go_wp2_with fail
          refine (CO.out _ p1.out).mono ?_
          rintro e w2 ⟨rfl, q2⟩
          have p2 := Lib.hid (p1.out.trans q2)
          clear q2
          go_wp2_with fail
          refine (CC.out _ p2.out).mono ?_
          rintro e w3 ⟨rfl, q3⟩
          have p3 := Lib.hid (p2.out.trans q3)
          clear q3
          go_wp2_with fail
          refine (CF.out _ p3.out).mono ?_
          rintro e w4 ⟨a4, c4, rfl, hc4, o4, q4⟩
          have p4 := Lib.hid (p3.out.trans q4)
          have O4 := Lib.hid o4
          clear q4 o4
          rw [HF.out] at hc4 ⊢
          go_wp2_with fail
          go_ret
          exact ⟨by first | rfl | simp, p4.out⟩
        · obtain ⟨k, rfl⟩ : ∃ k : Nat, ka = (k : Int) := ⟨ka.toNat, by omega⟩
          have hkj : k < j := by omega
          have hk : k < l.length := by omega
          have d1 : decide ((k : Int) < 0) = false := decide_eq_false (by omega)
          have d2 : decide ((j : Int) ≤ (k : Int)) = false := decide_eq_false (by omega)
          have d2' : decide (j ≤ k) = false := decide_eq_false (by omega)
          obtain ⟨x1, t, ht, hpn, hpf, hst, hsp, hlt, hpl, hpF⟩ := part_all L s hs hk
          have CS := Lib.hid (fun (W : World) (q : Q w W) => starts_any B l.length d l [x] W rfl (HR.out.q q) (by omega) hm hs)
          have hpm : ∀ u ∈ x1.nodes, mayN u = true := fun u hu => hm u (by rw [← hpn] at hu; exact List.mem_of_mem_take (List.mem_of_mem_drop hu))
          have hok : (checkF L x1.nodes (x1.sides L t) 0).2 = 0 := part_ok L HF.out hk hpn hpf fun i hi => HB.out i (by omega)
          have CPC := Lib.hid (fun (W : World) (q : Q w W) (g cap nn : Nat) (hnn : nn = x1.nodes.length) (h : Rds W W.heap.size (some ⟨g, 0, none⟩) (cellsG x1.nodes)) => show Calls Try.prog 12 #[.slice A L.length c, .slice (some ⟨g, 0, none⟩) nn cap, .int .u8 (t.toNat : Int)] W (fun e w' => e = .returned (.tuple #[.int .i64 (checkF L x1.nodes (x1.sides L t) 0).1, .int .i64 0]) ∧ Q W w') by
            have := sideCheck_any A (some ⟨g, 0, none⟩) L.length c nn cap L x1.nodes x1 t W rfl hnn ((HL.out.q (Nat.le_refl _) q).more q.size) h (by omega) (by omega) hpm hsp
            rwa [hst, hok] at this)
          have Hpn := Lib.hid hpn
          have Hpl := Lib.hid hpl
          have Ht := Lib.hid ht
          clear hok hpn hpf hpm hsp hof hf hm hs h64 hst ht hpl hpF HB hj'
          generalize x.sides L (side0 s) = F at *
          generalize x1.sides L t = G at *
          generalize x1.nodes = P at *
          generalize (checkF L P G 0).1 = r3 at *
          have HS : Hid (∀ (W : World) (S : Option Addr), Rds W W.heap.size S (cellsI (startsL l l.length)) → ∃ sd, S = some sd ∧ W.cell? (sd.add k) = some (.int .i64 (startOf l k : Int))) := fun W S h => by
            obtain ⟨sd, e, _, a0⟩ := int_at h (k := k) (by rw [startsL_len]; omega)
            subst e
            rw [startsL_at l _ _ (by omega)] at a0
            exact ⟨sd, rfl, a0⟩
          generalize startOf l k = st at *
          obtain ⟨ad, rfl, _⟩ := tok_at HR.out hpos
          go_enter Try.func8, Try.ntmps8
          go_wp2_with fail
          refine (shown8_any _).mono ?_
          rintro e w1 ⟨rfl, q1⟩
          have p1 := Lib.hid (((Q.refl w).alloc _).trans q1)
          clear q1
          go_wp2_with fail
          refine (CO.out _ p1.out).mono ?_
          rintro e w2 ⟨rfl, q2⟩
          have p2 := Lib.hid (p1.out.trans q2)
          clear q2
          go_wp2_with fail
          refine (CC.out _ p2.out).mono ?_
          rintro e w3 ⟨rfl, q3⟩
          have p3 := Lib.hid (p2.out.trans q3)
          clear q3
          go_wp2_with fail
          refine (CF.out _ p3.out).mono ?_
          rintro e w4 ⟨a4, c4, rfl, hc4, o4, q4⟩
          have p4 := Lib.hid (p3.out.trans q4)
          have O4 := Lib.hid o4
          clear q4 o4
          rw [HF.out] at hc4 ⊢
          go_wp2_with fail
          refine (CS.out _ p4.out).mono ?_
          rintro e w5 ⟨S5, c5, rfl, _, r5', q5⟩
          obtain ⟨sd, rfl, d5⟩ := HS.out _ _ r5'
          have p5 := Lib.hid (p4.out.trans q5)
          have O5 := Lib.hid (O4.out.q q5)
          have p5a : Hid (Q w (w5.drew.alloc (Obj.cells #[] 38))) := (p5.out.trans (Q.refl w5).drew).alloc _
          have HE5 : Hid ((w5.drew.alloc (Obj.cells #[] 38)).ownsRow w5.heap.size 38 3 (.slice (some ⟨w5.heap.size, 0, none⟩) 0 0) 0 []) := own_empty (Nat.le_refl _) (heap_alloc_new w5.drew _)
          have Q5a : Hid (Q w5 (w5.drew.alloc (Obj.cells #[] 38))) := (Q.refl w5).drew.alloc _
          have HSr5 : Hid (Src (w5.drew.alloc (Obj.cells #[] 38)) (some (ad.add (st * 3))) (cellsG P)) := by
            have := src_sub8 (HR.out.q p5a.out) (a := st) (b := k + 1) (by omega) (by omega)
            rw [Hpn.out] at this
            exact this
          obtain ⟨i0, hi, hz0, hz1, hz2⟩ := info_parts nodeInfo8
          have Hi := Lib.hid hi
          have Hz0 := Lib.hid hz0
          have Hz1 := Lib.hid hz1
          have Hz2 := Lib.hid hz2
          have O5d := Lib.hid (O5.out.q (Q.refl w5).drew)
          have O5a := Lib.hid (O5.out.q Q5a.out)
          have hwr : IntKind.i64.wrap ((k : Int) + 1) = (k : Int) + 1 := IntWalk.i64_in _ (by omega)
          have htn : ((k : Int) + 1).toNat = k + 1 := by omega
          have hsl : ∀ u : World, (Instr.slice 23 (.slice (some ad) l.length d) (some (.int .i64 (st : Int))) (some (.int .i64 ((k : Int) + 1))) none).run Try.prog u = .ok (.slice (some (ad.add (st * 3))) (k + 1 - st) (d - st)) u := fun u => by
            have e : ((k : Int) + 1) = ((k + 1 : Nat) : Int) := by omega
            rw [e]
            exact slice_nodes8 (some ad) l.length d st (k + 1) (by omega) (by omega) u
          clear q5 r5' hi hz0 hz1 hz2
          go_wp2_with fail
          refine wp_region_held_drew (S := fun w' => w'.cell? (a4.add k) = some (.int .u8 (t.toNat : Int))) (by kernel_rfl) ?_ (fun hHeld => ?_)
          · exact byte_here O5d.out Ht.out
          refine take_w (i := 0) (d := some 80) (v := ?_) rfl (by kernel_rfl) (by kernel_rfl) (by kernel_rfl) (fun _ _ _ h => h) rfl (by rfl) ?_ (by assumption) ?_
          rotate_left
          · (intro w hSw; (try dsimp only at hSw); go_simp; (try with_reducible rfl))
          try simp only [Act.put, List.setIfInBounds_toArray, List.set_cons_zero, List.set_cons_succ]
          refine take_w (i := 2) (d := some 82) (v := ?_) rfl (by kernel_rfl) (by kernel_rfl) (by kernel_rfl) (fun _ _ _ h => h) rfl (by rfl) ?_ (by assumption) ?_
          rotate_left
          · (intro w hSw; (try dsimp only at hSw); go_simp; (try with_reducible rfl))
          try simp only [Act.put, List.setIfInBounds_toArray, List.set_cons_zero, List.set_cons_succ]
          refine take_w (i := 3) (d := some 83) (v := ?_) rfl (by kernel_rfl) (by kernel_rfl) (by kernel_rfl) (fun _ _ _ h => h) rfl (by rfl) ?_ (by assumption) ?_
          rotate_left
          · (intro w hSw; (try dsimp only at hSw); go_simp; (try with_reducible rfl))
          try simp only [Act.put, List.setIfInBounds_toArray, List.set_cons_zero, List.set_cons_succ]
          refine take_w (i := 4) (d := some 84) (v := ?_) rfl (by kernel_rfl) (by kernel_rfl) (by kernel_rfl) (fun _ _ _ h => h) rfl (by rfl) ?_ (by assumption) ?_
          rotate_left
          · (intro w hSw; (try dsimp only at hSw); go_simp; (try with_reducible rfl))
          try simp only [Act.put, List.setIfInBounds_toArray, List.set_cons_zero, List.set_cons_succ]
          refine take_w (i := 5) (d := some 85) (v := ?_) rfl (by kernel_rfl) (by kernel_rfl) (by kernel_rfl) (fun _ _ _ h => h) rfl (by rfl) ?_ (by assumption) ?_
          rotate_left
          · (intro w hSw; (try dsimp only at hSw); go_simp; (try with_reducible rfl))
          try simp only [Act.put, List.setIfInBounds_toArray, List.set_cons_zero, List.set_cons_succ]
          refine take_w (i := 6) (d := some 86) (v := ?_) rfl (by kernel_rfl) (by kernel_rfl) (by kernel_rfl) (fun _ _ _ h => h) rfl (by rfl) ?_ (by assumption) ?_
          rotate_left
          · (intro w hSw; (try dsimp only at hSw); go_simp; (try with_reducible rfl))
          try simp only [Act.put, List.setIfInBounds_toArray, List.set_cons_zero, List.set_cons_succ]
          refine take_w (i := 8) (d := some 88) (v := ?_) rfl (by kernel_rfl) (by kernel_rfl) (by kernel_rfl) (fun _ _ _ h => h) rfl (by rfl) ?_ (by assumption) ?_
          rotate_left
          · (intro w hSw; (try dsimp only at hSw); go_simp; (try with_reducible rfl))
          try simp only [Act.put, List.setIfInBounds_toArray, List.set_cons_zero, List.set_cons_succ]
          refine take_w (i := 9) (d := some 89) (v := ?_) rfl (by kernel_rfl) (by kernel_rfl) (by kernel_rfl) (fun _ _ _ h => h) rfl (by rfl) ?_ (by assumption) ?_
          rotate_left
          · (intro w hSw; (try dsimp only at hSw); go_simp; (try with_reducible rfl))
          try simp only [Act.put, List.setIfInBounds_toArray, List.set_cons_zero, List.set_cons_succ]
          refine take_w (i := 10) (d := some 90) (v := ?_) rfl (by kernel_rfl) (by kernel_rfl) (by kernel_rfl) (fun _ _ _ h => h) rfl (by rfl) ?_ (by assumption) ?_
          rotate_left
          · (intro w hSw; (try dsimp only at hSw); go_simp; (try with_reducible rfl))
          try simp only [Act.put, List.setIfInBounds_toArray, List.set_cons_zero, List.set_cons_succ]
          refine take_w (i := 11) (d := some 91) (v := ?_) rfl (by kernel_rfl) (by kernel_rfl) (by kernel_rfl) (fun _ _ _ h => h) rfl (by rfl) ?_ (by assumption) ?_
          rotate_left
          · (intro w hSw; (try dsimp only at hSw); go_simp; (try with_reducible rfl))
          try simp only [Act.put, List.setIfInBounds_toArray, List.set_cons_zero, List.set_cons_succ]
          refine call_w (i := 1) rfl (by kernel_rfl) (by rfl) (fun K hK => ?_)
          go_simp
          refine hK.out _ _ ?_ (fun hHeld => ?_)
          · exact byte_here O5a.out Ht.out
          clear hK K
          try simp only [Act.put, List.setIfInBounds_toArray, List.set_cons_zero, List.set_cons_succ]
          refine call_w (i := 7) rfl (by kernel_rfl) (by rfl) (fun K hK => ?_)
          refine wp_append_src _ (.tmp 81) (.tmp 86) _ rfl w5.heap.size 38 i0 _ 3 32 Try.underlying23 Hi.out Hz0.out Hz1.out Hz2.out rfl (by omega) (.slice (some ⟨w5.heap.size, 0, none⟩) 0 0) 0 [] rfl HE5.out (some (ad.add (st * 3))) (k + 1 - st) (d - st) (cellsG P) rfl (by rw [cellsG_len, Hpl.out]) HSr5.out (cellsG_one P) (by unfold maxLen; omega) (by omega) Q5a.out.size ?_
          intro v6 w6 own6 gr6 _
          obtain ⟨g6, cap6, rfl⟩ := own_slice8 own6 (by omega)
          have q6 : Hid (Q w5 w6) := grown_q gr6 Q5a.out (Nat.le_refl _)
          have p6 := Lib.hid (p5.out.trans q6.out)
          have O6 := Lib.hid (O5.out.q q6.out)
          have R6 : Hid (Rds w6 w6.heap.size (some ⟨g6, 0, none⟩) (cellsG P)) := (OwnC.of_row own6).rds
          clear own6 gr6
          refine hK.out _ _ ?_ (fun hHeld => ?_)
          · exact byte_here O6.out Ht.out
          clear hK K
          try simp only [Act.put, List.setIfInBounds_toArray]
          refine call_w (i := 12) rfl (by kernel_rfl) (by rfl) (fun K hK => ?_)
          go_simp
          go_at_call 12
          refine (CPC.out _ p6.out _ _ _ (by rw [Hpl.out] <;> omega) R6.out).mono ?_
          rintro e w7 ⟨rfl, q7⟩
          have p7 := Lib.hid (p6.out.trans q7)
          have O7 := Lib.hid (O6.out.q q7)
          clear q7
          refine hK.out _ _ ?_ (fun hHeld => ?_)
          · exact byte_here O7.out Ht.out
          clear hK K
          try simp only [Act.put, List.setIfInBounds_toArray, List.set_cons_zero, List.set_cons_succ]
          refine take_w (i := 13) (d := some 79) (v := ?_) rfl (by kernel_rfl) (by kernel_rfl) (by kernel_rfl) (fun _ _ _ h => h) rfl (by rfl) ?_ (by assumption) ?_
          rotate_left
          · (intro w hSw; (try dsimp only at hSw); go_simp; (try with_reducible rfl))
          try simp only [Act.put, List.setIfInBounds_toArray, List.set_cons_zero, List.set_cons_succ]
          refine take_w (i := 14) (d := some 93) (v := ?_) rfl (by kernel_rfl) (by kernel_rfl) (by kernel_rfl) (fun _ _ _ h => h) rfl (by rfl) ?_ (by assumption) ?_
          rotate_left
          · (intro w hSw; (try dsimp only at hSw); go_simp; (try with_reducible rfl))
          try simp only [Act.put, List.setIfInBounds_toArray, List.set_cons_zero, List.set_cons_succ]
          refine take_w (i := 15) (d := some 94) (v := ?_) rfl (by kernel_rfl) (by kernel_rfl) (by kernel_rfl) (fun _ _ _ h => h) rfl (by rfl) ?_ (by assumption) ?_
          rotate_left
          · (intro w hSw; (try dsimp only at hSw); go_simp; (try with_reducible rfl))
          try simp only [Act.put, List.setIfInBounds_toArray, List.set_cons_zero, List.set_cons_succ]
          refine take_w (i := 16) (d := some 12) (v := ?_) rfl (by kernel_rfl) (by kernel_rfl) (by kernel_rfl) (fun _ _ _ h => h) rfl (by rfl) ?_ (by assumption) ?_
          rotate_left
          · (intro w hSw; (try dsimp only at hSw); go_simp; (try with_reducible rfl))
          try simp only [Act.put, List.setIfInBounds_toArray, List.set_cons_zero, List.set_cons_succ]
          refine take_w (i := 17) (d := some 13) (v := ?_) rfl (by kernel_rfl) (by kernel_rfl) (by kernel_rfl) (fun _ _ _ h => h) rfl (by rfl) ?_ (by assumption) ?_
          rotate_left
          · (intro w hSw; (try dsimp only at hSw); go_simp; (try with_reducible rfl))
          try simp only [Act.put, List.setIfInBounds_toArray, List.set_cons_zero, List.set_cons_succ]
          refine wpAnyH_done (by kernel_rfl) ?_ _
          go_wp2_with fail
          go_ret
          exact ⟨by first | rfl | simp, p7.out⟩

set_option maxRecDepth 100000 in
theorem lifted (os : Os) (started : os.Started) (H : Type) (enc : TypeId × Value → H) :
    ReturnsInHanded {} Try.checked os 8 .any (Rows.sideFirstSpec.pre6 enc Try.prog Try.f8 Rows.sideFirstRow.domain false) (Rows.sideFirstSpec.post enc Try.prog Try.f8 false true false false) := by
  refine returnsInHanded_of_change_sized (C := Try.checked) own started (by kernel_rfl) Try.func8
    (ChangeSpec.witness6 (enc := enc) (C := Try.checked) false ⟨#[], #[.agg #[.slice none 0 0, .slice none 0 0, .int .u8 0, .int .i64 0]], []⟩ 8 (by kernel_rfl) (by kernel_rfl) (by kernel_rfl) (by kernel_rfl)) ?_
  intro W base args ds gs before hval0 hW hcnd hsz0 _
  have hval : ∀ (j : Nat) t v, Try.f8.params[j]? = some t → args[j]? = some v → Value.okWide Try.prog W .any base t v := hval0
  have hW' := hW
  obtain ⟨p, q, hA0, hV, rfl, hfz, hnd⟩ := hW
  have hA : DataW.TrodAll enc Try.prog W 0 (fun _ => true) true Try.f8.params.toList args.toList ds p := hA0
  rw [Try.params8] at hA hval
  obtain ⟨v0, vs0, d0, ds0, p0, q0, hargs, rfl, rfl, h0, r0⟩ := trodAll_cons hA
  obtain ⟨rfl, rfl, rfl⟩ := trodAll_nil r0
  obtain rfl : args = #[v0] := by cases args; simp_all
  obtain ⟨rfl, rfl⟩ := trodVars_none hV
  have z0 : ∀ n ∈ d0.weights Try.prog 47, n ≤ reachBytes := fun n hn => by
    have := List.all_eq_true.1 hsz0 n (DataW.weights_mem_each (j := 0) (t := 47) (d := d0) (by rw [Try.params8]; rfl) rfl n hn)
    simpa using this
  obtain ⟨A0, B0, m0, c0, n0, k0, L0, l0, sb, ka, rfl, y0, hL0, g0, s0, x0, hr0, w0, u0, r0⟩ := open_SideFirstIn (hval 0 47 v0 rfl rfl) h0 z0
  clear hA0 hval0
  refine (walk A0 B0 m0 c0 n0 k0 L0 l0 sb ka W y0 x0 hL0 s0 g0 hr0 w0 u0 r0).mono fun e W' ⟨he, hg⟩ => ?_
  subst he
  exact ⟨_, rfl, post_law laid (by rw [Try.params8]; decide +kernel) rfl rfl (by kernel_rfl) Try.underlying4 hW' hg⟩

/-- THE STATEMENT -/
theorem proved : Rows.SideFirstSaid :=
  OpenClaim.holds_of_wide 8 Try.f8 rfl rfl rfl rfl rfl rfl rfl ⟨rfl, rfl, rfl, rfl, rfl⟩ rfl rfl rfl rfl rfl (by kernel_rfl) Try.func8 (by kernel_rfl)
    (of_decide_eq_true (by kernel_rfl)) (by unfold Func.isWrapper; first | (rw [if_pos (by decide +kernel)]; kernel_rfl) | (rw [if_neg (by decide +kernel)]; exact ⟨rfl, rfl⟩))
    (fun os started H enc _ => lifted os started H enc)
end Go.Proofs.Ytmohedkhbjeapaa.sideFirst
