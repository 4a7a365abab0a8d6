/-
  What the proofs lean on, part 5 of 11.
-/
import Derived.Test.YtjehccemilefgaaPc
import Derived.Test.YtjehccemilefgaaPd
import Derived.Laws.StructEq
import Derived.ChangeKeysEq
namespace Go.Proofs.Ytjehccemilefgaa.St
open Go.RowKit Kit Rw
open Go.Proofs.Ytjehccemilefgaa.Sg (Sig Row)
open Go.Proofs.Ytjehccemilefgaa.Hs (Ints Keys BoxT)
open Go.Proofs.Ytjehccemilefgaa.Tm (Tm Store termAt LookPost look_none look_some termAt_out may_any may_wf mayB slice_rows Box4 isPl isPl_iff)
open Go.Proofs.Ytjehccemilefgaa.Ld (tmP parts_ahead)
set_option maxHeartbeats 1000000 in
theorem sideOf10_any (s : UInt8) (w : World) :
    Calls Try.prog 31 #[.int .u8 (s.toNat : Int)] w fun e w' => e = .returned (.int .i64 (bitI (askSide s))) ∧ w = w' := by
  have e76 : ((s.toNat : Int) == 76) = decide (s = 76) := Ex.byte_is s 76 (by decide)
  have e82 : ((s.toNat : Int) == 82) = decide (s = 82) := Ex.byte_is s 82 (by decide)
  by_cases h1 : s = 76
  · have HT : Hid (bitI (askSide s) = 1) := by unfold askSide; rw [if_pos h1]; rfl
    rw [decide_eq_true h1] at e76
    clear e82 h1
    generalize (s.toNat : Int) = ss at *
    go_enter Try.func31, Try.ntmps31
    go_wp2_with fail
    go_ret
    exact ⟨by rw [HT.out]; rfl, rfl⟩
  · rw [decide_eq_false h1] at e76
    by_cases h2 : s = 82
    · have HT : Hid (bitI (askSide s) = 2) := by unfold askSide; rw [if_neg h1, if_pos h2]; rfl
      rw [decide_eq_true h2] at e82
      clear h1 h2
      generalize (s.toNat : Int) = ss at *
      go_enter Try.func31, Try.ntmps31
      go_wp2_with fail
      go_ret
      exact ⟨by rw [HT.out]; rfl, rfl⟩
    · have HT : Hid (bitI (askSide s) = 3) := by unfold askSide; rw [if_neg h1, if_neg h2]; rfl
      rw [decide_eq_false h2] at e82
      clear h1 h2
      generalize (s.toNat : Int) = ss at *
      go_enter Try.func31, Try.ntmps31
      go_wp2_with fail
      go_ret
      exact ⟨by rw [HT.out]; rfl, rfl⟩
set_option maxHeartbeats 1000000 in
theorem mayStand10_any (k : Int) (b : Ask) (w : World) :
    Calls Try.prog 32 #[.int .i64 k, .int .i64 (bitI b)] w fun e w' => e = .returned (.bool (mayAsk k b)) ∧ w = w' := by
  have b1 : (bitI b == 1) = (b.1 && !b.2) := by obtain ⟨x, y⟩ := b; cases x <;> cases y <;> rfl
  have b2 : (bitI b == 2) = (!b.1 && b.2) := by obtain ⟨x, y⟩ := b; cases x <;> cases y <;> rfl
  obtain ⟨r1, h1⟩ : ∃ r, (b.1 && !b.2) = r := ⟨_, rfl⟩
  obtain ⟨r2, h2⟩ : ∃ r, (!b.1 && b.2) = r := ⟨_, rfl⟩
  rw [h1] at b1
  rw [h2] at b2
  have HT : Hid (mayAsk k b = if k = 4 then r1 else if k = 5 ∨ k = 6 then r2 else true) := by unfold Hid mayAsk; rw [h1, h2]
  clear h1 h2
  generalize bitI b = bi at *
  by_cases k4 : k = 4
  · rw [if_pos k4] at HT
    have e4 : (k == 4) = true := by simpa using k4
    clear k4
    go_enter Try.func32, Try.ntmps32
    go_wp2_with fail
    go_ret
    exact ⟨by rw [HT.out]; rfl, rfl⟩
  · rw [if_neg k4] at HT
    have e4 : (k == 4) = false := by simpa using k4
    by_cases k5 : k = 5
    · rw [if_pos (.inl k5)] at HT
      have e5 : (k == 5) = true := by simpa using k5
      clear k4 k5
      go_enter Try.func32, Try.ntmps32
      go_wp2_with fail
      go_ret
      exact ⟨by rw [HT.out]; rfl, rfl⟩
    · have e5 : (k == 5) = false := by simpa using k5
      by_cases k6 : k = 6
      · rw [if_pos (.inr k6)] at HT
        have e6 : (k == 6) = true := by simpa using k6
        clear k4 k5 k6
        go_enter Try.func32, Try.ntmps32
        go_wp2_with fail
        go_ret
        exact ⟨by rw [HT.out]; rfl, rfl⟩
      · rw [if_neg (by omega)] at HT
        have e6 : (k == 6) = false := by simpa using k6
        clear k4 k5 k6
        go_enter Try.func32, Try.ntmps32
        go_wp2_with fail
        go_ret
        exact ⟨by rw [HT.out]; rfl, rfl⟩
set_option maxRecDepth 100000 in
set_option maxHeartbeats 1000000 in
theorem turn10_any (b : Ask) (v : UInt8) (w : World) :
    Calls Try.prog 34 #[.int .i64 (bitI b), .int .u8 (v.toNat : Int)] w fun e w' => e = .returned (.int .i64 (bitI (askTurn b v))) ∧ w = w' := by
  have e43 : ((v.toNat : Int) == 43) = decide (v = 43) := Ex.byte_is v 43 (by decide)
  have e45 : ((v.toNat : Int) == 45) = decide (v = 45) := Ex.byte_is v 45 (by decide)
  by_cases h1 : v = 43
  · have HT : Hid (bitI (askTurn b v) = bitI b) := by unfold askTurn; rw [if_pos h1]; rfl
    rw [decide_eq_true h1] at e43
    clear e45 h1
    generalize (v.toNat : Int) = ss at *
    generalize bitI b = bi at *
    go_enter Try.func34, Try.ntmps34
    go_wp2_with fail
    go_ret
    exact ⟨by rw [HT.out]; rfl, rfl⟩
  · rw [decide_eq_false h1] at e43
    by_cases h2 : v = 45
    · have HT : Hid (bitI (askTurn b v) = bitI (b.2, b.1)) := by unfold askTurn; rw [if_neg h1, if_pos h2]; rfl
      rw [decide_eq_true h2] at e45
      clear h1 h2
      generalize (v.toNat : Int) = ss at *
      obtain ⟨x, y⟩ := b
      have HT : Hid (bitI (askTurn (x, y) v) = bitI (y, x)) := HT
      cases x <;> cases y
      · rw [show bitI (false, false) = 0 from rfl]
        rw [show bitI (false, false) = 0 from rfl] at HT
        have hix : ∀ u, (Instr.index 93 (.agg #[.int .i64 0, .int .i64 2, .int .i64 1, .int .i64 3]) (.int .i64 0)).run Try.prog u = .ok (.int .i64 0) u := fun u => by kernel_rfl
        go_enter Try.func34, Try.ntmps34
        go_wp2_with fail
        go_ret
        exact ⟨by rw [HT.out]; rfl, rfl⟩
      · rw [show bitI (false, true) = 2 from rfl]
        rw [show bitI (true, false) = 1 from rfl] at HT
        have hix : ∀ u, (Instr.index 93 (.agg #[.int .i64 0, .int .i64 2, .int .i64 1, .int .i64 3]) (.int .i64 2)).run Try.prog u = .ok (.int .i64 1) u := fun u => by kernel_rfl
        go_enter Try.func34, Try.ntmps34
        go_wp2_with fail
        go_ret
        exact ⟨by rw [HT.out]; rfl, rfl⟩
      · rw [show bitI (true, false) = 1 from rfl]
        rw [show bitI (false, true) = 2 from rfl] at HT
        have hix : ∀ u, (Instr.index 93 (.agg #[.int .i64 0, .int .i64 2, .int .i64 1, .int .i64 3]) (.int .i64 1)).run Try.prog u = .ok (.int .i64 2) u := fun u => by kernel_rfl
        go_enter Try.func34, Try.ntmps34
        go_wp2_with fail
        go_ret
        exact ⟨by rw [HT.out]; rfl, rfl⟩
      · rw [show bitI (true, true) = 3 from rfl]
        rw [show bitI (true, true) = 3 from rfl] at HT
        have hix : ∀ u, (Instr.index 93 (.agg #[.int .i64 0, .int .i64 2, .int .i64 1, .int .i64 3]) (.int .i64 3)).run Try.prog u = .ok (.int .i64 3) u := fun u => by kernel_rfl
        go_enter Try.func34, Try.ntmps34
        go_wp2_with fail
        go_ret
        exact ⟨by rw [HT.out]; rfl, rfl⟩
    · have HT : Hid (bitI (askTurn b v) = 3) := by unfold askTurn; rw [if_neg h1, if_neg h2]; rfl
      rw [decide_eq_false h2] at e45
      clear h1 h2
      generalize (v.toNat : Int) = ss at *
      generalize bitI b = bi at *
      go_enter Try.func34, Try.ntmps34
      go_wp2_with fail
      go_ret
      exact ⟨by rw [HT.out]; rfl, rfl⟩
end Go.Proofs.Ytjehccemilefgaa.St
namespace Go.Proofs.Ytjehccemilefgaa.Tm
open Go.RowKit Kit Hs
def LookF (ks : List (List Int)) (id : Int) (w : World) (e : Ending) (w' : World) : Prop :=
  ∃ A n c, e = .returned (.tuple #[.agg #[.int .i64 ((termAt ks id).getD .none).k, .int .i64 ((termAt ks id).getD .none).s, .int .i64 ((termAt ks id).getD .none).p, .slice A n c], .bool (termAt ks id).isSome]) ∧ n = ((termAt ks id).getD .none).xs.length ∧ Ints w' w'.heap.size A ((termAt ks id).getD .none).xs ∧ Q w w' ∧ (0 < ((termAt ks id).getD .none).xs.length → ∀ ad, A = some ad → w.heap.size ≤ ad.block)
set_option maxRecDepth 100000 in
set_option maxHeartbeats 1000000 in
theorem ofF_any (A S : Option Addr) (n c m d : Nat) (ks : List (List Int)) (id : Int) (w : World) (hn : n = ks.length) (hk : Keys w w.heap.size A ks) (hs : ∀ k ∈ ks, k.length ≤ 100000) :
    Calls Try.prog 49 #[.agg #[.slice A n c, .slice S m d], .int .i64 id] w (LookF ks id w) := by
  subst hn
  have q0 := ((Q.refl w).alloc (Obj.cells #[Value.slice A ks.length c, Value.slice S m d] 26)).alloc (Obj.cells #[.int .i64 0, .int .i64 0, .int .i64 0, .slice none 0 0] 60)
  have Hk := Lib.hid ((hk.q (Nat.le_refl _) q0).more q0.size)
  have b4 := Box4.new (w.alloc (Obj.cells #[Value.slice A ks.length c, Value.slice S m d] 26)) (.int .i64 0) (.int .i64 0) (.int .i64 0) (.slice none 0 0) 60
  rw [World.size_alloc] at b4
  have HB := Lib.hid b4
  have HT : Hid (((termAt ks id).getD .none).xs.length ≤ 100000) := by
    unfold Hid termAt
    split
    · rename_i h
      simp only [Bool.and_eq_true, isPl_iff] at h
      have hi : id.toNat < ks.length := by omega
      have := hs _ (List.getElem_mem hi)
      simp [ofKey, hi]
      omega
    · simp [Tm.none]
  clear hk b4 hs
  go_enter Try.func49, Try.ntmps49
  go_wp2_with fail
  generalize (w.alloc (Obj.cells #[Value.slice A ks.length c, Value.slice S m d] 26)).alloc (Obj.cells #[.int .i64 0, .int .i64 0, .int .i64 0, .slice none 0 0] 60) = W0 at *
  refine (look_any _ _ _ _ _ _ ks id _ rfl Hk.out).mono ?_
  rintro e w1 ⟨A1, n1, c1, rfl, hn1, hA1, q1⟩
  obtain ⟨t, ht⟩ : ∃ t, (termAt ks id).getD .none = t := ⟨_, rfl⟩
  obtain ⟨b, hb⟩ : ∃ b, (termAt ks id).isSome = b := ⟨_, rfl⟩
  have HP : Hid (∀ (A : Option Addr) (n c : Nat) (w' : World), n = t.xs.length → Ints w' w'.heap.size A t.xs → Q w w' → (0 < t.xs.length → ∀ ad, A = some ad → w.heap.size ≤ ad.block) → LookF ks id w (.returned (.tuple #[.agg #[.int .i64 t.k, .int .i64 t.s, .int .i64 t.p, .slice A n c], .bool b])) w') := fun A n c w' h1 h3 h4 h5 => ⟨A, n, c, by rw [ht, hb], by rw [ht]; exact h1, by rw [ht]; exact h3, h4, by rw [ht]; exact h5⟩
  rw [ht] at hn1 hA1 HT ⊢
  rw [hb]
  clear ht hb
  have HA := Lib.hid hA1
  have Hn := Lib.hid hn1
  have HB1 := Lib.hid (HB.out.q q1)
  have q12 := (Q.refl w1).alloc (Obj.cells #[.int .i64 t.k, .int .i64 t.s, .int .i64 t.p, .slice A1 n1 c1] 60)
  have HB2 := Lib.hid (HB1.out.q q12)
  have HX := Lib.hid (Box4.new w1 (.int .i64 t.k) (.int .i64 t.s) (.int .i64 t.p) (.slice A1 n1 c1) 60)
  clear hA1 hn1
  go_wp2_with fail
  generalize w1.alloc (Obj.cells #[.int .i64 t.k, .int .i64 t.s, .int .i64 t.p, .slice A1 n1 c1] 60) = W2 at *
  refine (clone_any _ _ _ t.xs _ Hn.out ((HA.out.q (Nat.le_refl _) q12).more q12.size) HT.out).mono ?_
  rintro e w3 ⟨A3, c3, rfl, hA3, q3⟩
  have HA3 := Lib.hid hA3
  have HX3 := Lib.hid (HX.out.q q3)
  have HB3 := Lib.hid (HB2.out.q q3)
  clear hA3
  have x0 := HX3.out.c0
  have x1 := HX3.out.c1
  have x2 := HX3.out.c2
  have x3 := HX3.out.c3
  have y3 := HX3.out.f3
  have r0 := HB3.out.c0
  have r1 := HB3.out.c1
  have r2 := HB3.out.c2
  have r3 := HB3.out.c3
  have f0 := HB3.out.f0
  have f1 := HB3.out.f1
  have f2 := HB3.out.f2
  have f3 := HB3.out.f3
  have hne : w.heap.size + 1 < w1.heap.size := HB1.out.lt
  go_wp2_with fail
  have hb4 := ((HB3.out.far (g := w1.heap.size) (i := 3) (by omega) (.slice A3 t.xs.length c3)).all (.int .i64 t.k) (.int .i64 t.s) (.int .i64 t.p) (.slice A3 t.xs.length c3))
  have g0 := hb4.c0
  have g1 := hb4.c1
  have g2 := hb4.c2
  have g3 := hb4.c3
  have qa := ((q0.trans q1).trans q12).trans q3
  have qW := ((((qa.setCell (p := ⟨w1.heap.size, 3, none⟩) (by show _ ≤ w1.heap.size; omega) (.slice A3 t.xs.length c3)).setCell (p := ⟨w.heap.size + 1, 0, none⟩) (by show _ ≤ w.heap.size + 1; omega) (.int .i64 t.k)).setCell (p := ⟨w.heap.size + 1, 1, none⟩) (by show _ ≤ w.heap.size + 1; omega) (.int .i64 t.s)).setCell (p := ⟨w.heap.size + 1, 2, none⟩) (by show _ ≤ w.heap.size + 1; omega) (.int .i64 t.p)).setCell (p := ⟨w.heap.size + 1, 3, none⟩) (by show _ ≤ w.heap.size + 1; omega) (.slice A3 t.xs.length c3)
  refine bodyPost_ret (v := .tuple #[.agg #[.int .i64 t.k, .int .i64 t.s, .int .i64 t.p, .slice A3 t.xs.length c3], .bool b]) (by simp [results, Try.f49, go_sem, g0, g1, g2, g3]) rfl (HP.out _ _ _ _ rfl ?_ qW (fun h0 ad e' => by obtain ⟨g, e, hg, ho⟩ := HA3.out h0; rw [e] at e'; injection e' with e'; subst e'; have h2 := q12.size; have h3 := (q0.trans q1).size; show w.heap.size ≤ g; omega))
  have h2 := q12.size
  have hl2 : w1.heap.size < W2.heap.size := HX.out.lt
  intro h0
  obtain ⟨g, e, hg, ho⟩ := HA3.out h0
  refine ⟨_, e, by simp only [World.setCell]; have := ho.1; simpa [World.setCell] using this, fun i x hx => ?_⟩
  have hh := (ho.2 i x hx).1
  rw [add_zero_head]
  rw [World.cell?_setCell_far _ _ _ _ (by show w.heap.size + 1 ≠ g; omega), World.cell?_setCell_far _ _ _ _ (by show w.heap.size + 1 ≠ g; omega), World.cell?_setCell_far _ _ _ _ (by show w.heap.size + 1 ≠ g; omega), World.cell?_setCell_far _ _ _ _ (by show w.heap.size + 1 ≠ g; omega), World.cell?_setCell_far _ _ _ _ (by show w1.heap.size ≠ g; omega)]
  exact hh
end Go.Proofs.Ytjehccemilefgaa.Tm
namespace Go.Proofs.Ytjehccemilefgaa.St
open Go.RowKit Kit Rw
open Go.Proofs.Ytjehccemilefgaa.Sg (Sig Row)
open Go.Proofs.Ytjehccemilefgaa.Hs (Ints Keys BoxT)
open Go.Proofs.Ytjehccemilefgaa.Tm (Tm Store termAt LookF ofF_any termAt_out may_any may_wf mayB slice_rows Box4 isPl isPl_iff)
open Go.Proofs.Ytjehccemilefgaa.Ld (tmP parts_ahead)
/-- the term at a place: as term.Of says, in a store -/
theorem lookH {L : List Sig} {ks : List (List Int)} (hS : Store L ks) {i : Nat} (hi : i < ks.length) : mayB L i (tmP ks i) = true := by
  have := (parts_ahead hS (List.getElem?_eq_getElem hi)).2.1
  rwa [← tmP_is hi] at this
set_option maxRecDepth 100000 in
set_option maxHeartbeats 2000000 in
theorem look10_any (R A S : Option Addr) (nl cl n c m d : Nat) (L : List Sig) (ks : List (List Int)) (id : Int) (w : World) (hnl : nl = L.length) (hr : Row w w.heap.size R L) (hn : n = ks.length) (hk : Keys w w.heap.size A ks) (hS : Store L ks) (hs : ∀ k ∈ ks, k.length ≤ 100000) (hcap : ks.length ≤ c) :
    Calls Try.prog 25 #[.slice R nl cl, .agg #[.slice A n c, .slice S m d], .int .i64 id] w (LookF ks id w) := by
  subst hnl hn
  have q0 := ((Q.refl w).alloc (Obj.cells #[Value.slice A ks.length c, Value.slice S m d] 26)).alloc (Obj.cells #[.int .i64 0, .int .i64 0, .int .i64 0, .slice none 0 0] 60)
  have HB := Lib.hid ((BoxT.new w (Value.slice A ks.length c) (Value.slice S m d) 26).q ((Q.refl _).alloc (Obj.cells #[.int .i64 0, .int .i64 0, .int .i64 0, .slice none 0 0] 60)))
  have X0 := Box4.new (w.alloc (Obj.cells #[Value.slice A ks.length c, Value.slice S m d] 26)) (.int .i64 0) (.int .i64 0) (.int .i64 0) (.slice none 0 0) 60
  rw [World.size_alloc] at X0
  have HX0 := Lib.hid X0
  have HQ0 := Lib.hid q0
  have HW0 : Hid (w.heap.size + 2 ≤ ((w.alloc (Obj.cells #[Value.slice A ks.length c, Value.slice S m d] 26)).alloc (Obj.cells #[.int .i64 0, .int .i64 0, .int .i64 0, .slice none 0 0] 60)).heap.size) := by unfold Hid; simp
  have Hk := Lib.hid ((hk.q (Nat.le_refl _) q0).more q0.size)
  have Hr := Lib.hid ((hr.q (Nat.le_refl _) q0).more q0.size)
  have HSt := Lib.hid hS
  have HsM := Lib.hid hs
  clear q0 hk hr hS hs X0
  go_enter Try.func25, Try.ntmps25
  go_wp2_with fail
  generalize (w.alloc (Obj.cells #[Value.slice A ks.length c, Value.slice S m d] 26)).alloc (Obj.cells #[.int .i64 0, .int .i64 0, .int .i64 0, .slice none 0 0] 60) = W0 at *
  refine (ofF_any _ _ _ _ _ _ ks id _ rfl Hk.out HsM.out).mono ?_
  rintro e w1 ⟨A1, n1, c1, rfl, hn1, hi1, q1, hfr⟩
  by_cases hp : isPl id ks.length = true
  · obtain ⟨p0, p1⟩ := (isPl_iff _ _).1 hp
    obtain ⟨i, rfl⟩ := Int.eq_ofNat_of_zero_le p0
    have hil : i < ks.length := by omega
    have htm := (place_tok HSt.out hil).2
    have hmay := lookH HSt.out hil
    rw [htm] at hn1 hi1 hfr
    unfold LookF
    rw [htm]
    simp only [Option.getD_some, Option.isSome_some] at hn1 hi1 hfr ⊢
    have hxl : (tmP ks i).xs.length ≤ maxLen := by
      rw [tmP_is hil]
      have := HsM.out _ (List.getElem_mem hil)
      unfold maxLen
      simp only [Tm.ofKey, List.length_drop]
      omega
    generalize tmP ks i = t at *
    have HM := Lib.hid hmay
    have HTM := Lib.hid htm
    have HXL := Lib.hid hxl
    have HN1 := Lib.hid hn1
    have qa := q1.alloc (Obj.cells #[.int .i64 t.k, .int .i64 t.s, .int .i64 t.p, .slice A1 n1 c1] 60)
    have HQa := Lib.hid qa
    have HXa := Lib.hid (Box4.new w1 (.int .i64 t.k) (.int .i64 t.s) (.int .i64 t.p) (.slice A1 n1 c1) 60)
    have HIa := Lib.hid ((hi1.q (Nat.le_refl _) ((Q.refl w1).alloc (Obj.cells #[.int .i64 t.k, .int .i64 t.s, .int .i64 t.p, .slice A1 n1 c1] 60))).more ((Q.refl w1).alloc (Obj.cells #[.int .i64 t.k, .int .i64 t.s, .int .i64 t.p, .slice A1 n1 c1] 60)).size)
    have HBa := Lib.hid (HB.out.q qa)
    have HX0a := Lib.hid (HX0.out.q qa)
    have Hra := Lib.hid ((Hr.out.q (Nat.le_refl _) qa).more qa.size)
    have hsl : ∀ u, (Instr.slice 23 (.slice A ks.length c) none (some (.int .i64 (i : Int))) none).run Try.prog u = .ok (.slice A i c) u := slice_rows A ks.length c i (by omega)
    clear hmay htm hxl hn1 qa q1 hi1 p0 p1 hp HB HX0 Hr Hk
    go_upto_if 1 with fail
    generalize w1.alloc (Obj.cells #[.int .i64 t.k, .int .i64 t.s, .int .i64 t.p, .slice A1 n1 c1] 60) = W1 at *
    have b0 := HBa.out.c0
    have x0 := HXa.out.c0
    have x1 := HXa.out.c1
    have x2 := HXa.out.c2
    have x3 := HXa.out.c3
    have hbl := HBa.out.lt
    have hxl := HXa.out.lt
    go_region_held3 (fun w' => w'.cell? ⟨w.heap.size, 0, none⟩ = some (.slice A ks.length c) ∧ w'.cell? ⟨w1.heap.size, 0, none⟩ = some (.int .i64 t.k) ∧ w'.cell? ⟨w1.heap.size, 1, none⟩ = some (.int .i64 t.s) ∧ w'.cell? ⟨w1.heap.size, 2, none⟩ = some (.int .i64 t.p) ∧ w'.cell? ⟨w1.heap.size, 3, none⟩ = some (.slice A1 n1 c1))
      (first
        | go_keep
        | exact ⟨(p5.cell (p := ⟨w.heap.size, 0, none⟩) hbl).trans b0, (p5.cell (p := ⟨w1.heap.size, 0, none⟩) hxl).trans x0, (p5.cell (p := ⟨w1.heap.size, 1, none⟩) hxl).trans x1, (p5.cell (p := ⟨w1.heap.size, 2, none⟩) hxl).trans x2, (p5.cell (p := ⟨w1.heap.size, 3, none⟩) hxl).trans x3⟩)
      (first
        | (go_at_call 50; refine (may_any _ _ _ _ _ _ _ _ _ _ _ _ L t _ rfl (by exact Hra.out) HN1.out (by exact HIa.out) (may_wf HM.out) HXL.out).mono ?_; rintro e w5 ⟨rfl, q5⟩; rw [HM.out]; have p5 := (Q.refl W1).drew.trans q5))
    have HX5 := Lib.hid (HXa.out.q p5)
    have HX05 := Lib.hid (HX0a.out.q p5)
    clear x0 x1 x2 x3 b0
    have x0 := HX5.out.c0
    have x1 := HX5.out.c1
    have x2 := HX5.out.c2
    have x3 := HX5.out.c3
    have g0 := HX05.out.f0
    have g1 := HX05.out.f1
    have g2 := HX05.out.f2
    have g3 := HX05.out.f3
    have z0 := HX05.out.c0
    have z1 := HX05.out.c1
    have z2 := HX05.out.c2
    have z3 := HX05.out.c3
    go_wp2_with fail
    have hb4 := HX05.out.all (.int .i64 t.k) (.int .i64 t.s) (.int .i64 t.p) (.slice A1 n1 c1)
    have y0 := hb4.c0
    have y1 := hb4.c1
    have y2 := hb4.c2
    have y3 := hb4.c3
    have HI5 := HIa.out.keep p5
    have QW := Lib.hid ((((((HQ0.out.trans HQa.out).trans p5).setCell (p := ⟨w.heap.size + 1, 0, none⟩) (by show _ ≤ w.heap.size + 1; omega) (.int .i64 t.k)).setCell (p := ⟨w.heap.size + 1, 1, none⟩) (by show _ ≤ w.heap.size + 1; omega) (.int .i64 t.s)).setCell (p := ⟨w.heap.size + 1, 2, none⟩) (by show _ ≤ w.heap.size + 1; omega) (.int .i64 t.p)).setCell (p := ⟨w.heap.size + 1, 3, none⟩) (by show _ ≤ w.heap.size + 1; omega) (.slice A1 n1 c1))
    have hW0 : w.heap.size + 2 ≤ W0.heap.size := HW0.out
    refine bodyPost_ret (v := .tuple #[.agg #[.int .i64 t.k, .int .i64 t.s, .int .i64 t.p, .slice A1 n1 c1], .bool true]) (by simp [results, Try.f25, go_sem, y0, y1, y2, y3]) rfl ?_
    unfold LookF
    rw [HTM.out]
    refine ⟨A1, n1, c1, rfl, HN1.out, fun h0 => ?_, QW.out, fun h0 ad e => by have := hfr h0 ad e; omega⟩
    obtain ⟨ad, e, hb, hc⟩ := HI5 h0
    have hg := hfr h0 ad e
    refine ⟨ad, e, by have := Nat.lt_of_lt_of_le hb p5.size; simpa [World.setCell] using this, fun i x hx => ?_⟩
    rw [World.cell?_setCell_far _ _ _ _ (by rw [add_block]; show w.heap.size + 1 ≠ ad.block; omega), World.cell?_setCell_far _ _ _ _ (by rw [add_block]; show w.heap.size + 1 ≠ ad.block; omega), World.cell?_setCell_far _ _ _ _ (by rw [add_block]; show w.heap.size + 1 ≠ ad.block; omega), World.cell?_setCell_far _ _ _ _ (by rw [add_block]; show w.heap.size + 1 ≠ ad.block; omega)]
    exact hc i x hx
  · have hno := termAt_out (ks := ks) (id := id) (by simpa using hp)
    have HZ : Hid (∀ w', Q w w' → LookF ks id w (.returned (.tuple #[.agg #[.int .i64 0, .int .i64 0, .int .i64 0, .slice none 0 0], .bool false])) w') := fun w' q => by
      unfold LookF
      rw [hno]
      exact ⟨none, 0, 0, rfl, rfl, fun h => absurd h (by simp [Tm.none]), q, fun h => absurd h (by simp [Tm.none])⟩
    rw [hno]
    simp only [Option.getD_none, Option.isSome_none, Tm.none]
    have HX0a := Lib.hid (HX0.out.q q1)
    have HQ1 := Lib.hid (HQ0.out.trans q1)
    clear hn1 hi1 hfr hp hno HX0
    have qa := (Q.refl w1).alloc (Obj.cells #[.int .i64 0, .int .i64 0, .int .i64 0, .slice A1 n1 c1] 60)
    have HX05 := Lib.hid (HX0a.out.q qa)
    have HQa := Lib.hid (HQ1.out.trans qa)
    clear qa HQ1 HX0a
    go_upto_if 1 with fail
    generalize w1.alloc (Obj.cells #[.int .i64 0, .int .i64 0, .int .i64 0, .slice A1 n1 c1] 60) = W1 at *
    go_quiet (fail)
    have g0 := HX05.out.f0
    have g1 := HX05.out.f1
    have g2 := HX05.out.f2
    have g3 := HX05.out.f3
    have z0 := HX05.out.c0
    have z1 := HX05.out.c1
    have z2 := HX05.out.c2
    have z3 := HX05.out.c3
    go_wp2_with fail
    have hb4 := (HX05.out.q ((Q.refl W1).drewN nq)).all (.int .i64 0) (.int .i64 0) (.int .i64 0) (.slice none 0 0)
    have y0 := hb4.c0
    have y1 := hb4.c1
    have y2 := hb4.c2
    have y3 := hb4.c3
    have QW := Lib.hid (((((HQa.out.drewN nq).setCell (p := ⟨w.heap.size + 1, 0, none⟩) (by show _ ≤ w.heap.size + 1; omega) (.int .i64 0)).setCell (p := ⟨w.heap.size + 1, 1, none⟩) (by show _ ≤ w.heap.size + 1; omega) (.int .i64 0)).setCell (p := ⟨w.heap.size + 1, 2, none⟩) (by show _ ≤ w.heap.size + 1; omega) (.int .i64 0)).setCell (p := ⟨w.heap.size + 1, 3, none⟩) (by show _ ≤ w.heap.size + 1; omega) (.slice none 0 0))
    exact bodyPost_ret (v := .tuple #[.agg #[.int .i64 0, .int .i64 0, .int .i64 0, .slice none 0 0], .bool false]) (by simp [results, Try.f25, go_sem, y0, y1, y2, y3]) rfl (HZ.out _ QW.out)
end Go.Proofs.Ytjehccemilefgaa.St

namespace Go.Proofs.Ytjehccemilefgaa.St
open Go.RowKit Kit Rw
open Go.Proofs.Ytjehccemilefgaa.Sg (Sig Row)
open Go.Proofs.Ytjehccemilefgaa.Hs (Ints Keys BoxT)
open Go.Proofs.Ytjehccemilefgaa.Tm (Tm Store termAt Box4 isPl isPl_iff)
theorem slice10_str (W : World) (s : ByteArray) (a b : Nat) (ha : a ≤ b) (hb : b ≤ s.size) (a' b' : Int) (h1 : a' = a) (h2 : b' = b) :
    (Instr.slice 9 (.string s) (some (.int .i64 a')) (some (.int .i64 b')) none).run Try.prog W = .ok (.string (s.extract a b)) W := by
  subst h1 h2
  have := run_slice_string (P := Try.prog) (w := W) 9 s .i64 .i64 (a : Int) (b : Int) Try.underlying9 (by omega) (by omega) (by omega)
  rw [this, Int.toNat_natCast, Int.toNat_natCast]
/-- the text tells how each part varies -/
def Varies (L : List Sig) (t : Tm) (bs : ByteArray) : Prop := t.xs.length ≤ bs.size ∧ ∀ (k : Nat) (h : k < bs.size), k < t.xs.length → bs[k] = varyT L t k
/-- the term at which a projection's text begins -/
def VaryPost (L : List Sig) (t : Tm) (w : World) (e : Ending) (w' : World) : Prop := ∃ bs : ByteArray, e = .returned (.string bs) ∧ Varies L t bs ∧ (t.k = 6 → 0 < bs.size ∧ ∀ h : 0 < bs.size, bs[0] = varyN L t.s t.p.toNat) ∧ Q w w'
set_option maxRecDepth 100000 in
set_option maxHeartbeats 2000000 in
theorem vary10_any (R A : Option Addr) (nl cl n c a : Nat) (L : List Sig) (t : Tm) (w : World) (hnl : nl = L.length) (hr : Row w w.heap.size R L) (ht : TOk L a t) (hl8 : ∀ s ∈ L, s.2.size ≤ 8) :
    Calls Try.prog 33 #[.slice R nl cl, .agg #[.int .i64 t.k, .int .i64 t.s, .int .i64 t.p, .slice A n c]] w (VaryPost L t w) := by
  subst hnl
  have q0 := (Q.refl w).alloc (Obj.cells #[.int .i64 t.k, .int .i64 t.s, .int .i64 t.p, .slice A n c] 60)
  have X := Box4.new w (.int .i64 t.k) (.int .i64 t.s) (.int .i64 t.p) (.slice A n c) 60
  have HQ0 := Lib.hid q0
  have HX := Lib.hid X
  cases ht with
  | leaf hx hk =>
    have e3 : (t.k == 3) = false := by simp; omega
    have e6 : (t.k == 6) = false := by simp; omega
    have e4 : (t.k == 4) = false := by simp; omega
    have e5 : (t.k == 5) = false := by simp; omega
    have hk6 : ¬ t.k = 6 := by omega
    have HV : Hid (Varies L t ⟨#[]⟩) := ⟨by rw [hx]; exact Nat.zero_le _, fun k h => absurd h (by show ¬ k < 0; omega)⟩
    clear hr X q0 hx hk
    go_enter Try.func33, Try.ntmps33
    go_wp2_with fail
    go_ret
    exact ⟨_, rfl, HV.out, fun h => absurd h hk6, HQ0.out⟩
  | con j hj hk hs hl hx =>
    obtain ⟨ad, rfl, hb, _, c1⟩ := hr.at_ hj
    have c1' := (q0.cell (p := ⟨(ad.add (j * 2)).block, (ad.add (j * 2)).off + 1, none⟩) (by show (ad.add (j * 2)).block < _; rw [add_block]; exact hb)).trans c1
    have e3 : (t.k == 3) = true := by simpa using hk
    have hk6 : ¬ t.k = 6 := by omega
    have HV : Hid (Varies L t L[j].2) := ⟨by omega, fun k h _ => by unfold varyT; rw [if_pos hk, hs, varyN_at hj h]⟩
    have x0 := X.c0
    have x1 := X.c1.trans (congrArg (fun z => some (Value.int .i64 z)) hs)
    have i0 : (j : Int) < (L.length : Int) := by omega
    have i1 : (0 : Int) ≤ (j : Int) := Int.natCast_nonneg _
    clear hr X q0 hx hk hs hl c1 hb
    go_enter Try.func33, Try.ntmps33
    go_upto_region 3 with fail
    generalize w.alloc (Obj.cells #[.int .i64 t.k, .int .i64 t.s, .int .i64 t.p, .slice A n c] 60) = W0 at *
    go_wp2_with fail
    go_ret
    exact ⟨_, rfl, HV.out, fun h => absurd h hk6, HQ0.out⟩
  | two x y hk hx hxa hya =>
    have e3 : (t.k == 3) = false := by simp; omega
    have e6 : (t.k == 6) = false := by simp; omega
    have hk6 : ¬ t.k = 6 := by omega
    have HV : Hid (Varies L t ⟨#[43, 43]⟩) := ⟨by rw [hx]; exact Nat.le_refl 2, fun k h _ => by
      unfold varyT
      rw [if_neg (by omega), if_neg hk6]
      have h2 : k < 2 := h
      match k, h2 with
      | 0, _ => rfl
      | 1, _ => rfl⟩
    clear hr q0 hx
    by_cases k4 : t.k = 4
    · have e4 : (t.k == 4) = true := by simpa using k4
      clear X hk k4
      go_enter Try.func33, Try.ntmps33
      go_wp2_with fail
      go_ret
      exact ⟨_, rfl, HV.out, fun h => absurd h hk6, HQ0.out⟩
    · have e4 : (t.k == 4) = false := by simpa using k4
      have e5 : (t.k == 5) = true := by simp; omega
      clear X hk k4
      go_enter Try.func33, Try.ntmps33
      go_wp2_with fail
      go_ret
      exact ⟨_, rfl, HV.out, fun h => absurd h hk6, HQ0.out⟩
  | proj j m hj e hk hs hp hm hx hxe =>
    obtain ⟨ad, rfl, hb, _, c1⟩ := hr.at_ hj
    have c1' := (q0.cell (p := ⟨(ad.add (j * 2)).block, (ad.add (j * 2)).off + 1, none⟩) (by show (ad.add (j * 2)).block < _; rw [add_block]; exact hb)).trans c1
    have e3 : (t.k == 3) = false := by simp; omega
    have e6 : (t.k == 6) = true := by simpa using hk
    have hsz : (L[j].2.extract m (m + 1)).size = 1 := by rw [ByteArray.size_extract]; omega
    have hby : ∀ h : 0 < (L[j].2.extract m (m + 1)).size, (L[j].2.extract m (m + 1))[0] = varyN L t.s t.p.toNat := fun h => by
      rw [hs, hp, Int.toNat_natCast, varyN_at hj hm]
      simp [ByteArray.getElem_extract]
    have HV : Hid (Varies L t (L[j].2.extract m (m + 1))) := ⟨by rw [hx, hsz]; exact Nat.le_refl 1, fun k h _ => by
      have hk0 : k = 0 := by omega
      subst hk0
      unfold varyT
      rw [if_neg (by omega), if_pos hk]
      exact hby h⟩
    have HV0 : Hid (0 < (L[j].2.extract m (m + 1)).size ∧ ∀ h : 0 < (L[j].2.extract m (m + 1)).size, (L[j].2.extract m (m + 1))[0] = varyN L t.s t.p.toNat) := ⟨by omega, hby⟩
    have x0 := X.c0
    have x1 := X.c1.trans (congrArg (fun z => some (Value.int .i64 z)) hs)
    have x2 := X.c2.trans (congrArg (fun z => some (Value.int .i64 z)) hp)
    have hxl := X.lt
    have i0 : (j : Int) < (L.length : Int) := by omega
    have i1 : (0 : Int) ≤ (j : Int) := Int.natCast_nonneg _
    have i2 : (m : Int) < (L[j].2.size : Int) := by omega
    have i3 : (0 : Int) ≤ (m : Int) := Int.natCast_nonneg _
    have i4 : L[j].2.size ≤ 8 := hl8 _ (List.getElem_mem hj)
    have i5 : (m : Int) < 8 := by omega
    clear hl8
    clear hr X q0 hx hk hs hp c1 hsz hby
    go_enter Try.func33, Try.ntmps33
    go_upto_region 5 with fail
    generalize w.alloc (Obj.cells #[.int .i64 t.k, .int .i64 t.s, .int .i64 t.p, .slice A n c] 60) = W0 at *
    have hcut : ∀ u, (Instr.slice 9 (.string L[j].2) (some (.int .i64 (m : Int))) (some (.int .i64 ((m : Int) + 1))) none).run Try.prog u = .ok (.string (L[j].2.extract m (m + 1))) u := fun u => slice10_str u _ m (m + 1) (by omega) (by omega) _ _ rfl (by omega)
    go_quiet (fail)
    go_wp2_with fail
    go_ret
    exact ⟨_, rfl, HV.out, fun _ => HV0.out, HQ0.out.drewN _⟩
end Go.Proofs.Ytjehccemilefgaa.St

namespace Go.Proofs.Ytjehccemilefgaa.St
open Go.RowKit Kit Rw

def eqP (a b : PI) : Bool := (a.1 == b.1) && (a.2 == b.2)
theorem eqP_iff (a b : PI) : eqP a b = true ↔ a = b := by
  unfold eqP
  rw [Bool.and_eq_true, beq_iff_eq, beq_iff_eq, Prod.ext_iff]
theorem int_info : ∃ i, Try.prog.info? 3 = some i := by
  cases h : Try.prog.info? 3 with
  | some i => exact ⟨i, rfl⟩
  | none => exact absurd h (by decide +kernel)
theorem run_eq_pair (w : World) (a b c d : Int) : (Op.equalIn 10000 46 (.agg #[.int .i64 a, .int .i64 b]) (.agg #[.int .i64 c, .int .i64 d])).run Try.prog w = .ok ((a == c) && (b == d)) w := by
  obtain ⟨i, hi⟩ := int_info
  have hc : Try.prog.cellsOf 3 = 1 := by kernel_rfl
  have ei : ∀ x y : Int, (Op.equalIn 9999 3 (.int .i64 x) (.int .i64 y)).run Try.prog w = .ok (x == y) w := fun x y => run_equalIn_int w 9998 _ .i64 .i64 x y Try.underlying3
  have p0 := Ex.part_int w #[.int .i64 a, .int .i64 b] 0 a rfl
  have p1 := Ex.part_int w #[.int .i64 c, .int .i64 d] 0 c rfl
  have p2 := Ex.part_int w #[.int .i64 a, .int .i64 b] 1 b rfl
  have p3 := Ex.part_int w #[.int .i64 c, .int .i64 d] 1 d rfl
  rw [show (10000 : Nat) = 9999 + 1 from rfl, run_equalIn_array w 9999 _ _ Try.underlying46 hi, hc, show List.range 2 = [0, 1] from rfl]
  simp only [Op.eqItems, Sem.run_bind, Nat.zero_mul, Nat.one_mul, p0, p1, Result.andThen_ok, ei]
  cases a == c
  · simp [Sem.run_pure]
  · simp only [Bool.not_true, Bool.false_eq_true, if_false, Sem.run_bind, p2, p3, Result.andThen_ok, ei]
    cases b == d <;> simp [Sem.run_pure]
theorem run_eql_pair (w : World) (x y : PI) : (binOp .eql 46 (.agg #[.int .i64 x.1, .int .i64 x.2]) (.agg #[.int .i64 y.1, .int .i64 y.2])).run Try.prog w = .ok (.bool (eqP x y)) w := by
  rw [run_eql_struct, run_eq_pair]; rfl
theorem run_neq_pair (w : World) (x y : PI) : (binOp .neq 46 (.agg #[.int .i64 x.1, .int .i64 x.2]) (.agg #[.int .i64 y.1, .int .i64 y.2])).run Try.prog w = .ok (.bool (!eqP x y)) w := by
  rw [run_neq_struct, run_eq_pair]; rfl
def eqQ : List PI → List PI → Bool
  | a :: l, b :: m => eqP a b && eqQ l m
  | _, _ => true
def sameQ (l m : List PI) : Bool := decide (l.length = m.length) && eqQ l m
theorem eqQ_at (l m : List PI) (k : Nat) (h : k < l.length) (h' : k < m.length) : eqQ (l.drop k) (m.drop k) = (eqP l[k] m[k] && eqQ (l.drop (k + 1)) (m.drop (k + 1))) := by
  rw [List.drop_eq_getElem_cons h, List.drop_eq_getElem_cons h']; rfl
theorem eqQ_end (l m : List PI) (k : Nat) (h : l.length ≤ k) : eqQ (l.drop k) (m.drop k) = true := by
  rw [List.drop_eq_nil_of_le h]; rfl
theorem eqQ_iff : ∀ (l m : List PI), l.length = m.length → (eqQ l m = true ↔ l = m)
  | [], [], _ => by simp [eqQ]
  | a :: l, b :: m, h => by
    rw [eqQ, Bool.and_eq_true, eqP_iff, eqQ_iff l m (by simpa using h)]
    simp
theorem sameQ_iff (l m : List PI) : sameQ l m = true ↔ l = m := by
  unfold sameQ
  rw [Bool.and_eq_true, decide_eq_true_eq]
  constructor
  · rintro ⟨h, g⟩; exact (eqQ_iff l m h).1 g
  · rintro rfl; exact ⟨rfl, (eqQ_iff l l rfl).2 rfl⟩
set_option maxRecDepth 100000 in
set_option maxHeartbeats 2000000 in
theorem refPairsEq_any (A B : Option Addr) (n c m d : Nat) (l r : List PI) (w : World) (hn : n = l.length) (hm : m = r.length) (hr : Rds w w.heap.size A (cellsQ l)) (hr' : Rds w w.heap.size B (cellsQ r)) (hl : l.length ≤ 1000000) :
    Calls Try.prog 19 #[.slice A n c, .slice B m d] w fun e w' => e = .returned (.bool (sameQ l r)) ∧ Q w w' := by
  subst hn hm
  have HR := Lib.hid hr
  have HR' := Lib.hid hr'
  clear hr hr'
  by_cases hne : l.length = r.length
  · have e0 : ((l.length : Int) != (r.length : Int)) = false := by rw [bne_eq_false_iff_eq]; omega
    have HN := Lib.hid hne
    have HF0 : Hid (sameQ l r = eqQ l r) := by unfold Hid sameQ; rw [decide_eq_true hne, Bool.true_and]
    clear hne
    go_enter Try.func19, Try.ntmps19
    go_wp2_with fail
    go_loopw [5] (fun iv wr => ∃ k : Nat, k ≤ l.length ∧ iv = .int .i64 k ∧ Hid (eqQ l r = eqQ (l.drop k) (r.drop k)) ∧ Hid (Q w wr)) (fun iv _ => l.length - (intOf iv).toNat)
    case atStart => exact ⟨0, Nat.zero_le _, rfl, Lib.hid (by simp), Lib.hid (Q.refl w)⟩
    case round =>
      obtain ⟨k, hk, rfl, HD, HQ⟩ := hrel
      by_cases hlt : k < l.length
      · have hlt' : k < r.length := by have := HN.out; omega
        obtain ⟨ad, rfl, hb, c0, c1⟩ := pair_at (HR.out.q HQ.out) hlt
        obtain ⟨ad', rfl, hb', c0', c1'⟩ := pair_at (HR'.out.q HQ.out) hlt'
        have HE' := fun w => run_neq_pair w l[k] r[k]
        have HD2 := HD.out.trans (eqQ_at l r k hlt hlt')
        have j1 : (k : Int) < (l.length : Int) := by omega
        have j2 : (k : Int) < (r.length : Int) := by omega
        have j0 : (0 : Int) ≤ (k : Int) := Int.natCast_nonneg _
        clear HD
        generalize l[k] = z at *
        generalize r[k] = z' at *
        cases he : eqP z z'
        · rw [he] at HE' HD2
          have HD3 := Lib.hid HD2
          rw [Bool.false_and] at HD3
          clear he HD2
          go_wp2_with fail
          go_quiet (fail)
          go_wp2_with fail
          go_ret
          exact ⟨by rw [HF0.out, HD3.out]; rfl, by first | exact HQ.out.drew | exact HQ.out.drewN _⟩
        · rw [he] at HE' HD2
          have HD3 := Lib.hid HD2
          rw [Bool.true_and] at HD3
          clear he HD2
          go_wp2_with fail
          go_quiet (fail)
          go_wp2_with fail
          go_roundw
          case rel => exact ⟨k + 1, by omega, by go_num, HD3, Lib.hid (by first | exact HQ.out.drew | exact HQ.out.drewN _)⟩
          case measure => simp [intOf]; omega
      · have HD2 : Hid (eqQ l r = true) := by
          unfold Hid
          rw [HD.out, eqQ_end _ _ _ (by omega)]
        go_wp2_with fail
        go_ret
        exact ⟨by rw [HF0.out, HD2.out]; rfl, HQ.out⟩
  · have e0 : ((l.length : Int) != (r.length : Int)) = true := by rw [bne_iff_ne]; omega
    have HF0 : Hid (sameQ l r = false) := by unfold Hid sameQ; rw [decide_eq_false hne, Bool.false_and]
    clear hne
    go_enter Try.func19, Try.ntmps19
    go_wp2_with fail
    go_ret
    exact ⟨by rw [HF0.out]; rfl, Q.refl w⟩
def sameW (a b : Int × List PI) : Bool := (a.1 == b.1) && sameQ a.2 b.2
theorem sameW_iff (a b : Int × List PI) : sameW a b = true ↔ a = b := by
  unfold sameW
  rw [Bool.and_eq_true, beq_iff_eq, sameQ_iff, Prod.ext_iff]
set_option maxRecDepth 100000 in
set_option maxHeartbeats 2000000 in
theorem refSame10_any (A B : Option Addr) (n c m d : Nat) (a b : Int × List PI) (w : World) (hn : n = a.2.length) (hm : m = b.2.length) (hr : Rds w w.heap.size A (cellsQ a.2)) (hr' : Rds w w.heap.size B (cellsQ b.2)) (hl : a.2.length ≤ 1000000) :
    Calls Try.prog 12 #[.agg #[.int .i64 a.1, .slice A n c], .agg #[.int .i64 b.1, .slice B m d]] w fun e w' => e = .returned (.bool (sameW a b)) ∧ Q w w' := by
  subst hn hm
  have q0 := ((Q.refl w).alloc (Obj.cells #[.int .i64 a.1, .slice A a.2.length c] 33)).alloc (Obj.cells #[.int .i64 b.1, .slice B b.2.length d] 33)
  have CE := Lib.hid (refPairsEq_any A B a.2.length c b.2.length d a.2 b.2 _ rfl rfl (hr.q q0) (hr'.q q0) hl)
  have HF : Hid (sameW a b = ((a.1 == b.1) && sameQ a.2 b.2)) := rfl
  have HQ0 := Lib.hid q0
  clear hr hr' q0
  cases hk : a.1 == b.1
  · rw [hk, Bool.false_and] at HF
    go_enter Try.func12, Try.ntmps12
    go_wp2_with fail
    go_ret
    exact ⟨by rw [HF.out]; rfl, HQ0.out⟩
  · rw [hk, Bool.true_and] at HF
    go_enter Try.func12, Try.ntmps12
    go_wp2_with fail
    refine CE.out.mono ?_
    rintro e w1 ⟨rfl, q1⟩
    go_wp2_with fail
    go_ret
    exact ⟨by rw [HF.out]; first | rfl | simp, HQ0.out.trans q1⟩
end Go.Proofs.Ytjehccemilefgaa.St

namespace Go.Proofs.Ytjehccemilefgaa.Tm
open Go.RowKit Kit Hs

end Go.Proofs.Ytjehccemilefgaa.Tm

namespace Go.Proofs.Ytjehccemilefgaa.Tm
open Go.RowKit Kit Hs

end Go.Proofs.Ytjehccemilefgaa.Tm

namespace Go.Proofs.Ytjehccemilefgaa.Tm
open Go.RowKit Kit Hs

set_option maxRecDepth 100000 in
set_option maxHeartbeats 1000000 in
theorem refOfB_any (Bd : Nat) (A S : Option Addr) (n c m d : Nat) (ks : List (List Int)) (id : Int) (w : World) (hn : n = ks.length) (hk : Keys w Bd A ks) (hBd : Bd ≤ w.heap.size) :
    Calls Try.prog 27 #[.agg #[.slice A n c, .slice S m d], .int .i64 id] w (LookB Bd ks id w) := by
  subst hn
  have q0 := ((Q.refl w).alloc (Obj.cells #[Value.slice A ks.length c, Value.slice S m d] 26)).alloc (Obj.cells #[.int .i64 0, .int .i64 0, .int .i64 0, .slice none 0 0] 60)
  cases hp : isPl id ks.length
  · have HT := Lib.hid (termAt_out hp)
    have hno := isPl_no hp
    clear hk
    by_cases h0 : id < 0
    · have d0 : decide (id < 0) = true := decide_eq_true h0
      clear hno h0
      go_enter Try.func27, Try.ntmps27
      go_wp2_with fail
      exact bodyPost_ret (v := .tuple #[.agg #[.int .i64 0, .int .i64 0, .int .i64 0, .slice none 0 0], .bool false]) (by simp [results, Try.f27, go_sem]) rfl (lookB_none HT.out q0)
    · have d0 : decide (id < 0) = false := decide_eq_false h0
      have d1 : decide ((ks.length : Int) ≤ id) = true := decide_eq_true (by omega)
      clear hno h0
      go_enter Try.func27, Try.ntmps27
      go_wp2_with fail
      exact bodyPost_ret (v := .tuple #[.agg #[.int .i64 0, .int .i64 0, .int .i64 0, .slice none 0 0], .bool false]) (by simp [results, Try.f27, go_sem]) rfl (lookB_none HT.out q0)
  · obtain ⟨h0, h1⟩ := (isPl_iff _ _).1 hp
    obtain ⟨i, rfl⟩ := Int.eq_ofNat_of_zero_le h0
    have hlt : i < ks.length := by omega
    obtain ⟨ad, rfl, hb, a, c1, hle, c0, hi⟩ := hk.at_ hlt
    by_cases h3 : 3 ≤ ks[i].length
    · have HT := Lib.hid (termAt_key hlt h3)
      obtain ⟨ad1, rfl, hb1, hc1⟩ := hi (by omega)
      have k0 := hc1 0 _ (List.getElem?_eq_getElem (show 0 < ks[i].length by omega))
      have k1 := hc1 1 _ (List.getElem?_eq_getElem (show 1 < ks[i].length by omega))
      have k2 := hc1 2 _ (List.getElem?_eq_getElem (show 2 < ks[i].length by omega))
      have hsl := slice_l (some ad1) ks[i].length c1 3 h3
      have d3 : decide (ks[i].length < 3) = false := decide_eq_false (by omega)
      have Hc := Lib.hid hc1
      have c0' := (q0.cell (p := ad.add i) (by rw [add_block]; exact Nat.lt_of_lt_of_le hb hBd)).trans c0
      have k0' : ((w.alloc (Obj.cells #[Value.slice (some ad) ks.length c, Value.slice S m d] 26)).alloc (Obj.cells #[.int .i64 0, .int .i64 0, .int .i64 0, .slice none 0 0] 60)).cell? ad1 = some (.int .i64 ks[i][0]) := (q0.cell (by exact Nat.lt_of_lt_of_le hb1 hBd)).trans (by simpa [Addr.add] using k0)
      have k1' : ((w.alloc (Obj.cells #[Value.slice (some ad) ks.length c, Value.slice S m d] 26)).alloc (Obj.cells #[.int .i64 0, .int .i64 0, .int .i64 0, .slice none 0 0] 60)).cell? ⟨ad1.block, ad1.off + 1, none⟩ = some (.int .i64 ks[i][1]) := (q0.cell (by exact Nat.lt_of_lt_of_le hb1 hBd)).trans (by simpa [Addr.add] using k1)
      have k2' : ((w.alloc (Obj.cells #[Value.slice (some ad) ks.length c, Value.slice S m d] 26)).alloc (Obj.cells #[.int .i64 0, .int .i64 0, .int .i64 0, .slice none 0 0] 60)).cell? ⟨ad1.block, ad1.off + 2, none⟩ = some (.int .i64 ks[i][2]) := (q0.cell (by exact Nat.lt_of_lt_of_le hb1 hBd)).trans (by simpa [Addr.add] using k2)
      clear hk hc1 hi c0 k0 k1 k2
      go_enter Try.func27, Try.ntmps27
      go_wp2_with fail
      go_region
      all_goals go_wp2_with fail
      · rename_i h
        have qW : Q w (((w.alloc (Obj.cells #[Value.slice (some ad) ks.length c, Value.slice S m d] 26)).alloc (Obj.cells #[.int .i64 ks[i][0], .int .i64 ks[i][1], .int .i64 ks[i][2], .slice (some ad1) (ks[i].length - 3) 0] 60)).drew) := (((Q.refl w).alloc _).alloc _).drew
        refine bodyPost_ret (v := .tuple #[.agg #[.int .i64 ks[i][0], .int .i64 ks[i][1], .int .i64 ks[i][2], .slice (some ad1) (ks[i].length - 3) 0], .bool true]) (by simp [results, Try.f27, go_sem]) rfl (lookB_some HT.out (by simp) (fun h0 => ?_) qW)
        rw [List.length_drop] at h0
        omega
      · have qW : Q w (((w.alloc (Obj.cells #[Value.slice (some ad) ks.length c, Value.slice S m d] 26)).alloc (Obj.cells #[.int .i64 ks[i][0], .int .i64 ks[i][1], .int .i64 ks[i][2], .slice (some ⟨ad1.block, ad1.off + 3, none⟩) (ks[i].length - 3) (c1 - 3)] 60)).drew) := (((Q.refl w).alloc _).alloc _).drew
        refine bodyPost_ret (v := .tuple #[.agg #[.int .i64 ks[i][0], .int .i64 ks[i][1], .int .i64 ks[i][2], .slice (some ⟨ad1.block, ad1.off + 3, none⟩) (ks[i].length - 3) (c1 - 3)], .bool true]) (by simp [results, Try.f27, go_sem]) rfl (lookB_some HT.out (by simp) ?_ qW)
        exact drop_intsB Hc.out hb1 hBd qW 3
    · have HT := Lib.hid (termAt_short hlt (Nat.lt_of_not_le h3))
      have d3 : decide (ks[i].length < 3) = true := decide_eq_true (by omega)
      have c0' := (q0.cell (p := ad.add i) (by rw [add_block]; exact Nat.lt_of_lt_of_le hb hBd)).trans c0
      clear hk hi c0
      go_enter Try.func27, Try.ntmps27
      go_wp2_with fail
      exact bodyPost_ret (v := .tuple #[.agg #[.int .i64 0, .int .i64 0, .int .i64 0, .slice none 0 0], .bool false]) (by simp [results, Try.f27, go_sem]) rfl (lookB_none HT.out q0)

end Go.Proofs.Ytjehccemilefgaa.Tm

namespace Go.Proofs.Ytjehccemilefgaa.Tm
open Go.RowKit Kit Hs

end Go.Proofs.Ytjehccemilefgaa.Tm
