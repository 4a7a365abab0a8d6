/-
  Contracts of package expr's partsOf, lay, Starts.
-/
import Derived.Test.YtmohedkhbjeapaaRef7F
import Derived.Test.YtmohedkhbjeapaaRef7D
import Derived.RegionTactic
namespace Go.Proofs.Ytmohedkhbjeapaa.Ex
open Go.RowKit Kit Nm Rw

theorem partsOf_any (t : Tg) (hm : mayN t = true) (w : World) :
    Calls Try.prog 53 #[.agg #[.int .i64 t.1, .string t.2.1, .int .i64 t.2.2]] w fun e w' => e = .returned (.int .i64 (np t : Int)) ∧ Q w w' := by
  obtain ⟨k, s, n⟩ := t
  have hp := (parts_nat hm).1
  have HP : Hid ((np (k, s, n) : Int) = if k = 6 then 1 else n) := by unfold Hid; rw [← hp]; rfl
  have H0 : Hid (k = 0 ∨ k = 1 ∨ k = 2 → n = 0) := by
    unfold Hid
    intro hk
    unfold mayN at hm
    simp only at hm
    by_cases h : k = 0 ∨ k = 1
    · rw [if_pos h] at hm
      simp only [Bool.and_eq_true, beq_iff_eq] at hm
      exact hm.2
    · rw [if_neg h, if_pos (by omega)] at hm
      simp only [Bool.and_eq_true, beq_iff_eq] at hm
      exact hm.2
  have H2 : Hid (k = 4 ∨ k = 5 → (np (k, s, n) : Int) = 2) := Lib.hid fun h => by rw [np_two hm h]; rfl
  have hk := may_kinds hm
  simp only at hk
  clear hp hm
  rcases hk with rfl | rfl | rfl | rfl | rfl | rfl | rfl
  all_goals
    go_enter Try.func53, Try.ntmps53
    go_wp2_with fail
    go_ret
    refine ⟨?_, (Q.refl _).alloc _⟩
  · rw [HP.out, if_neg (by decide), H0.out (by simp)]; rfl
  · rw [HP.out, if_neg (by decide), H0.out (by simp)]; rfl
  · rw [HP.out, if_neg (by decide), H0.out (by simp)]; rfl
  · rw [HP.out]; rfl
  · rw [H2.out (by simp)]; rfl
  · rw [H2.out (by simp)]; rfl
  · rw [HP.out]; rfl


theorem own_made (w : World) (n : Nat) (t : TypeId) : OwnC (w.alloc (.cells (madeCells #[.int .i64 0] n) t)) w.heap.size (cellsI (List.replicate n 0)) := by
  refine ⟨by simp, fun i x hx => ?_⟩
  have hi : i < n := by have := (List.getElem?_eq_some_iff.1 hx).1; simpa [cellsI] using this
  have e : x = .int .i64 0 := by rw [cellsI, List.map_replicate, List.getElem?_replicate, if_pos hi] at hx; simpa using hx.symm
  subst e
  refine ⟨?_, World.frozen?_alloc_at _ _ _ _ rfl⟩
  rw [cell_of_row _ _ _ _ _ _ (heap_alloc_new w _)]
  simp [madeCells, hi, Nat.mod_one]
theorem make_ints (n : Nat) (hn : n ≤ 100000000) (u : World) : (Instr.makeSlice 41 (.int .i64 (n : Int)) (.int .i64 (n : Int))).run Try.prog u = .ok (.slice (some ⟨u.heap.size, 0, none⟩) n n) (u.alloc (.cells (madeCells #[.int .i64 0] n) 3)) := by
  obtain ⟨i0, hi, hz0, hz1, hz2⟩ := info_parts intInfo
  have h := run_make (P := Try.prog) u 41 3 i0 _ Try.underlying41 hi hz0 .i64 .i64 (n : Int) (n : Int) (by omega) (by omega) (by rw [hz2]; omega) (by omega)
  rw [hz1, Nat.mul_one] at h
  exact h
theorem cellsI_set (l : List Int) (k : Nat) (x : Int) : cellsI (l.set k x) = (cellsI l).set k (.int .i64 x) := by simp [cellsI]
/-- what a row of starts has, as far as it is made -/
def madeS (l : List Tg) (k : Nat) : List Int := startsL l k ++ List.replicate (l.length - k) 0
theorem madeS_len (l : List Tg) (k : Nat) (h : k ≤ l.length) : (madeS l k).length = l.length := by simp [madeS, startsL_len]; omega
theorem madeS_zero (l : List Tg) : madeS l 0 = List.replicate l.length 0 := by simp [madeS, startsL]
theorem madeS_all (l : List Tg) : madeS l l.length = startsL l l.length := by simp [madeS]
theorem madeS_at (l : List Tg) (k j : Nat) (h : j < k) (hk : k ≤ l.length) : (madeS l k)[j]'(by rw [madeS_len l k hk]; omega) = (startOf l j : Int) := by
  unfold madeS
  rw [List.getElem_append_left (by rw [startsL_len]; exact h), startsL_at l k j h]
theorem madeS_next (l : List Tg) (k : Nat) (h : k < l.length) : (madeS l k).set k (startOf l k : Int) = madeS l (k + 1) := by
  unfold madeS
  rw [startsL_next, List.set_append_right _ _ (by rw [startsL_len]; exact Nat.le_refl _), startsL_len, Nat.sub_self]
  have e : l.length - k = (l.length - (k + 1)) + 1 := by omega
  rw [e, List.replicate_succ, List.set_cons_zero, List.append_assoc]
  rfl

set_option maxRecDepth 100000 in
set_option maxHeartbeats 4000000 in
theorem lay_any (A : Option Addr) (n c : Nat) (l : List Tg) (x : Ex) (w : World) (hn : n = l.length) (hr : Rds w w.heap.size A (cellsG l)) (hl : l.length ≤ 1000) (hm : ∀ t ∈ l, mayN t = true) (hs : runS [] l = some [x]) :
    Calls Try.prog 44 #[.slice A n c] w fun e w' => ∃ g, e = .returned (.tuple #[.agg #[.slice A l.length c, .slice (some ⟨g, 0, none⟩) l.length l.length], .bool true]) ∧ OwnC w' g (cellsI (startsL l l.length)) ∧ w.heap.size ≤ g ∧ Q w w' := by
  subst hn
  have hpos : 0 < l.length := by
    cases l with
    | nil => injection hs with hs; cases hs
    | cons a l => simp
  have HR := Lib.hid hr
  have HM := Lib.hid hm
  have HS := Lib.hid hs
  clear hr hm hs
  have hmk := make_ints l.length (by omega)
  have d0 : decide (0 < (l.length : Int)) = true := decide_eq_true (by omega)
  have HB : Hid (Q w (w.alloc (Obj.cells #[Value.slice none 0 0, Value.slice none 0 0] 80)) ∧ w.heap.size < (w.alloc (Obj.cells #[Value.slice none 0 0, Value.slice none 0 0] 80)).heap.size ∧
      OwnC (w.alloc (Obj.cells #[Value.slice none 0 0, Value.slice none 0 0] 80)) w.heap.size [Value.slice none 0 0, Value.slice none 0 0]) :=
    ⟨(Q.refl w).alloc _, by simp, ⟨by simp, fun j v hv => ⟨by have := (src_alloc w [Value.slice none 0 0, Value.slice none 0 0] 80 (0, 0)) (by simp); obtain ⟨ad, e, h⟩ := this; injection e with e; subst e; have := h j v hv; rwa [add_zero_head] at this, World.frozen?_alloc_at _ _ _ _ rfl⟩⟩⟩
  go_enter Try.func44, Try.ntmps44
  go_upto_region 1 with fail
  generalize w.alloc (Obj.cells #[Value.slice none 0 0, Value.slice none 0 0] 80) = W0 at *
  go_wp2_with fail
  have HO := Lib.hid (own_made W0 l.length 3)
  have HQ := Lib.hid ((Q.refl W0).alloc (Obj.cells (madeCells #[Value.int IntKind.i64 0] l.length) 3))
  clear hmk
  generalize W0.alloc (Obj.cells (madeCells #[Value.int IntKind.i64 0] l.length) 3) = W1 at *
  obtain ⟨g, hg⟩ : ∃ g, g = W0.heap.size := ⟨_, rfl⟩
  rw [← hg] at HO ⊢
  have HG := Lib.hid hg
  clear hg
  go_loopw [5, 18] (fun ok i wr => ∃ k : Nat, k ≤ l.length ∧ i = .int .i64 k ∧ ok = .bool true ∧ Hid (OwnC wr g (cellsI (madeS l k))) ∧ Hid (Q W0 wr)) (fun _ i _ => l.length - (intOf i).toNat)
  case atStart => exact ⟨0, Nat.zero_le _, rfl, rfl, by rw [madeS_zero]; exact HO, HQ⟩
  case round =>
    clear HO HQ
    obtain ⟨k, hk, rfl, rfl, HO, HQ⟩ := hrel
    by_cases hlt : k < l.length
    · obtain ⟨ad, rfl, hb, c0, c1, c2⟩ := tok_at (HR.out.q (HB.out.1.trans HQ.out)) hlt
      obtain ⟨sk, hsk⟩ := run_take HS.out k
      obtain ⟨sn, hsn⟩ := run_take HS.out (k + 1)
      obtain ⟨hnp, hnx⟩ := run_next hlt hsk hsn
      have HSK := Lib.hid hsk
      have HSN : Hid (startOf l k = k + 1 - (Ex.mk l[k] (sk.take (np l[k])).reverse).size) := start_of (by rw [hsn, hnx])
      have HNX : Hid (runS [] (l.take (k + 1)) = some (.mk l[k] (sk.take (np l[k])).reverse :: sk.drop (np l[k]))) := by unfold Hid; rw [hsn, hnx]
      have hp8 := (parts_nat (HM.out l[k] (List.getElem_mem hlt))).2
      clear hsn hnx hsk
      have CP : Hid (∀ W : World, Calls Try.prog 53 #[.agg #[.int .i64 l[k].1, .string l[k].2.1, .int .i64 l[k].2.2]] W fun e w' => e = .returned (.int .i64 (np l[k] : Int)) ∧ Q W w') := fun W => partsOf_any l[k] (HM.out l[k] (List.getElem_mem hlt)) W
      have dp : decide ((0 : Int) ≤ (np l[k] : Int)) = true := decide_eq_true (by omega)
      go_wp2_with (go_at_call 53; refine (CP.out _).mono ?_; rintro e w3 ⟨rfl, q3⟩)
      have HO3 := Lib.hid (HO.out.q ((Q.refl wr).alloc (Obj.cells #[.int .i64 l[k].1, .string l[k].2.1, .int .i64 l[k].2.2] 38) |>.trans q3))
      have HQ3 := Lib.hid ((HQ.out.alloc (Obj.cells #[.int .i64 l[k].1, .string l[k].2.1, .int .i64 l[k].2.2] 38)).trans q3)
      clear HO HQ
      go_loopw [5, 9, 32] (fun ok2 at_ i wr2 => ∃ (j p : Nat), ok2 = .bool true ∧ j ≤ np l[k] ∧ p ≤ k ∧ i = .int .i64 j ∧ at_ = .int .i64 p ∧ Hid (runS [] (l.take p) = some (sk.drop j)) ∧ Hid (OwnC wr2 g (cellsI (madeS l k))) ∧ Hid (Q W0 wr2)) (fun _ _ i _ => np l[k] - (intOf i).toNat)
      case atStart => exact ⟨0, k, rfl, Nat.zero_le _, Nat.le_refl _, rfl, rfl, by simpa using HSK, HO3, HQ3⟩
      case round =>
        clear HO3 HQ3
        obtain ⟨j, p, rfl, hj, hpk, rfl, rfl, HP, HO3, HQ3⟩ := hrel
        by_cases hjl : j < np l[k]
        · have hd : sk.drop j = (sk[j]'(by omega)) :: sk.drop (j + 1) := List.drop_eq_getElem_cons (by omega)
          have HP2 := HP.out
          rw [hd] at HP2
          obtain ⟨hp0, hsz, hst, hnx, _⟩ := back_one (by omega) HP2
          clear HP2 hd
          obtain ⟨p', rfl⟩ : ∃ p', p = p' + 1 := ⟨p - 1, by omega⟩
          rw [Nat.add_sub_cancel] at hst
          have hcell := (HO3.out.2 p' _ (cellsI_at (show p' < (madeS l k).length by rw [madeS_len l k (by omega)]; omega))).1
          rw [madeS_at l k p' (by omega) (by omega), hst] at hcell
          have HP' : Hid (runS [] (l.take (p' + 1 - (sk[j]'(by omega)).size)) = some (sk.drop (j + 1))) := hnx
          have hq : p' + 1 - (sk[j]'(by omega)).size ≤ p' := by have := size_pos (sk[j]'(by omega)); omega
          have e1 : ((p' + 1 : Nat) : Int) - 1 = (p' : Int) := by omega
          have e0 : (((p' + 1 : Nat) : Int) == 0) = false := beq_eq_false_iff_ne.2 (by omega)
          generalize p' + 1 - (sk[j]'(by omega)).size = q at *
          clear hst hnx HP hsz hp0
          go_wp2_with fail
          go_roundw
          case rel => exact ⟨j + 1, q, rfl, by omega, by omega, by go_num, rfl, HP', HO3, HQ3⟩
          case measure => simp [intOf]; omega
        · have hpe : p = startOf l k := by
            obtain rfl : j = np l[k] := by omega
            have hl1 : (l.take (k + 1)).length = k + 1 := by rw [List.length_take]; omega
            obtain ⟨_, h2, h3, _⟩ := run_pop HNX.out
            rw [hl1] at h2 h3
            rw [List.take_take, Nat.min_eq_left (by omega)] at h3
            have e1 := (run_nodes HP.out).2
            have e2 := (run_nodes h3).2
            rw [e1] at e2
            have e3 := congrArg List.length e2
            rw [List.length_take, List.length_take] at e3
            rw [HSN.out]
            omega
          subst hpe
          have HO2 := Lib.hid (madeS_next l k hlt)
          have hkl : k < (cellsI (madeS l k)).length := by rw [cellsI_len, madeS_len l k hk]; exact hlt
          generalize hx : startOf l k = x at *
          have HSt := Lib.hid (HO3.out.set hkl (.int .i64 (x : Int)))
          have hc := HO3.out.2 k _ (List.getElem?_eq_getElem hkl)
          have hc1 := hc.1
          have hc2 := hc.2
          have HQ2 : Hid (Q W0 (wr.setCell ⟨g, k, none⟩ (.int .i64 (x : Int)))) := grown_q (setCell_grown _ _ _ _) HQ3.out (by rw [HG.out]; exact Nat.le_refl _)
          rw [← cellsI_set, HO2.out] at HSt
          clear HSN HP hx hc HO2
          go_wp2_with fail
          go_roundw
          case rel => exact ⟨k + 1, by omega, by go_num, rfl, HSt, HQ2⟩
          case measure => simp [intOf]; omega
    · obtain rfl : k = l.length := by omega
      rw [madeS_all] at HO
      obtain ⟨k', hk'⟩ : ∃ k', l.length = k' + 1 := ⟨l.length - 1, by omega⟩
      have h0 : startOf l k' = 0 := by
        have e : l.take (k' + 1) = l := by rw [← hk', List.take_length]
        have hs := HS.out
        rw [← e] at hs
        rw [start_of hs]
        have h2 := (run_nodes HS.out).2
        simp only [List.reverse_cons, List.reverse_nil, List.nil_append, nodesL, List.append_nil] at h2
        have : x.size = l.length := by unfold Ex.size; rw [h2]
        omega
      have hcell := (HO.out.2 k' _ (cellsI_at (show k' < (startsL l l.length).length by rw [startsL_len]; omega))).1
      rw [startsL_at l _ k' (by omega), h0] at hcell
      have e1 : ((l.length : Nat) : Int) - 1 = (k' : Int) := by omega
      have hbx := HB.out.2.2.q HQ.out
      have f0 := (hbx.2 0 _ rfl).1
      have f1 := (hbx.2 1 _ rfl).1
      have g0 := (hbx.2 0 _ rfl).2
      have g1 := (hbx.2 1 _ rfl).2
      have hgs : w.heap.size ≤ g := by have := HB.out.2.1; rw [HG.out]; omega
      have hgb : w.heap.size ≠ g := by have := HB.out.2.1; rw [HG.out]; omega
      have hcell' : ((wr.setCell ⟨w.heap.size, 0, none⟩ (.slice A l.length c)).setCell ⟨w.heap.size, 1, none⟩ (.slice (some ⟨g, 0, none⟩) l.length l.length)).cell? ⟨g, k', none⟩ = some (.int .i64 ((0 : Nat) : Int)) :=
        (World.cell?_setCell_far _ _ _ _ hgb).trans ((World.cell?_setCell_far _ _ _ _ hgb).trans hcell)
      have HK := Lib.hid hk'
      clear h0 hbx hk'
      go_wp2_with fail
      go_region
      all_goals go_wp2_with fail
      have y0 := setCell_ne (v := .slice (some ⟨g, 0, none⟩) l.length l.length) (show 1 ≠ 0 by decide) (setCell_eq (v := .slice A l.length c) f0)
      have y1 := setCell_eq (v := .slice (some ⟨g, 0, none⟩) l.length l.length) (setCell_ne (v := .slice A l.length c) (show 0 ≠ 1 by decide) f1)
      have hO3 := ((HO.out.far (i := 0) hgb (.slice A l.length c)).far (i := 1) hgb (.slice (some ⟨g, 0, none⟩) l.length l.length))
      have qW : Q w ((wr.setCell ⟨w.heap.size, 0, none⟩ (.slice A l.length c)).setCell ⟨w.heap.size, 1, none⟩ (.slice (some ⟨g, 0, none⟩) l.length l.length)) :=
        grown_q (setCell_grown _ _ _ _) (grown_q (setCell_grown _ _ _ _) (HB.out.1.trans HQ.out) (Nat.le_refl _)) (Nat.le_refl _)
      generalize (wr.setCell ⟨w.heap.size, 0, none⟩ (.slice A l.length c)).setCell ⟨w.heap.size, 1, none⟩ (.slice (some ⟨g, 0, none⟩) l.length l.length) = W2 at *
      refine bodyPost_ret (v := .tuple #[.agg #[.slice A l.length c, .slice (some ⟨g, 0, none⟩) l.length l.length], .bool true]) (by simp [results, Try.f44, go_sem, y0, y1]) rfl ?_
      exact ⟨g, rfl, hO3, hgs, qW.drew⟩

set_option maxRecDepth 100000 in
set_option maxHeartbeats 400000 in
theorem starts7_any (A : Option Addr) (n c : Nat) (l : List Tg) (x : Ex) (w : World) (hn : n = l.length) (hr : Rds w w.heap.size A (cellsG l)) (hl : l.length ≤ 1000) (hm : ∀ t ∈ l, mayN t = true) (hs : runS [] l = some [x]) :
    Calls Try.prog 27 #[.slice A n c] w fun e w' => ∃ g, e = .returned (.slice (some ⟨g, 0, none⟩) l.length l.length) ∧ OwnC w' g (cellsI (startsL l l.length)) ∧ w.heap.size ≤ g ∧ Q w w' := by
  subst hn
  have CL0 := Lib.hid (lay_any A l.length c l x w rfl hr hl hm hs)
  clear hr hm hs
  go_enter Try.func27, Try.ntmps27
  go_wp2_with fail
  refine CL0.out.mono ?_
  rintro e w1 ⟨g, rfl, hS, hg, q1⟩
  have HS := Lib.hid hS
  have HGS := Lib.hid hg
  have HQ := Lib.hid q1
  clear hS hg q1
  go_wp2_with fail
  go_ret
  exact ⟨g, rfl, HS.out.q ((Q.refl _).alloc _), HGS.out, HQ.out.alloc _⟩
end Go.Proofs.Ytmohedkhbjeapaa.Ex
