/-
  What the proofs lean on, part 16 of 25.
-/
import Derived.Test.YtdmdcggmgipdbaaGreatDoorPi
import Derived.Test.YtdmdcggmgipdbaaGreatDoorPl
import Derived.Test.YtdmdcggmgipdbaaGreatDoorPo
import Derived.RegionTactic
namespace Go.Proofs.YtdmdcggmgipdbaaGreatDoor.Ex
open Go.RowKit Kit Nm Rw

theorem own_made (w : World) (n : Nat) (t : TypeId) : OwnC (w.alloc (.cells (madeCells #[.int .i64 0] n) t)) w.heap.size (cellsI (List.replicate n 0)) := by
  refine ⟨by simp, fun i x hx => ?_⟩
  have hi : i < n := by have := (List.getElem?_eq_some_iff.1 hx).1; simpa [cellsI] using this
  have e : x = .int .i64 0 := by rw [cellsI, List.map_replicate, List.getElem?_replicate, if_pos hi] at hx; simpa using hx.symm
  subst e
  refine ⟨?_, World.frozen?_alloc_at _ _ _ _ rfl⟩
  rw [cell_of_row _ _ _ _ _ _ (heap_alloc_new w _)]
  simp [madeCells, hi, Nat.mod_one]
theorem make_ints (n : Nat) (hn : n ≤ 100000000) (u : World) : (Instr.makeSlice 24 (.int .i64 (n : Int)) (.int .i64 (n : Int))).run Tryz.prog u = .ok (.slice (some ⟨u.heap.size, 0, none⟩) n n) (u.alloc (.cells (madeCells #[.int .i64 0] n) 3)) := by
  obtain ⟨i0, hi, hz0, hz1, hz2⟩ := info_parts intInfo
  have h := run_make (P := Tryz.prog) u 24 3 i0 _ Tryz.underlying24 hi hz0 .i64 .i64 (n : Int) (n : Int) (by omega) (by omega) (by rw [hz2]; omega) (by omega)
  rw [hz1, Nat.mul_one] at h
  exact h
theorem cellsI_set (l : List Int) (k : Nat) (x : Int) : cellsI (l.set k x) = (cellsI l).set k (.int .i64 x) := by simp [cellsI]
/-- what a row of starts has, as far as it is made -/
def madeS (l : List Tg) (k : Nat) : List Int := startsL l k ++ List.replicate (l.length - k) 0
theorem madeS_len (l : List Tg) (k : Nat) (h : k ≤ l.length) : (madeS l k).length = l.length := by simp [madeS, startsL_len]; omega
theorem madeS_zero (l : List Tg) : madeS l 0 = List.replicate l.length 0 := by simp [madeS, startsL]
theorem madeS_all (l : List Tg) : madeS l l.length = startsL l l.length := by simp [madeS]
theorem madeS_at (l : List Tg) (k j : Nat) (h : j < k) (hk : k ≤ l.length) : (madeS l k)[j]'(by rw [madeS_len l k hk]; omega) = (startOf l j : Int) := by
  unfold madeS
  rw [List.getElem_append_left (by rw [startsL_len]; exact h), startsL_at l k j h]
theorem madeS_next (l : List Tg) (k : Nat) (h : k < l.length) : (madeS l k).set k (startOf l k : Int) = madeS l (k + 1) := by
  unfold madeS
  rw [startsL_next, List.set_append_right _ _ (by rw [startsL_len]; exact Nat.le_refl _), startsL_len, Nat.sub_self]
  have e : l.length - k = (l.length - (k + 1)) + 1 := by omega
  rw [e, List.replicate_succ, List.set_cons_zero, List.append_assoc]
  rfl

set_option maxRecDepth 100000 in
set_option maxHeartbeats 4000000 in
theorem lay_any (A : Option Addr) (n c : Nat) (l : List Tg) (x : Ex) (w : World) (hn : n = l.length) (hr : Rds w w.heap.size A (cellsG l)) (hl : l.length ≤ 1000) (hm : ∀ t ∈ l, mayN t = true) (hs : runS [] l = some [x]) :
    Calls Tryz.prog 70 #[.slice A n c] w fun e w' => ∃ S, e = .returned (.tuple #[.agg #[.slice A l.length c, .slice S l.length l.length], .bool true]) ∧ Rds w' w'.heap.size S (cellsI (startsL l l.length)) ∧ Q w w' := by
  subst hn
  have hpos : 0 < l.length := by
    cases l with
    | nil => injection hs with hs; cases hs
    | cons a l => simp
  have HR := Lib.hid hr
  have HM := Lib.hid hm
  have HS := Lib.hid hs
  clear hr hm hs
  have hmk := make_ints l.length (by omega)
  have d0 : decide (0 < (l.length : Int)) = true := decide_eq_true (by omega)
  have HB : Hid (Q w (w.alloc (Obj.cells #[Value.slice none 0 0, Value.slice none 0 0] 112)) ∧ w.heap.size < (w.alloc (Obj.cells #[Value.slice none 0 0, Value.slice none 0 0] 112)).heap.size ∧
      OwnC (w.alloc (Obj.cells #[Value.slice none 0 0, Value.slice none 0 0] 112)) w.heap.size [Value.slice none 0 0, Value.slice none 0 0]) :=
    ⟨(Q.refl w).alloc _, by simp, ⟨by simp, fun j v hv => ⟨by have := (src_alloc w [Value.slice none 0 0, Value.slice none 0 0] 112 (0, 0)) (by simp); obtain ⟨ad, e, h⟩ := this; injection e with e; subst e; have := h j v hv; rwa [add_zero_head] at this, World.frozen?_alloc_at _ _ _ _ rfl⟩⟩⟩
  go_enter Tryz.func70, Tryz.ntmps70
  go_upto_region 1 with fail
  generalize w.alloc (Obj.cells #[Value.slice none 0 0, Value.slice none 0 0] 112) = W0 at *
  go_wp2_with fail
  have HO := Lib.hid (own_made W0 l.length 3)
  have HQ := Lib.hid ((Q.refl W0).alloc (Obj.cells (madeCells #[Value.int IntKind.i64 0] l.length) 3))
  clear hmk
  generalize W0.alloc (Obj.cells (madeCells #[Value.int IntKind.i64 0] l.length) 3) = W1 at *
  obtain ⟨g, hg⟩ : ∃ g, g = W0.heap.size := ⟨_, rfl⟩
  rw [← hg] at HO ⊢
  have HG := Lib.hid hg
  clear hg
  go_loopw [5, 18] (fun ok i wr => ∃ k : Nat, k ≤ l.length ∧ i = .int .i64 k ∧ ok = .bool true ∧ Hid (OwnC wr g (cellsI (madeS l k))) ∧ Hid (Q W0 wr)) (fun _ i _ => l.length - (intOf i).toNat)
  case atStart => exact ⟨0, Nat.zero_le _, rfl, rfl, by rw [madeS_zero]; exact HO, HQ⟩
  case round =>
    clear HO HQ
    obtain ⟨k, hk, rfl, rfl, HO, HQ⟩ := hrel
    by_cases hlt : k < l.length
    · obtain ⟨ad, rfl, hb, c0, c1, c2⟩ := tok_at (HR.out.q (HB.out.1.trans HQ.out)) hlt
      obtain ⟨sk, hsk⟩ := run_take HS.out k
      obtain ⟨sn, hsn⟩ := run_take HS.out (k + 1)
      obtain ⟨hnp, hnx⟩ := run_next hlt hsk hsn
      have HSK := Lib.hid hsk
      have HSN : Hid (startOf l k = k + 1 - (Ex.mk l[k] (sk.take (np l[k])).reverse).size) := start_of (by rw [hsn, hnx])
      have HNX : Hid (runS [] (l.take (k + 1)) = some (.mk l[k] (sk.take (np l[k])).reverse :: sk.drop (np l[k]))) := by unfold Hid; rw [hsn, hnx]
      have hp8 := (parts_nat (HM.out l[k] (List.getElem_mem hlt))).2
      clear hsn hnx hsk
      have CP : Hid (∀ W : World, Calls Tryz.prog 87 #[.agg #[.int .i64 l[k].1, .string l[k].2.1, .int .i64 l[k].2.2]] W fun e w' => e = .returned (.int .i64 (np l[k] : Int)) ∧ Q W w') := fun W => partsOf_any l[k] (HM.out l[k] (List.getElem_mem hlt)) W
      have dp : decide ((0 : Int) ≤ (np l[k] : Int)) = true := decide_eq_true (by omega)
      go_wp2_with (go_at_call 87; refine (CP.out _).mono ?_; rintro e w3 ⟨rfl, q3⟩)
      have HO3 := Lib.hid (HO.out.q ((Q.refl wr).alloc (Obj.cells #[.int .i64 l[k].1, .string l[k].2.1, .int .i64 l[k].2.2] 67) |>.trans q3))
      have HQ3 := Lib.hid ((HQ.out.alloc (Obj.cells #[.int .i64 l[k].1, .string l[k].2.1, .int .i64 l[k].2.2] 67)).trans q3)
      clear HO HQ
      go_loopw [5, 9, 32] (fun ok2 at_ i wr2 => ∃ (j p : Nat), ok2 = .bool true ∧ j ≤ np l[k] ∧ p ≤ k ∧ i = .int .i64 j ∧ at_ = .int .i64 p ∧ Hid (runS [] (l.take p) = some (sk.drop j)) ∧ Hid (OwnC wr2 g (cellsI (madeS l k))) ∧ Hid (Q W0 wr2)) (fun _ _ i _ => np l[k] - (intOf i).toNat)
      case atStart => exact ⟨0, k, rfl, Nat.zero_le _, Nat.le_refl _, rfl, rfl, by simpa using HSK, HO3, HQ3⟩
      case round =>
        clear HO3 HQ3
        obtain ⟨j, p, rfl, hj, hpk, rfl, rfl, HP, HO3, HQ3⟩ := hrel
        by_cases hjl : j < np l[k]
        · have hd : sk.drop j = (sk[j]'(by omega)) :: sk.drop (j + 1) := List.drop_eq_getElem_cons (by omega)
          have HP2 := HP.out
          rw [hd] at HP2
          obtain ⟨hp0, hsz, hst, hnx, _⟩ := back_one (by omega) HP2
          clear HP2 hd
          obtain ⟨p', rfl⟩ : ∃ p', p = p' + 1 := ⟨p - 1, by omega⟩
          rw [Nat.add_sub_cancel] at hst
          have hcell := (HO3.out.2 p' _ (cellsI_at (show p' < (madeS l k).length by rw [madeS_len l k (by omega)]; omega))).1
          rw [madeS_at l k p' (by omega) (by omega), hst] at hcell
          have HP' : Hid (runS [] (l.take (p' + 1 - (sk[j]'(by omega)).size)) = some (sk.drop (j + 1))) := hnx
          have hq : p' + 1 - (sk[j]'(by omega)).size ≤ p' := by have := size_pos (sk[j]'(by omega)); omega
          have e1 : ((p' + 1 : Nat) : Int) - 1 = (p' : Int) := by omega
          have e0 : (((p' + 1 : Nat) : Int) == 0) = false := beq_eq_false_iff_ne.2 (by omega)
          generalize p' + 1 - (sk[j]'(by omega)).size = q at *
          clear hst hnx HP hsz hp0
          go_wp2_with fail
          go_roundw
          case rel => exact ⟨j + 1, q, rfl, by omega, by omega, by go_num, rfl, HP', HO3, HQ3⟩
          case measure => simp [intOf]; omega
        · have hpe : p = startOf l k := by
            obtain rfl : j = np l[k] := by omega
            have hl1 : (l.take (k + 1)).length = k + 1 := by rw [List.length_take]; omega
            obtain ⟨_, h2, h3, _⟩ := run_pop HNX.out
            rw [hl1] at h2 h3
            rw [List.take_take, Nat.min_eq_left (by omega)] at h3
            have e1 := (run_nodes HP.out).2
            have e2 := (run_nodes h3).2
            rw [e1] at e2
            have e3 := congrArg List.length e2
            rw [List.length_take, List.length_take] at e3
            rw [HSN.out]
            omega
          subst hpe
          have HO2 := Lib.hid (madeS_next l k hlt)
          have hkl : k < (cellsI (madeS l k)).length := by rw [cellsI_len, madeS_len l k hk]; exact hlt
          generalize hx : startOf l k = x at *
          have HSt := Lib.hid (HO3.out.set hkl (.int .i64 (x : Int)))
          have hc := HO3.out.2 k _ (List.getElem?_eq_getElem hkl)
          have hc1 := hc.1
          have hc2 := hc.2
          have HQ2 : Hid (Q W0 (wr.setCell ⟨g, k, none⟩ (.int .i64 (x : Int)))) := grown_q (setCell_grown _ _ _ _) HQ3.out (by rw [HG.out]; exact Nat.le_refl _)
          rw [← cellsI_set, HO2.out] at HSt
          clear HSN HP hx hc HO2
          go_wp2_with fail
          go_roundw
          case rel => exact ⟨k + 1, by omega, by go_num, rfl, HSt, HQ2⟩
          case measure => simp [intOf]; omega
    · obtain rfl : k = l.length := by omega
      rw [madeS_all] at HO
      obtain ⟨k', hk'⟩ : ∃ k', l.length = k' + 1 := ⟨l.length - 1, by omega⟩
      have h0 : startOf l k' = 0 := by
        have e : l.take (k' + 1) = l := by rw [← hk', List.take_length]
        have hs := HS.out
        rw [← e] at hs
        rw [start_of hs]
        have h2 := (run_nodes HS.out).2
        simp only [List.reverse_cons, List.reverse_nil, List.nil_append, nodesL, List.append_nil] at h2
        have : x.size = l.length := by unfold Ex.size; rw [h2]
        omega
      have hcell := (HO.out.2 k' _ (cellsI_at (show k' < (startsL l l.length).length by rw [startsL_len]; omega))).1
      rw [startsL_at l _ k' (by omega), h0] at hcell
      have e1 : ((l.length : Nat) : Int) - 1 = (k' : Int) := by omega
      have hbx := HB.out.2.2.q HQ.out
      have f0 := (hbx.2 0 _ rfl).1
      have f1 := (hbx.2 1 _ rfl).1
      have g0 := (hbx.2 0 _ rfl).2
      have g1 := (hbx.2 1 _ rfl).2
      have hgb : w.heap.size ≠ g := by have := HB.out.2.1; rw [HG.out]; omega
      have hcell' : ((wr.setCell ⟨w.heap.size, 0, none⟩ (.slice A l.length c)).setCell ⟨w.heap.size, 1, none⟩ (.slice (some ⟨g, 0, none⟩) l.length l.length)).cell? ⟨g, k', none⟩ = some (.int .i64 ((0 : Nat) : Int)) :=
        (World.cell?_setCell_far _ _ _ _ hgb).trans ((World.cell?_setCell_far _ _ _ _ hgb).trans hcell)
      have HK := Lib.hid hk'
      clear h0 hbx hk'
      go_wp2_with fail
      go_region
      all_goals go_wp2_with fail
      have y0 := setCell_ne (v := .slice (some ⟨g, 0, none⟩) l.length l.length) (show 1 ≠ 0 by decide) (setCell_eq (v := .slice A l.length c) f0)
      have y1 := setCell_eq (v := .slice (some ⟨g, 0, none⟩) l.length l.length) (setCell_ne (v := .slice A l.length c) (show 0 ≠ 1 by decide) f1)
      have hO3 := ((HO.out.far (i := 0) hgb (.slice A l.length c)).far (i := 1) hgb (.slice (some ⟨g, 0, none⟩) l.length l.length)).rds
      have qW : Q w ((wr.setCell ⟨w.heap.size, 0, none⟩ (.slice A l.length c)).setCell ⟨w.heap.size, 1, none⟩ (.slice (some ⟨g, 0, none⟩) l.length l.length)) :=
        grown_q (setCell_grown _ _ _ _) (grown_q (setCell_grown _ _ _ _) (HB.out.1.trans HQ.out) (Nat.le_refl _)) (Nat.le_refl _)
      generalize (wr.setCell ⟨w.heap.size, 0, none⟩ (.slice A l.length c)).setCell ⟨w.heap.size, 1, none⟩ (.slice (some ⟨g, 0, none⟩) l.length l.length) = W2 at *
      refine bodyPost_ret (v := .tuple #[.agg #[.slice A l.length c, .slice (some ⟨g, 0, none⟩) l.length l.length], .bool true]) (by simp [results, Tryz.f70, go_sem, y0, y1]) rfl ?_
      exact ⟨_, rfl, hO3, qW.drew⟩
end Go.Proofs.YtdmdcggmgipdbaaGreatDoor.Ex

namespace Go.Proofs.YtdmdcggmgipdbaaGreatDoor.Ex
open Go.RowKit Kit Nm Rw

/-- the row of places as it is filled from its end on -/
def partR (m : Nat) (B : List Nat) : List Int := List.replicate m 0 ++ B.reverse.map fun n : Nat => (n : Int)
theorem partR_len (m : Nat) (B : List Nat) : (partR m B).length = m + B.length := by simp [partR]
theorem partR_set (m : Nat) (B : List Nat) (x : Nat) : (partR (m + 1) B).set m (x : Int) = partR m (B ++ [x]) := by
  unfold partR
  rw [List.set_append_left _ _ (by simp), List.replicate_succ', List.set_append_right _ _ (by simp)]
  simp
theorem partR_zero (B : List Nat) : cellsI (partR 0 B) = cellsN B.reverse := by simp [partR, cellsN]
theorem partR_start (m : Nat) : partR m [] = List.replicate m 0 := by simp [partR]
/-- the last part, and it alone, ends right ahead of its node -/
def NearB (a : Nat) (B : List Nat) : Prop := ∀ i (h : i < B.length), B[i] + 1 = a ↔ i = 0
def NearK (a : Nat) (K : List Nat) : Prop := ∀ i (h : i < K.length), K[i] + 1 = a ↔ i + 1 = K.length
theorem NearB.rev {a : Nat} {B : List Nat} (h : NearB a B) : NearK a B.reverse := fun i hi => by
  rw [List.getElem_reverse, h _ (by simp at hi; omega)]
  simp at hi ⊢
  omega
theorem NearB.snoc {a : Nat} {B : List Nat} (h : NearB a B) {x : Nat} (hx : x + 1 = a ↔ B.length = 0) : NearB a (B ++ [x]) := fun i hi => by
  by_cases hb : i < B.length
  · rw [List.getElem_append_left hb]; exact h i hb
  · have : i = B.length := by simp at hi; omega
    subst this
    simp [hx]

set_option maxRecDepth 100000 in
set_option maxHeartbeats 4000000 in
theorem parts7_any (A S : Option Addr) (n c m d : Nat) (l : List Tg) (st : List Ex) (a : Nat) (sk : List Ex) (w : World) (hn : n = l.length) (hm : m = l.length) (hr : Rds w w.heap.size A (cellsG l)) (hS : Rds w w.heap.size S (cellsI (startsL l l.length)))
    (hl : l.length ≤ 1000) (hmay : ∀ t ∈ l, mayN t = true) (hs : runS [] l = some st) (ha : a < l.length) (hsk : runS [] (l.take a) = some sk) :
    Calls Tryz.prog 72 #[.agg #[.slice A n c, .slice S m d], .int .i64 (a : Int)] w fun e w' => ∃ B K, e = .returned (.slice (some ⟨B, 0, none⟩) (np l[a]) (np l[a])) ∧ w.heap.size ≤ B ∧ OwnC w' B (cellsN K) ∧ Ends l a (sk.take (np l[a])).reverse K ∧ NearK a K ∧ Q w w' := by
  subst hn hm
  have HR := Lib.hid hr
  have HSR := Lib.hid hS
  have hp8 := (parts_nat (hmay l[a] (List.getElem_mem ha))).2
  obtain ⟨sn, hsn⟩ := run_take hs (a + 1)
  obtain ⟨hnp, _⟩ := run_next ha hsk hsn
  have HSK := Lib.hid hsk
  have CP : Hid (∀ W : World, Calls Tryz.prog 87 #[.agg #[.int .i64 l[a].1, .string l[a].2.1, .int .i64 l[a].2.2]] W fun e w' => e = .returned (.int .i64 (np l[a] : Int)) ∧ Q W w') := fun W => partsOf_any l[a] (hmay l[a] (List.getElem_mem ha)) W
  have hmk := make_ints (np l[a]) (by omega)
  have HA := Lib.hid ((Q.refl w).alloc (Obj.cells #[Value.slice A l.length c, Value.slice S l.length d] 112))
  have hbx : OwnC (w.alloc (Obj.cells #[Value.slice A l.length c, Value.slice S l.length d] 112)) w.heap.size [Value.slice A l.length c, Value.slice S l.length d] :=
    ⟨by simp, fun j v hv => ⟨by have := (src_alloc w [Value.slice A l.length c, Value.slice S l.length d] 112 (0, 0)) (by simp); obtain ⟨ad, e, h⟩ := this; injection e with e; subst e; have := h j v hv; rwa [add_zero_head] at this, World.frozen?_alloc_at _ _ _ _ rfl⟩⟩
  have HBX := Lib.hid hbx
  clear hr hS hmay hs hsk hsn hbx
  go_enter Tryz.func72, Tryz.ntmps72
  go_upto_region 1 with fail
  generalize w.alloc (Obj.cells #[Value.slice A l.length c, Value.slice S l.length d] 112) = W0 at *
  have HR1 := Lib.hid (HR.out.q HA.out)
  obtain ⟨ad, rfl, hb, c0, c1, c2⟩ := tok_at HR1.out ha
  have b0 := (HBX.out.2 0 _ rfl).1
  have b1 := (HBX.out.2 1 _ rfl).1
  go_wp2_with (go_at_call 87; refine (CP.out _).mono ?_; rintro e w1 ⟨rfl, q1⟩; have HQ1 := Lib.hid q1; clear q1)
  have HO := Lib.hid (own_made w1 (np l[a]) 3)
  have HQ := Lib.hid (HQ1.out.alloc (Obj.cells (madeCells #[Value.int IntKind.i64 0] (np l[a])) 3))
  obtain ⟨g, hg⟩ : ∃ g, g = w1.heap.size := ⟨_, rfl⟩
  rw [← hg] at HO ⊢
  have HG : Hid (W0.heap.size ≤ g) := by rw [hg]; exact HQ1.out.size
  clear hg hmk CP HQ1
  generalize w1.alloc (Obj.cells (madeCells #[Value.int IntKind.i64 0] (np l[a])) 3) = W1 at *
  clear b0 b1 c0 c1 c2 hb
  generalize hN : np l[a] = N at *
  go_loopw [6, 18] (fun bh i wr => ∃ (j m p : Nat) (B : List Nat), j + m = N ∧ p ≤ a ∧ i = .int .i64 j ∧ bh = .int .i64 p ∧ (p = a ↔ j = 0) ∧ Hid (runS [] (l.take p) = some (sk.drop j)) ∧ Hid (Ends l a (sk.take j) B) ∧ Hid (NearB a B) ∧ Hid (OwnC wr g (cellsI (partR m B))) ∧ Hid (Q W0 wr)) (fun _ i _ => N - (intOf i).toNat)
  case atStart => exact ⟨0, N, a, [], by omega, Nat.le_refl _, rfl, rfl, by simp, by simpa using HSK, Lib.hid (Ends.nil l a), Lib.hid (fun i h => absurd h (by simp)), by rw [partR_start]; exact HO, HQ⟩
  case round =>
    clear HO HQ
    obtain ⟨j, m, p, B, hj, hpa, rfl, rfl, hpz, HP, HE, HN, HO, HQ⟩ := hrel
    have b0 := (HQ.out.cell (p := ⟨w.heap.size, 0, none⟩) HBX.out.1).trans (HBX.out.2 0 _ rfl).1
    have b1 := (HQ.out.cell (p := ⟨w.heap.size, 1, none⟩) HBX.out.1).trans (HBX.out.2 1 _ rfl).1
    by_cases hjl : j < N
    · obtain ⟨m, rfl⟩ : ∃ m', m = m' + 1 := ⟨m - 1, by omega⟩
      have hd : sk.drop j = (sk[j]'(by omega)) :: sk.drop (j + 1) := List.drop_eq_getElem_cons (by omega)
      have HP2 := HP.out
      rw [hd] at HP2
      obtain ⟨hp0, hsz, hst, hnx, htr⟩ := back_one (by omega) HP2
      have hsz0 := size_pos (sk[j]'(by omega))
      clear HP2 hd
      obtain ⟨p', rfl⟩ : ∃ p', p = p' + 1 := ⟨p - 1, by omega⟩
      rw [Nat.add_sub_cancel] at hst htr
      have hBl : B.length = j := by rw [HE.out.len, List.length_take]; omega
      have HE' : Hid (Ends l a (sk.take (j + 1)) (B ++ [p'])) := by
        unfold Hid
        rw [List.take_succ_eq_append_getElem (by omega)]
        exact HE.out.snoc (by omega) htr
      have HN' : Hid (NearB a (B ++ [p'])) := HN.out.snoc (by rw [hBl]; exact hpz)
      obtain ⟨sd, hsd, hbs, hcell⟩ := int_at (HSR.out.q (HA.out.trans HQ.out)) (k := p') (by rw [startsL_len]; omega)
      subst hsd
      rw [startsL_at l _ p' (by omega), hst] at hcell
      have HP' : Hid (runS [] (l.take (p' + 1 - (sk[j]'(by omega)).size)) = some (sk.drop (j + 1))) := hnx
      have hml : m < (cellsI (partR (m + 1) B)).length := by rw [cellsI_len, partR_len]; omega
      have HSt := Lib.hid (HO.out.set hml (.int .i64 (p' : Int)))
      rw [← cellsI_set, partR_set] at HSt
      have hc := HO.out.2 m _ (List.getElem?_eq_getElem hml)
      have hc1 := hc.1
      have hc2 := hc.2
      have HQ2 : Hid (Q W0 (wr.setCell ⟨g, m, none⟩ (.int .i64 (p' : Int)))) := grown_q (setCell_grown _ _ _ _) HQ.out HG.out
      have b1' := (World.cell?_setCell_far wr ⟨g, m, none⟩ ⟨w.heap.size, 1, none⟩ (.int .i64 (p' : Int)) (by have := HBX.out.1; have := HG.out; show g ≠ w.heap.size; omega)).trans b1
      have e1 : ((p' + 1 : Nat) : Int) - 1 = (p' : Int) := by omega
      have e2 : ((N : Nat) : Int) - 1 - (j : Int) = (m : Int) := by omega
      have hqa : p' + 1 - (sk[j]'(by omega)).size ≤ p' := by omega
      generalize p' + 1 - (sk[j]'(by omega)).size = q at *
      have hcell' : (wr.setCell ⟨g, m, none⟩ (.int .i64 (p' : Int))).cell? (sd.add p') = some (.int .i64 (q : Int)) := by
        obtain ⟨sd', e', _, hcell5⟩ := int_at (HSR.out.q (HA.out.trans HQ2.out)) (k := p') (by rw [startsL_len]; omega)
        injection e' with e'
        subst e'
        rwa [startsL_at l _ p' (by omega), hst] at hcell5
      have hpl : p' < l.length := by omega
      have hpz' : q = a ↔ j + 1 = 0 := by omega
      clear hst hnx HP hsz hp0 htr hsz0 hc hpz
      go_wp2_with fail
      go_roundw
      case rel => exact ⟨j + 1, m, q, B ++ [p'], by omega, by omega, by go_num, rfl, hpz', HP', HE', HN', HSt, HQ2⟩
      case measure => simp [intOf]; omega
    · obtain rfl : j = N := by omega
      obtain rfl : m = 0 := by omega
      have HR2 := HO
      rw [partR_zero] at HR2
      have hgw : w.heap.size ≤ g := Nat.le_trans HA.out.size HG.out
      clear HP
      go_wp2_with fail
      go_ret
      exact ⟨_, B.reverse, by rw [hN]; rfl, hgw, HR2.out, by rw [hN]; exact HE.out.rev, HN.out.rev, HA.out.trans HQ.out⟩

end Go.Proofs.YtdmdcggmgipdbaaGreatDoor.Ex

namespace Go.Proofs.YtdmdcggmgipdbaaGreatDoor.Ex
open Go.RowKit Kit Nm Rw

mutual
def Ex.deep : Ex → Nat
  | .mk n ks => deepL n.1 ks
def deepL (k : Int) : List Ex → Nat
  | [] => 0
  | e :: r => max (e.deep + (if inBr k e.root.1 r.isEmpty = true then 1 else 0)) (deepL k r)
end
def deepAt (l : List Tg) (j : Nat) : Nat := match treeAt l j with
  | some c => c.deep
  | none => 0
theorem deep_of {l : List Tg} {j : Nat} {c : Ex} (h : treeAt l j = some c) : deepAt l j = c.deep := by unfold deepAt; rw [h]
def upto (f : Nat → Nat) (n k : Nat) : List Int := ((List.range k).map fun j => (f j : Int)) ++ List.replicate (n - k) 0
theorem upto_len (f : Nat → Nat) (n k : Nat) (h : k ≤ n) : (upto f n k).length = n := by simp [upto]; omega
theorem upto_zero (f : Nat → Nat) (n : Nat) : upto f n 0 = List.replicate n 0 := by simp [upto]
theorem upto_at (f : Nat → Nat) (n k j : Nat) (h : j < k) : (upto f n k)[j]? = some (f j : Int) := by
  unfold upto
  rw [List.getElem?_append_left (by simpa using h)]
  simp [h]
theorem upto_here (f : Nat → Nat) (n k : Nat) (h : k < n) : (upto f n k)[k]? = some 0 := by
  unfold upto
  rw [List.getElem?_append_right (by simp), List.length_map, List.length_range, Nat.sub_self, List.getElem?_replicate, if_pos (by omega)]
theorem upto_next (f : Nat → Nat) (n k : Nat) (h : k < n) : (upto f n k).set k (f k : Int) = upto f n (k + 1) := by
  unfold upto
  rw [List.range_succ, List.set_append_right _ _ (by simp)]
  have e : n - k = (n - (k + 1)) + 1 := by omega
  rw [e, List.replicate_succ]
  simp
theorem deepL_at (k : Int) (ks : List Ex) (i : Nat) (h : i < ks.length) : deepL k (ks.drop i) = max (ks[i].deep + (if inBr k ks[i].root.1 (decide (i + 1 = ks.length)) = true then 1 else 0)) (deepL k (ks.drop (i + 1))) := by
  rw [List.drop_eq_getElem_cons h]
  have e : (ks.drop (i + 1)).isEmpty = decide (i + 1 = ks.length) := by
    rw [Bool.eq_iff_iff, List.isEmpty_iff, List.drop_eq_nil_iff, decide_eq_true_eq]
    omega
  simp only [deepL, e]
theorem deepL_end (k : Int) (ks : List Ex) (i : Nat) (h : ks.length ≤ i) : deepL k (ks.drop i) = 0 := by
  rw [List.drop_eq_nil_of_le h]; rfl
mutual
theorem deep_le : ∀ e : Ex, e.deep ≤ e.size
  | .mk n ks => by
    have := deepL_le n.1 ks
    simp only [Ex.deep, Ex.size, Ex.nodes, List.length_append, List.length_cons, List.length_nil]
    omega
theorem deepL_le : ∀ (k : Int) (ks : List Ex), deepL k ks ≤ (nodesL ks).length + 1
  | _, [] => by simp [deepL]
  | k, e :: r => by
    have h1 := deep_le e
    have h2 := deepL_le k r
    have h3 := size_pos e
    simp only [deepL, nodesL, List.length_append]
    unfold Ex.size at h1 h3
    split <;> omega
end
theorem tree_size_le {l : List Tg} {j : Nat} {c : Ex} (h : treeAt l j = some c) (hj : j < l.length) : c.size ≤ l.length := by
  unfold treeAt at h
  cases hr : runS [] (l.take (j + 1)) with
  | none => rw [hr] at h; cases h
  | some st =>
    rw [hr] at h
    cases st with
    | nil => cases h
    | cons a st =>
      injection h with h
      subst h
      have := (run_pop hr).2.1
      rw [List.length_take] at this
      omega
theorem own_new (w : World) (cs : List Value) (t : TypeId) : OwnC (w.alloc (.cells cs.toArray t)) w.heap.size cs :=
  ⟨by simp, fun j v hv => ⟨by have := (src_alloc w cs t (0, 0)) (by have := (List.getElem?_eq_some_iff.1 hv).1; omega); obtain ⟨ad, e, h⟩ := this; injection e with e; subst e; have := h j v hv; rwa [add_zero_head] at this, World.frozen?_alloc_at _ _ _ _ rfl⟩⟩
theorem cellsI_at' {l : List Int} {k : Nat} {x : Int} (h : l[k]? = some x) : (cellsI l)[k]? = some (.int .i64 x) := by simp [cellsI, h]

set_option maxRecDepth 100000 in
set_option maxHeartbeats 8000000 in
theorem rightP_any (A : Option Addr) (n c : Nat) (l : List Tg) (x : Ex) (w : World) (hn : n = l.length) (hr : Rds w w.heap.size A (cellsG l)) (hl : l.length ≤ 1000) (hm : ∀ t ∈ l, mayN t = true) (hs : runS [] l = some [x]) :
    Calls Tryz.prog 37 #[.slice A n c] w fun e w' => e = .returned (.bool (decide (x.deep ≤ 40))) ∧ Q w w' := by
  subst hn
  have hpos : 0 < l.length := by
    cases l with
    | nil => injection hs with hs; cases hs
    | cons a l => simp
  have CL := Lib.hid (lay_any A l.length c l x w rfl hr hl hm hs)
  have HR := Lib.hid hr
  have HM := Lib.hid hm
  have HS := Lib.hid hs
  clear hr hm hs
  have hmk := make_ints l.length (by omega)
  go_enter Tryz.func37, Tryz.ntmps37
  go_wp2_with fail
  refine CL.out.mono ?_
  rintro e w1 ⟨S, rfl, hS, q1⟩
  have HST := Lib.hid hS
  have HQ1 := Lib.hid q1
  clear hS q1 CL
  go_wp2_with fail
  have HB := Lib.hid (own_new w1 [Value.slice A l.length c, Value.slice S l.length l.length] 112)
  have HA := Lib.hid ((Q.refl w1).alloc (Obj.cells #[Value.slice A l.length c, Value.slice S l.length l.length] 112))
  change Hid (OwnC (w1.alloc (Obj.cells #[Value.slice A l.length c, Value.slice S l.length l.length] 112)) w1.heap.size [Value.slice A l.length c, Value.slice S l.length l.length]) at HB
  have hsz : w1.heap.size + 1 = (w1.alloc (Obj.cells #[Value.slice A l.length c, Value.slice S l.length l.length] 112)).heap.size := by simp
  rw [hsz]
  generalize w1.alloc (Obj.cells #[Value.slice A l.length c, Value.slice S l.length l.length] 112) = W0 at *
  have HO := Lib.hid (own_made W0 l.length 3)
  have HQ := Lib.hid ((Q.refl W0).alloc (Obj.cells (madeCells #[Value.int IntKind.i64 0] l.length) 3))
  obtain ⟨g, hg⟩ : ∃ g, g = W0.heap.size := ⟨_, rfl⟩
  rw [← hg] at HO ⊢
  have HG : Hid (W0.heap.size ≤ g) := by rw [hg]; exact Nat.le_refl _
  have hgl : g < (W0.alloc (Obj.cells (madeCells #[Value.int IntKind.i64 0] l.length) 3)).heap.size := HO.out.1
  have HGL : Hid (w1.heap.size < g) := by rw [hg, ← hsz]; exact Nat.lt_succ_self _
  clear hg hmk hgl hsz
  generalize W0.alloc (Obj.cells (madeCells #[Value.int IntKind.i64 0] l.length) 3) = W1 at *
  have CY := Lib.hid (fun (k : Nat) (hk : k < l.length) (W : World) => mayStand_any l[k] (HM.out _ (List.getElem_mem hk)) W)
  go_loopw [23] (fun i wr => ∃ k : Nat, k ≤ l.length ∧ i = .int .i64 k ∧ Hid (OwnC wr g (cellsI (upto (deepAt l) l.length k))) ∧ Hid (Q W0 wr)) (fun i _ => l.length - (intOf i).toNat)
  case atStart => exact ⟨0, Nat.zero_le _, rfl, by rw [upto_zero]; exact HO, HQ⟩
  case round =>
    clear HO HQ
    obtain ⟨k, hk, rfl, HO, HQ⟩ := hrel
    have HQW : Hid (∀ W : World, Q W0 W → Q w W) := fun W q => HQ1.out.trans (HA.out.trans q)
    by_cases hlt : k < l.length
    · obtain ⟨ad, rfl, hb, c0, c1, c2⟩ := tok_at (HR.out.q (HQW.out _ HQ.out)) hlt
      obtain ⟨sk, hsk⟩ := run_take HS.out k
      obtain ⟨htr, hnp⟩ := tree_at HS.out hlt hsk
      have HDK := Lib.hid (deep_of htr)
      have CP := Lib.hid (fun (W : World) (q : Q W0 W) => parts7_any (some ad) S l.length c l.length l.length l [x] k sk W rfl rfl (HR.out.q (HQW.out _ q)) (HST.out.q (HA.out.trans q)) hl HM.out HS.out hlt hsk)
      have CI := Lib.hid (fun (W : World) (q : Q W0 W) (e : Nat) (he : e < l.length) => isIn_any (some ad) S l.length c l.length l.length l k e W rfl (HR.out.q (HQW.out _ q)) hlt he (by omega))
      have CY1 : Hid (∀ W : World, Calls Tryz.prog 71 #[.agg #[.int .i64 l[k].1, .string l[k].2.1, .int .i64 l[k].2.2]] W fun e w' => e = .returned (.bool true) ∧ Q W w') := CY.out k hlt
      have HBQ : Hid (∀ W : World, Q W0 W → W.cell? ⟨w1.heap.size, 0, none⟩ = some (Value.slice (some ad) l.length c) ∧ W.cell? ⟨w1.heap.size, 1, none⟩ = some (Value.slice S l.length l.length)) := fun W q => ⟨(q.cell (p := ⟨w1.heap.size, 0, none⟩) HB.out.1).trans (HB.out.2 0 _ rfl).1, (q.cell (p := ⟨w1.heap.size, 1, none⟩) HB.out.1).trans (HB.out.2 1 _ rfl).1⟩
      clear htr hb hsk
      go_wp2_with (first
        | (go_at_call 71; refine (CY1.out _).mono ?_; rintro e w2 ⟨rfl, q2⟩; have HQ2 := Lib.hid (((HQ.out.alloc (Obj.cells #[.int .i64 l[k].1, .string l[k].2.1, .int .i64 l[k].2.2] 67)).trans q2)); have HO2 := Lib.hid (HO.out.q (((Q.refl wr).alloc (Obj.cells #[.int .i64 l[k].1, .string l[k].2.1, .int .i64 l[k].2.2] 67)).trans q2)); clear q2; obtain ⟨b0, b1⟩ := HBQ.out _ HQ2.out)
        | (go_at_call 72; refine (CP.out _ HQ2.out).mono ?_; rintro e w3 ⟨B, K, rfl, hB, hK, hE, hN, q3⟩))
      -- the parts, one by one
      have HQ3 := Lib.hid (HQ2.out.trans q3)
      have HO3 := Lib.hid (HO2.out.q q3)
      have hBg : g ≠ B := by have := HO2.out.1; omega
      have HK := Lib.hid hK
      have HE := Lib.hid hE
      have HN := Lib.hid hN
      have hfew := (parts_nat (HM.out l[k] (List.getElem_mem hlt))).2
      have HDL : Hid (deepAt l k = deepL l[k].1 (sk.take (np l[k])).reverse) := HDK.out
      have hkn : (sk.take (np l[k])).reverse.length = np l[k] := by simp; omega
      clear hK hE hN q3 hB HDK HO2 HQ2 HO HQ CP CY CY1 b0 b1 c0 c1 c2
      generalize (sk.take (np l[k])).reverse = ks at *
      generalize hnk : np l[k] = N at *
      generalize hkk : l[k].1 = nk at *
      clear hnk hkk hnp
      go_loopw [35] (fun ix wr => ∃ (i cur : Nat), i ≤ N ∧ ix = .int .i64 i ∧ Hid (max cur (deepL nk (ks.drop i)) = deepAt l k) ∧ Hid (OwnC wr g (cellsI ((upto (deepAt l) l.length k).set k (cur : Int)))) ∧ Hid (OwnC wr B (cellsN K)) ∧ Hid (Q W0 wr)) (fun ix _ => N - (intOf ix).toNat)
      case atStart => exact ⟨0, 0, Nat.zero_le _, rfl, by unfold Hid; rw [HDL.out]; simp, by
        have e : (upto (deepAt l) l.length k).set k ((0 : Nat) : Int) = upto (deepAt l) l.length k := by
          refine List.ext_getElem? fun j => ?_
          rw [List.getElem?_set]
          split
          · rename_i hj; subst hj; rw [if_pos (by rw [upto_len _ _ _ hk]; exact hlt), upto_here _ _ _ hlt]; rfl
          · rfl
        rw [e]; exact HO3, HK, HQ3⟩
      case round =>
        clear HO3 HK HQ3
        obtain ⟨i, cur, hi, rfl, HD, HO3, HK, HQ3⟩ := hrel
        have hkl3 : k < (cellsI ((upto (deepAt l) l.length k).set k (cur : Int))).length := by rw [cellsI_len, List.length_set, upto_len _ _ _ hk]; exact hlt
        by_cases hil : i < N
        · have hiK : i < K.length := by rw [HE.out.len, hkn]; exact hil
          have hik : i < ks.length := by rw [hkn]; exact hil
          obtain ⟨he1, he2⟩ := HE.out.each i hiK hik
          have hel : K[i] < l.length := by omega
          have hroot := root_of HS.out hel he2
          have hdeep := deep_of he2
          have hnear := HN.out i hiK
          have HL := Lib.hid (deepL_at nk ks i hik)
          have CI1 := Lib.hid (fun (W : World) (q : Q W0 W) => CI.out W q K[i] hel)
          have hgt1 : ((upto (deepAt l) l.length k).set k (cur : Int))[K[i]]? = some (deepAt l K[i] : Int) := by rw [List.getElem?_set_ne (by omega), upto_at _ _ _ _ he1]
          have hgt2 : ((upto (deepAt l) l.length k).set k (cur : Int))[k]? = some (cur : Int) := by rw [List.getElem?_set_self (by rw [upto_len _ _ _ hk]; exact hlt)]
          have hc := (HO3.out.2 K[i] _ (cellsI_at' hgt1)).1
          have hcp := (HK.out.2 i _ (cellsN_at hiK)).1
          rw [hdeep] at hc hgt1
          have eb : decide (K[i] + 1 = k) = decide (i + 1 = ks.length) := by
            rw [Bool.eq_iff_iff, decide_eq_true_eq, decide_eq_true_eq, hnear, HE.out.len]
          have HI : Hid (∀ W : World, Q W0 W → Calls Tryz.prog 73 #[.agg #[.slice (some ad) l.length c, .slice S l.length l.length], .int .i64 (k : Int), .int .i64 (K[i] : Int)] W fun e w' => e = .returned (.bool (inBr nk ks[i].root.1 (decide (i + 1 = ks.length)))) ∧ Q W w') := fun W q => by
            have := CI1.out W q
            rw [eb, ← hroot] at this
            exact this
          have hD0 := Nat.le_trans (deep_le ks[i]) (tree_size_le he2 hel)
          clear eb hroot hdeep hnear CI1 he2
          generalize inBr nk ks[i].root.1 (decide (i + 1 = ks.length)) = b at *
          generalize ks[i].deep = D at *
          generalize K[i] = e at *
          have hec := Lib.hid (cellsI_at' hgt1)
          have hkc := Lib.hid (cellsI_at' hgt2)
          obtain ⟨b0, b1⟩ := HBQ.out _ HQ3.out
          cases b
          · by_cases hcmp : cur < D
            · have HD' : Hid (max (D) (deepL nk (ks.drop (i + 1))) = deepAt l k) := by
                unfold Hid
                rw [← HD.out, HL.out, if_neg (by decide)]
                omega
              have d0 : (D : Int) > (cur : Int) := by omega
              clear HD HL hcmp
              go_wp2_with (go_at_call 73; refine (HI.out _ HQ3.out).mono ?_; rintro e w4 ⟨rfl, q4⟩; have HQ4 := Lib.hid (HQ3.out.trans q4); have HO4 := Lib.hid (HO3.out.q q4); have HK4 := Lib.hid (HK.out.q q4); have hx := HO4.out.2 k _ hkc.out; have hx1 := hx.1; have hx2 := hx.2; have hcd := (HO4.out.2 e _ hec.out).1; clear hx q4; have HSt := Lib.hid (HO4.out.set (s := k) hkl3 (.int .i64 (((D) : Nat) : Int))); rw [← cellsI_set, List.set_set] at HSt; have HQ5 : Hid (Q W0 (w4.setCell ⟨g, k, none⟩ (.int .i64 (((D) : Nat) : Int)))) := grown_q (setCell_grown _ _ _ _) HQ4.out HG.out; have HK5 := Lib.hid (HK4.out.far (i := k) hBg (.int .i64 (((D) : Nat) : Int))))
              go_roundw
              case rel => exact ⟨i + 1, (D), by omega, by go_num, HD', HSt, HK5, HQ5⟩
              case measure => simp [intOf]; omega
            · have HD' : Hid (max cur (deepL nk (ks.drop (i + 1))) = deepAt l k) := by
                unfold Hid
                rw [← HD.out, HL.out, if_neg (by decide)]
                omega
              have d0 : ¬ ((D : Int) > (cur : Int)) := by omega
              clear HD HL hcmp
              go_wp2_with (go_at_call 73; refine (HI.out _ HQ3.out).mono ?_; rintro e w4 ⟨rfl, q4⟩; have HQ4 := Lib.hid (HQ3.out.trans q4); have HO4 := Lib.hid (HO3.out.q q4); have HK4 := Lib.hid (HK.out.q q4); have hx := HO4.out.2 k _ hkc.out; have hx1 := hx.1; have hx2 := hx.2; have hcd := (HO4.out.2 e _ hec.out).1; clear hx q4; have HSt := Lib.hid (HO4.out.set (s := k) hkl3 (.int .i64 ((cur : Nat) : Int))); rw [← cellsI_set, List.set_set] at HSt; have HQ5 : Hid (Q W0 (w4.setCell ⟨g, k, none⟩ (.int .i64 ((cur : Nat) : Int)))) := grown_q (setCell_grown _ _ _ _) HQ4.out HG.out; have HK5 := Lib.hid (HK4.out.far (i := k) hBg (.int .i64 ((cur : Nat) : Int))))
              go_roundw
              case rel => exact ⟨i + 1, cur, by omega, by go_num, HD', HSt, HK5, HQ5⟩
              case measure => simp [intOf]; omega
          · by_cases hcmp : cur < D + 1
            · have HD' : Hid (max (D + 1) (deepL nk (ks.drop (i + 1))) = deepAt l k) := by
                unfold Hid
                rw [← HD.out, HL.out, if_pos rfl]
                omega
              have d0 : (D : Int) + 1 > (cur : Int) := by omega
              clear HD HL hcmp
              go_wp2_with (go_at_call 73; refine (HI.out _ HQ3.out).mono ?_; rintro e w4 ⟨rfl, q4⟩; have HQ4 := Lib.hid (HQ3.out.trans q4); have HO4 := Lib.hid (HO3.out.q q4); have HK4 := Lib.hid (HK.out.q q4); have hx := HO4.out.2 k _ hkc.out; have hx1 := hx.1; have hx2 := hx.2; have hcd := (HO4.out.2 e _ hec.out).1; clear hx q4; have HSt := Lib.hid (HO4.out.set (s := k) hkl3 (.int .i64 (((D + 1) : Nat) : Int))); rw [← cellsI_set, List.set_set] at HSt; have HQ5 : Hid (Q W0 (w4.setCell ⟨g, k, none⟩ (.int .i64 (((D + 1) : Nat) : Int)))) := grown_q (setCell_grown _ _ _ _) HQ4.out HG.out; have HK5 := Lib.hid (HK4.out.far (i := k) hBg (.int .i64 (((D + 1) : Nat) : Int))))
              go_roundw
              case rel => exact ⟨i + 1, (D + 1), by omega, by go_num, HD', HSt, HK5, HQ5⟩
              case measure => simp [intOf]; omega
            · have HD' : Hid (max cur (deepL nk (ks.drop (i + 1))) = deepAt l k) := by
                unfold Hid
                rw [← HD.out, HL.out, if_pos rfl]
                omega
              have d0 : ¬ ((D : Int) + 1 > (cur : Int)) := by omega
              clear HD HL hcmp
              go_wp2_with (go_at_call 73; refine (HI.out _ HQ3.out).mono ?_; rintro e w4 ⟨rfl, q4⟩; have HQ4 := Lib.hid (HQ3.out.trans q4); have HO4 := Lib.hid (HO3.out.q q4); have HK4 := Lib.hid (HK.out.q q4); have hx := HO4.out.2 k _ hkc.out; have hx1 := hx.1; have hx2 := hx.2; have hcd := (HO4.out.2 e _ hec.out).1; clear hx q4; have HSt := Lib.hid (HO4.out.set (s := k) hkl3 (.int .i64 ((cur : Nat) : Int))); rw [← cellsI_set, List.set_set] at HSt; have HQ5 : Hid (Q W0 (w4.setCell ⟨g, k, none⟩ (.int .i64 ((cur : Nat) : Int)))) := grown_q (setCell_grown _ _ _ _) HQ4.out HG.out; have HK5 := Lib.hid (HK4.out.far (i := k) hBg (.int .i64 ((cur : Nat) : Int))))
              go_roundw
              case rel => exact ⟨i + 1, cur, by omega, by go_num, HD', HSt, HK5, HQ5⟩
              case measure => simp [intOf]; omega
        · obtain rfl : i = N := by omega
          have HF : Hid (cur = deepAt l k) := by
            unfold Hid
            rw [← HD.out, deepL_end _ _ _ (by rw [hkn]; exact Nat.le_refl _)]
            simp
          have HO5 : Hid (OwnC wr g (cellsI (upto (deepAt l) l.length (k + 1)))) := by
            rw [← upto_next _ _ _ hlt, ← HF.out]; exact HO3
          clear HF HD
          go_wp2_with fail
          go_roundw
          case rel => exact ⟨k + 1, by omega, by go_num, HO5, HQ3⟩
          case measure => simp [intOf]; omega
    · obtain rfl : k = l.length := by omega
      obtain ⟨k', hk'⟩ : ∃ k', l.length = k' + 1 := ⟨l.length - 1, by omega⟩
      have h0 : deepAt l k' = x.deep := by
        refine deep_of ?_
        have e : l.take (k' + 1) = l := by rw [← hk', List.take_length]
        unfold treeAt
        rw [e, HS.out]; rfl
      have hc := (HO.out.2 k' _ (cellsI_at' (upto_at (deepAt l) l.length l.length k' (by omega)))).1
      rw [h0] at hc
      have e1 : ((l.length : Nat) : Int) - 1 = (k' : Int) := by omega
      have HK' := Lib.hid hk'
      have hkl : k' < l.length := by omega
      clear h0 hk'
      go_wp2_with fail
      go_ret
      have HE : Hid (decide ((x.deep : Int) ≤ 40) = decide (x.deep ≤ 40)) := by
        unfold Hid
        rw [Bool.eq_iff_iff, decide_eq_true_eq, decide_eq_true_eq]
        omega
      exact ⟨by rw [← HE.out]; rfl, HQW.out _ HQ.out⟩
end Go.Proofs.YtdmdcggmgipdbaaGreatDoor.Ex

namespace Go.Proofs.YtdmdcggmgipdbaaGreatDoor.Ex
open Go.RowKit Kit Rw
open Go.Proofs.YtdmdcggmgipdbaaGreatDoor.Nm

theorem con_names {n : Tg} (hm : mayN n = true) (h : n.1 = 3 ∨ n.1 = 6) : nameB 97 122 (nm n) = true := by
  unfold mayN at hm
  rcases h with h | h
  · rw [if_neg (by omega), if_neg (by omega), if_pos h, Bool.and_eq_true] at hm; exact hm.1
  · rw [if_neg (by omega), if_neg (by omega), if_neg (by omega), if_neg (by omega), if_pos h, Bool.and_eq_true] at hm; exact hm.1
/-- as many brackets end as open -/
def Flat (s : List UInt8) : Prop := ∀ o, endO o s = o
/-- so many are open at once somewhere -/
def DeepS (s : List UInt8) (D : Nat) : Prop := ∀ o, okL o s = true → o + (D : Int) ≤ 40
theorem Flat.app {a b : List UInt8} (h : Flat a) (k : Flat b) : Flat (a ++ b) := fun o => by rw [endO_app, h, k]
theorem Flat.nil : Flat [] := fun _ => rfl
theorem Flat.calm {s : List UInt8} (h : Calm s) : Flat s := fun o => h.end_ o
theorem Flat.one {c : UInt8} (h : c ≠ 40 ∧ c ≠ 41) : Flat [c] := Flat.calm fun b hb => by
  rw [List.mem_singleton.1 hb]; exact h
theorem Flat.brack {a : List UInt8} (h : Flat a) : Flat (40 :: (a ++ [41])) := fun o => by
  show endO (stepO o 40) (a ++ [41]) = o
  rw [endO_app, h]
  show stepO (stepO o 40) 41 = o
  simp [stepO]
theorem DeepS.left {a b : List UInt8} {D : Nat} (h : DeepS a D) : DeepS (a ++ b) D := fun o ho => by
  rw [okL_app, Bool.and_eq_true] at ho
  exact h o ho.1
theorem DeepS.right {a b : List UInt8} {D : Nat} (ha : Flat a) (h : DeepS b D) : DeepS (a ++ b) D := fun o ho => by
  rw [okL_app, Bool.and_eq_true, ha o] at ho
  exact h o ho.2
theorem DeepS.brack {a : List UInt8} {D : Nat} (h : DeepS a D) : DeepS (40 :: (a ++ [41])) (D + 1) := fun o ho => by
  have : okL (o + 1) (a ++ [41]) = true := by
    simp only [okL] at ho
    rw [show stepO o 40 = o + 1 by simp [stepO]] at ho
    split at ho
    · cases ho
    · exact ho
  rw [okL_app, Bool.and_eq_true] at this
  have := h (o + 1) this.1
  omega
theorem DeepS.zero {c : UInt8} {r : List UInt8} (h : c ≠ 40 ∧ c ≠ 41) : DeepS (c :: r) 0 := fun o ho => by
  simp only [okL] at ho
  rw [show stepO o c = o by simp [stepO, h.1, h.2]] at ho
  split at ho
  · cases ho
  · omega
theorem DeepS.max {s : List UInt8} {D E : Nat} (h : DeepS s D) (k : DeepS s E) : DeepS s (Nat.max D E) := fun o ho => by
  have h1 := h o ho
  have h2 := k o ho
  show o + ((Nat.max D E : Nat) : Int) ≤ 40
  rcases Nat.le_total D E with hd | hd
  · rw [show Nat.max D E = E from Nat.max_eq_right hd]; exact h2
  · rw [show Nat.max D E = D from Nat.max_eq_left hd]; exact h1
theorem DeepS.mono {s : List UInt8} {D E : Nat} (h : DeepS s D) (hE : E ≤ D) : DeepS s E := fun o ho => by have := h o ho; omega
def Good8 (e : Ex) : Prop := Flat e.text ∧ DeepS e.text e.deep
/-- the expressions of a constructor, behind its bracket -/
theorem con_flat (ks : List Ex) (h : ∀ e ∈ ks, Good8 e) : Flat (conL false (textsP ks)) := by
  induction ks with
  | nil => exact Flat.nil
  | cons e ks ih =>
    show Flat (44 :: (e.text ++ conL false (textsP ks)))
    exact (Flat.one (c := 44) (by decide)).app ((h e (by simp)).1.app (ih fun x hx => h x (List.mem_cons_of_mem _ hx)))
theorem con_deep (ks : List Ex) (h : ∀ e ∈ ks, Good8 e) : ∀ e ∈ ks, DeepS (conL false (textsP ks)) e.deep := by
  induction ks with
  | nil => intro e he; cases he
  | cons f ks ih =>
    intro e he
    show DeepS (44 :: (f.text ++ conL false (textsP ks))) e.deep
    have hf := h f (by simp)
    refine DeepS.right (a := [44]) (Flat.one (c := 44) (by decide)) ?_
    rcases List.mem_cons.1 he with rfl | he
    · exact hf.2.left
    · exact DeepS.right hf.1 (ih (fun x hx => h x (List.mem_cons_of_mem _ hx)) e he)
theorem deepL_max (k : Int) (s : List UInt8) (ks : List Ex) (h0 : DeepS s 0) (h : ∀ e ∈ ks, DeepS s (e.deep + 1)) : DeepS s (deepL k ks) := by
  induction ks with
  | nil => exact h0
  | cons e ks ih =>
    simp only [deepL]
    refine DeepS.max (DeepS.mono (h e (by simp)) ?_) (ih fun x hx => h x (List.mem_cons_of_mem _ hx))
    split <;> omega
theorem side_good (k : Int) (first : Bool) (e : Ex) (h : Good8 e) : Flat (sideL k first (e.root.1, e.text)) ∧ DeepS (sideL k first (e.root.1, e.text)) (e.deep + (if (e.root.1 = 4 ∨ e.root.1 = 5) ∧ (first = false ∨ e.root.1 ≠ k) then 1 else 0)) := by
  unfold sideL
  by_cases hc : (e.root.1 = 4 ∨ e.root.1 = 5) ∧ (first = false ∨ e.root.1 ≠ k)
  · rw [if_pos hc, if_pos hc]
    exact ⟨h.1.brack, h.2.brack⟩
  · rw [if_neg hc, if_neg hc]
    exact h
theorem inBr_side (k : Int) (hk : k = 4 ∨ k = 5) (pk : Int) (first : Bool) : (if inBr k pk (!first) = true then 1 else 0 : Nat) = if (pk = 4 ∨ pk = 5) ∧ (first = false ∨ pk ≠ k) then 1 else 0 := by
  have e : inBr k pk (!first) = (if pk = 4 ∨ pk = 5 then (!first || (pk != k)) else false) := by
    unfold inBr
    exact if_neg (by omega)
  rw [e]
  by_cases h : pk = 4 ∨ pk = 5
  · rw [if_pos h]
    cases first
    · rw [if_pos (by rfl), if_pos ⟨h, .inl rfl⟩]
    · by_cases hq : pk = k
      · rw [if_neg (by simp [hq]), if_neg (by simp [hq])]
      · rw [if_pos (by simp [hq]), if_pos ⟨h, .inr hq⟩]
  · rw [if_neg h, if_neg (by decide), if_neg (fun x => h x.1)]
theorem calm_nm {n : Tg} (hm : mayN n = true) (h : n.1 = 2 ∨ n.1 = 3 ∨ n.1 = 6) : Calm (nm n) ∧ nm n ≠ [] := by
  have key : ∃ lo hi : Int, 65 ≤ lo ∧ nameB lo hi (nm n) = true := by
    unfold mayN at hm
    rcases h with h | h | h
    · rw [if_neg (by omega), if_pos h, Bool.and_eq_true] at hm; exact ⟨_, _, by decide, hm.1⟩
    · exact ⟨_, _, by decide, con_names hm (.inl h)⟩
    · exact ⟨_, _, by decide, con_names hm (.inr h)⟩
  obtain ⟨lo, hi, h1, h2⟩ := key
  refine ⟨calm_name h1 h2, fun e => by rw [e] at h2; cases h2⟩
theorem deep_step (n : Tg) (ks : List Ex) (hm : mayN n = true) (hk : ks.length = np n) (h : ∀ e ∈ ks, Good8 e) : Flat (txt n (textsP ks)) ∧ DeepS (txt n (textsP ks)) (deepL n.1 ks) := by
  have hks := may_kinds hm
  have two : n.1 = 4 ∨ n.1 = 5 → ∃ e f, ks = [e, f] := fun hh => by
    have := np_two hm hh
    rw [this] at hk
    match ks, hk with
    | [e, f], _ => exact ⟨e, f, rfl⟩
  have none : n.1 = 0 ∨ n.1 = 1 ∨ n.1 = 2 → ks = [] := fun hh => by
    refine List.eq_nil_of_length_eq_zero ?_
    rw [hk]
    have := (parts_nat hm).1
    have hz : n.2.2 = 0 := by
      unfold mayN at hm
      by_cases h01 : n.1 = 0 ∨ n.1 = 1
      · rw [if_pos h01, Bool.and_eq_true, beq_iff_eq] at hm; exact hm.2
      · rw [if_neg h01, if_pos (by omega), Bool.and_eq_true, beq_iff_eq] at hm; exact hm.2
    unfold partsN at this
    rw [if_neg (by omega), hz] at this
    omega
  have name0 : n.1 = 2 ∨ n.1 = 3 ∨ n.1 = 6 → ∀ r, DeepS (nm n ++ r) 0 := fun hh r => by
    obtain ⟨c1, c2⟩ := calm_nm hm hh
    cases hn : nm n with
    | nil => exact absurd hn c2
    | cons c x =>
      rw [hn] at c1
      exact DeepS.zero (c1 c (by simp))
  unfold txt
  by_cases h0 : n.1 = 0
  · rw [if_pos h0, none (.inl h0)]; exact ⟨Flat.one (by decide), DeepS.zero (by decide)⟩
  rw [if_neg h0]
  by_cases h1 : n.1 = 1
  · rw [if_pos h1, none (.inr (.inl h1))]; exact ⟨Flat.one (by decide), DeepS.zero (by decide)⟩
  rw [if_neg h1]
  by_cases h3 : n.1 = 3
  · rw [if_pos h3, List.append_assoc]
    have hf := Flat.calm (calm_nm hm (.inr (.inl h3))).1
    cases ks with
    | nil =>
      simp only [textsP, conL, if_true, List.append_nil]
      exact ⟨hf, by have := name0 (.inr (.inl h3)) []; rwa [List.append_nil] at this⟩
    | cons e ks =>
      rw [if_neg (by simp [textsP])]
      have e1 : conL true (textsP (e :: ks)) ++ [41] = 40 :: ((e.text ++ conL false (textsP ks)) ++ [41]) := rfl
      rw [e1]
      have he := h e (by simp)
      have hfl : Flat (e.text ++ conL false (textsP ks)) := he.1.app (con_flat ks fun x hx => h x (List.mem_cons_of_mem _ hx))
      refine ⟨hf.app hfl.brack, deepL_max _ _ _ (name0 (.inr (.inl h3)) _) fun x hx => DeepS.right hf (DeepS.brack ?_)⟩
      rcases List.mem_cons.1 hx with rfl | hx
      · exact he.2.left
      · exact DeepS.right he.1 (con_deep ks (fun y hy => h y (List.mem_cons_of_mem _ hy)) x hx)
  rw [if_neg h3]
  have join : ∀ (k : Int) (c : UInt8), (c ≠ 40 ∧ c ≠ 41) → (k = 4 ∨ k = 5) → n.1 = k → Flat (sideL k true (nth (textsP ks) 0) ++ c :: sideL k false (nth (textsP ks) 1)) ∧ DeepS (sideL k true (nth (textsP ks) 0) ++ c :: sideL k false (nth (textsP ks) 1)) (deepL n.1 ks) := fun k c hc hk45 hnk => by
    obtain ⟨e, f, rfl⟩ := two (by rw [hnk]; exact hk45)
    obtain ⟨s1, s2⟩ := side_good k true e (h e (by simp))
    obtain ⟨t1, t2⟩ := side_good k false f (h f (by simp))
    refine ⟨s1.app ((Flat.one hc).app t1), ?_⟩
    rw [hnk]
    simp only [deepL, List.isEmpty_cons, List.isEmpty_nil]
    have i1 := inBr_side k hk45 e.root.1 true
    have i2 := inBr_side k hk45 f.root.1 false
    rw [Bool.not_true] at i1
    rw [Bool.not_false] at i2
    rw [i1, i2, Nat.max_zero]
    exact DeepS.max s2.left (DeepS.right s1 (DeepS.right (a := [c]) (Flat.one hc) t2))
  by_cases h4 : n.1 = 4
  · rw [if_pos h4]; exact join 4 124 (by decide) (.inl rfl) h4
  rw [if_neg h4]
  by_cases h5 : n.1 = 5
  · rw [if_pos h5]; exact join 5 38 (by decide) (.inr rfl) h5
  rw [if_neg h5]
  by_cases h6 : n.1 = 6
  · rw [if_pos h6]
    obtain ⟨hnp, m, hm1, hm2, hm3⟩ := np_proj hm h6
    rw [hnp] at hk
    obtain ⟨e, rfl⟩ : ∃ e, ks = [e] := by
      match ks, hk with
      | [e], _ => exact ⟨e, rfl⟩
    have he := h e (by simp)
    have hf := Flat.calm (calm_nm hm (.inr (.inr h6))).1
    have hd : figD n.2.2.toNat ≠ 40 ∧ figD n.2.2.toNat ≠ 41 := by
      rw [hm1, Int.toNat_natCast]
      have : m = 1 ∨ m = 2 ∨ m = 3 ∨ m = 4 ∨ m = 5 ∨ m = 6 ∨ m = 7 ∨ m = 8 := by omega
      rcases this with rfl | rfl | rfl | rfl | rfl | rfl | rfl | rfl <;> decide
    have e1 : nm n ++ 126 :: figD n.2.2.toNat :: 40 :: ((nth (textsP [e]) 0).2 ++ [41]) = nm n ++ ([126] ++ ([figD n.2.2.toNat] ++ (40 :: (e.text ++ [41])))) := rfl
    rw [e1]
    have hpre := (Flat.one (c := 126) (by decide)).app (Flat.one hd)
    refine ⟨hf.app ((Flat.one (c := 126) (by decide)).app ((Flat.one hd).app he.1.brack)), deepL_max _ _ _ (name0 (.inr (.inr h6)) _) fun x hx => ?_⟩
    rw [List.mem_singleton.1 hx]
    exact DeepS.right hf (DeepS.right (Flat.one (c := 126) (by decide)) (DeepS.right (Flat.one hd) he.2.brack))
  · rw [if_neg h6]
    have h2 : n.1 = 2 := by omega
    rw [none (.inr (.inr h2))]
    exact ⟨Flat.calm (calm_nm hm (.inl h2)).1, by have := name0 (.inl h2) []; rwa [List.append_nil] at this⟩
mutual
theorem deep_tree : ∀ (e : Ex), e.wf → (∀ t ∈ e.nodes, mayN t = true) → Good8 e
  | .mk n ks, hw, hm => deep_step n ks (hm n (by simp [Ex.nodes])) hw.1 (deep_trees ks hw.2 fun t ht => hm t (by simp [Ex.nodes, ht]))
theorem deep_trees : ∀ (ks : List Ex), wfL ks → (∀ t ∈ nodesL ks, mayN t = true) → ∀ e ∈ ks, Good8 e
  | [], _, _ => fun _ h => by cases h
  | e :: ks, hw, hm => fun x hx => by
    rcases List.mem_cons.1 hx with h | hx
    · rw [h]; exact deep_tree e hw.1 fun t ht => hm t (by simp [nodesL, ht])
    · exact deep_trees ks hw.2 (fun t ht => hm t (by simp [nodesL, ht])) x hx
end
/-- what the document's Right of a row says -/
theorem right_tree {l : List Tg} (h : rightB l = true) : (∀ t ∈ l, mayN t = true) ∧ ∃ x : Ex, runS [] l = some [x] ∧ x.wf ∧ x.nodes = l ∧ x.deep ≤ 40 ∧ textAt l (l.length - 1) = x.text ∧ 0 < l.length := by
  unfold rightB at h
  cases hc : countN 0 l with
  | none => rw [hc] at h; cases h
  | some k =>
    rw [hc] at h
    have hk : k = 1 := by
      match k, h with
      | 1, _ => rfl
    subst hk
    simp only at h
    obtain ⟨hm, st, hr, hl⟩ := count_run l [] 1 hc
    obtain ⟨x, rfl⟩ : ∃ x, st = [x] := by
      match st, hl with
      | [x], _ => exact ⟨x, rfl⟩
    obtain ⟨h1, h2⟩ := run_nodes hr
    have h2 : x.nodes = l := by simpa [nodesL] using h2
    have hpos : 0 < l.length := by
      have := size_pos x
      unfold Ex.size at this
      rwa [h2] at this
    have htx : textAt l (l.length - 1) = x.text := by
      refine text_of ?_
      unfold treeAt
      rw [show l.length - 1 + 1 = l.length by omega, List.take_length, hr]
      rfl
    rw [htx] at h
    have hg := deep_tree x h1.1 (by rw [h2]; exact hm)
    exact ⟨hm, x, hr, h1.1, h2, by have := hg.2 0 h; omega, htx, hpos⟩
end Go.Proofs.YtdmdcggmgipdbaaGreatDoor.Ex

namespace Go.Proofs.YtdmdcggmgipdbaaGreatDoor.Ld
open Go.RowKit Kit Rw
open Go.Proofs.YtdmdcggmgipdbaaGreatDoor.Sg (Sig Row)
open Go.Proofs.YtdmdcggmgipdbaaGreatDoor.Hs (Keys Ints BoxT)
open Go.Proofs.YtdmdcggmgipdbaaGreatDoor.Tm (Tm Store)
open Go.Proofs.YtdmdcggmgipdbaaGreatDoor.Ex (Ex mayN cellsS rightB right_tree text7_any good_gen textAt runS run_tree Good7)
/-- with nodes: the place's expression, and that its nodes are few and short -/
structure At0 (L : List Sig) (names : List ByteArray) (ks : List (List Int)) (id : Int) (i : Nat) : Prop where
  id : id = (i : Int)
  lt : i < ks.length
  vars : VarsIn names ks i
  few : (exP L names ks i).nodes.length ≤ 300
  right : rightB (exP L names ks i).nodes = true
  wf : (exP L names ks i).wf
  small : ∀ t ∈ (exP L names ks i).nodes, t.2.1.size ≤ 20
  may : ∀ t ∈ (exP L names ks i).nodes, mayN t = true
  good : Good7 (exP L names ks i).nodes [exP L names ks i]
  text : textAt (exP L names ks i).nodes ((exP L names ks i).nodes.length - 1) = (exP L names ks i).text
  deep : (exP L names ks i).deep ≤ 40
theorem at0 {L : List Sig} {names : List ByteArray} {ks : List (List Int)} {id : Int} (hS : Store L ks) (hD : DstL L) (hL : ∀ s ∈ L, s.1.size ≤ 20) (hN : ∀ a ∈ names, a.size ≤ 20) (h : nodesE L names ks id = 0) : ∃ i : Nat, At0 L names ks id i := by
  obtain ⟨i, rfl, hi, hv, hz, hr⟩ := nodesE_ok h
  obtain ⟨hm, x, hs, hw, hn, hd, ht, hp⟩ := right_tree hr
  have hw2 := (exP_rep hS hD i hi hv).2
  have hs2 := run_tree _ [] hw2
  rw [hs] at hs2
  obtain rfl : x = exP L names ks i := by injection hs2 with h; injection h
  have hsm := nodes_small hS hL hN i hi
  have hl : (exP L names ks i).nodes.length ≤ 300 := hz
  exact ⟨i, rfl, hi, hv, hl, hr, hw2, hsm, hm, good_gen (by omega) (by have := total_small _ hsm; omega) (fun t ht => by have := hsm t ht; omega) hp hm hs, ht, hd⟩
set_option maxRecDepth 100000 in
set_option maxHeartbeats 2000000 in
theorem refText9_any (R A S B : Option Addr) (nl cl n c m d nb cb : Nat) (L : List Sig) (ks : List (List Int)) (names : List ByteArray) (id : Int) (w : World) (hnl : nl = L.length) (hr : Row w w.heap.size R L) (hn : n = ks.length) (hk : Keys w w.heap.size A ks) (hnb : nb = names.length) (hN : Rds w w.heap.size B (cellsS names))
    (hS : Store L ks) (hD : DstL L) (hl : ks.length ≤ 5000) (hxl : ∀ k ∈ ks, k.length ≤ 100000) (hL20 : ∀ s ∈ L, s.1.size ≤ 20) (hN20 : ∀ a ∈ names, a.size ≤ 20) (hl8 : ∀ s ∈ L, s.2.size ≤ 8) :
    Calls Tryz.prog 17 #[.slice R nl cl, .agg #[.slice A n c, .slice S m d], .slice B nb cb, .int .i64 id] w fun e w' => e = .returned (.string (bs (textV L names ks id))) ∧ Q w w' := by
  have q0 := (Q.refl w).alloc (Obj.cells #[Value.slice A n c, Value.slice S m d] 26)
  have CN := Lib.hid (refNodes_any R A S B nl cl n c m d nb cb L ks names id (w.alloc (Obj.cells #[Value.slice A n c, Value.slice S m d] 26)) hnl ((hr.q (Nat.le_refl _) q0).more q0.size) hn ((hk.q (Nat.le_refl _) q0).more q0.size) hnb (hN.q q0) hS hl hxl hL20 hN20 hl8)
  by_cases h0 : nodesE L names ks id = 0
  · obtain ⟨i, hat⟩ := at0 hS hD hL20 hN20 h0
    have HV : Hid (nodesV L names ks id = (exP L names ks i).nodes) := by
      unfold Hid nodesV
      rw [if_pos h0, hat.id, Int.toNat_natCast]
    have HT : Hid (textV L names ks id = (exP L names ks i).text) := by
      unfold Hid textV
      rw [if_pos h0, hat.id, Int.toNat_natCast]
    have HA := Lib.hid hat
    have HE := Lib.hid h0
    rw [HT.out]
    clear hat hr hk hN hS hxl hL20 hN20 hl8 h0 hD hnl hn hnb
    go_enter Tryz.func17, Tryz.ntmps17
    go_wp2_with fail
    refine CN.out.mono ?_
    rintro e w1 ⟨A1, c1, rfl, hr1, q1⟩
    rw [HV.out] at hr1
    rw [HV.out, HE.out]
    have CT := Lib.hid (text7_any A1 _ c1 (exP L names ks i).nodes _ w1 rfl hr1 HA.out.good)
    rw [HA.out.text] at CT
    have Q1 := Lib.hid (q0.trans q1)
    clear hr1 q1
    generalize (exP L names ks i).nodes = X at *
    go_wp2_with fail
    refine CT.out.mono ?_
    rintro e w2 ⟨rfl, q2⟩
    go_wp2_with fail
    go_ret
    exact ⟨rfl, Q1.out.trans q2⟩
  · have HV : Hid (nodesV L names ks id = []) := by
      unfold Hid nodesV
      rw [if_neg h0]
    have HT : Hid (textV L names ks id = []) := by
      unfold Hid textV
      rw [if_neg h0]
    have e0 : (nodesE L names ks id == 0) = false := beq_eq_false_iff_ne.2 h0
    rw [HT.out]
    clear hr hk hN hS hxl hL20 hN20 hl8 hD hnl hn hnb
    go_enter Tryz.func17, Tryz.ntmps17
    go_wp2_with fail
    refine CN.out.mono ?_
    rintro e w1 ⟨A1, c1, rfl, hr1, q1⟩
    rw [HV.out]
    generalize nodesE L names ks id = E at *
    go_wp2_with fail
    go_ret
    exact ⟨rfl, q0.trans q1⟩
end Go.Proofs.YtdmdcggmgipdbaaGreatDoor.Ld
