/-
  Contract of the document's Starts.
-/
import Derived.Test.YtmohedkhbjeapaaRef7B
import Derived.Laws.EntriesVeiled
namespace Go.Proofs.Ytmohedkhbjeapaa.Ex
open Go.RowKit Kit Rw Nm

def cellsI (l : List Int) : List Value := l.map (Value.int .i64)
theorem cellsI_len (l : List Int) : (cellsI l).length = l.length := by simp [cellsI]
theorem cellsI_one (l : List Int) : ∀ u ∈ cellsI l, u.oneCell' = true := fun u hu => by
  obtain ⟨x, _, rfl⟩ := List.mem_map.1 hu; rfl
theorem cellsI_at {l : List Int} {k : Nat} (h : k < l.length) : (cellsI l)[k]? = some (.int .i64 l[k]) := by simp [cellsI, h]
theorem cellsI_append (a b : List Int) : cellsI (a ++ b) = cellsI a ++ cellsI b := by simp [cellsI]
theorem intInfo : (Try.prog.info? 3).map (fun i => (i.zero, i.size, i.bytes)) = some (some (.int .i64 0), 1, 8) := by kernel_rfl
/-- where each node's expression begins -/
def startsL (l : List Tg) (n : Nat) : List Int := (List.range n).map fun j => (startOf l j : Int)
theorem startsL_len (l : List Tg) (n : Nat) : (startsL l n).length = n := by simp [startsL]
theorem startsL_at (l : List Tg) (n j : Nat) (h : j < n) : (startsL l n)[j]'(by rw [startsL_len]; exact h) = (startOf l j : Int) := by simp [startsL]
theorem startsL_next (l : List Tg) (n : Nat) : startsL l (n + 1) = startsL l n ++ [(startOf l n : Int)] := by simp [startsL, List.range_succ]
theorem own_int {w : World} {base : Nat} {v : Value} {n : Nat} {l : List Int} (h : w.ownsRow base 3 1 v n (cellsI l)) {k : Nat} (hn : n = l.length) (hk : k < l.length) :
    ∃ g c, v = .slice (some ⟨g, 0, none⟩) n c ∧ w.cell? ⟨g, k, none⟩ = some (.int .i64 l[k]) := by
  have h2 := h
  obtain ⟨hl, ⟨rfl, h0⟩ | ⟨g, cap, cur, rfl, hg, hh, hc, _⟩⟩ := h
  · omega
  · exact ⟨g, cap, rfl, ((OwnC.of_row h2).2 k _ (cellsI_at hk)).1⟩
/-- a node loaded whole, its parts counted -/
theorem parts_nat {t : Tg} (h : mayN t = true) : partsN t = (np t : Int) ∧ np t ≤ 8 := by
  unfold np
  have : 0 ≤ partsN t ∧ partsN t ≤ 8 := by
    obtain ⟨k, s, n⟩ := t
    unfold mayN at h
    unfold partsN
    simp only at h ⊢
    split at h
    · simp only [Bool.and_eq_true, beq_iff_eq] at h
      split <;> omega
    · split at h
      · simp only [Bool.and_eq_true, beq_iff_eq] at h
        split <;> omega
      · split at h
        · simp only [Bool.and_eq_true, decide_eq_true_eq] at h
          split <;> omega
        · split at h
          · simp only [Bool.and_eq_true, beq_iff_eq] at h
            split <;> omega
          · split at h
            · simp only [Bool.and_eq_true, decide_eq_true_eq] at h
              split <;> omega
            · cases h
  omega

set_option maxRecDepth 100000 in
set_option maxHeartbeats 4000000 in
theorem starts_any (A : Option Addr) (n c : Nat) (l : List Tg) (st : List Ex) (w : World) (hn : n = l.length) (hr : Rds w w.heap.size A (cellsG l)) (hl : l.length ≤ 1000) (hm : ∀ t ∈ l, mayN t = true) (hs : runS [] l = some st) :
    Calls Try.prog 19 #[.slice A n c] w fun e w' => ∃ B k, e = .returned (.slice B l.length k) ∧ l.length ≤ k ∧ Rds w' w'.heap.size B (cellsI (startsL l l.length)) ∧ Q w w' := by
  subst hn
  obtain ⟨i0, hi, hz0, hz1, hz2⟩ := info_parts intInfo
  have Hi := Lib.hid hi
  have Hz0 := Lib.hid hz0
  have Hz1 := Lib.hid hz1
  have Hz2 := Lib.hid hz2
  clear hi hz0 hz1 hz2
  have HR := Lib.hid hr
  have HM := Lib.hid hm
  have HS := Lib.hid hs
  clear hr hm hs
  go_enter Try.func19, Try.ntmps19
  go_wp2_with fail
  go_loopw [3, 4] (fun out i wr => ∃ (k : Nat) (v : Value), k ≤ l.length ∧ i = .int .i64 k ∧ v = out ∧ Hid (wr.ownsRow w.heap.size 3 1 v k (cellsI (startsL l k))) ∧ Hid (Q w wr)) (fun _ i _ => l.length - (intOf i).toNat)
  case atStart => exact ⟨0, _, Nat.zero_le _, rfl, rfl, Lib.hid (own_nil w _ _ _), Lib.hid (Q.refl w)⟩
  case round =>
    obtain ⟨k, v, hk, rfl, rfl, HO, HQ⟩ := hrel
    by_cases hlt : k < l.length
    · obtain ⟨hp, hp8⟩ := parts_nat (HM.out l[k] (List.getElem_mem hlt))
      obtain ⟨sk, hsk⟩ := run_take HS.out k
      obtain ⟨sn, hsn⟩ := run_take HS.out (k + 1)
      obtain ⟨hnp, hnx⟩ := run_next hlt hsk hsn
      have HSK := Lib.hid hsk
      have HSN : Hid (startOf l k = k + 1 - (Ex.mk l[k] (sk.take (np l[k])).reverse).size) := start_of (by rw [hsn, hnx])
      have HNX : Hid (runS [] (l.take (k + 1)) = some (.mk l[k] (sk.take (np l[k])).reverse :: sk.drop (np l[k]))) := by unfold Hid; rw [hsn, hnx]
      clear hsn hnx hsk
      have CP : Hid (∀ W : World, Calls Try.prog 35 #[.agg #[.int .i64 l[k].1, .string l[k].2.1, .int .i64 l[k].2.2]] W fun e w' => e = .returned (.int .i64 (np l[k] : Int)) ∧ Q W w') := fun W => by
        have := parts_any l[k].1 l[k].2.1 l[k].2.2 W
        rw [show partsN (l[k].1, l[k].2.1, l[k].2.2) = (np l[k] : Int) from hp] at this
        exact this
      clear hp
      go_wp2_with fail
      go_loopw [5, 6] (fun at_ i wr2 => ∃ (j p : Nat), j ≤ np l[k] ∧ p ≤ k ∧ i = .int .i64 j ∧ at_ = .int .i64 p ∧ Hid (runS [] (l.take p) = some (sk.drop j)) ∧ Hid (wr2.ownsRow w.heap.size 3 1 v k (cellsI (startsL l k))) ∧ Hid (Q w wr2)) (fun _ i _ => np l[k] - (intOf i).toNat)
      case atStart => exact ⟨0, k, Nat.zero_le _, Nat.le_refl _, rfl, rfl, by simpa using HSK, HO, HQ⟩
      case round =>
        clear HO HQ
        obtain ⟨j, p, hj, hpk, rfl, rfl, HP, HO, HQ⟩ := hrel
        obtain ⟨ad, rfl, hb, c0, c1, c2⟩ := tok_at (HR.out.q HQ.out) hlt
        by_cases hjl : j < np l[k]
        · have dj : decide ((j : Int) < (np l[k] : Int)) = true := decide_eq_true (by omega)
          have hd : sk.drop j = (sk[j]'(by omega)) :: sk.drop (j + 1) := List.drop_eq_getElem_cons (by omega)
          have HP2 := HP.out
          rw [hd] at HP2
          obtain ⟨hp0, hsz, hst, hnx, _⟩ := back_one (by omega) HP2
          clear HP2 hd
          obtain ⟨p', rfl⟩ : ∃ p', p = p' + 1 := ⟨p - 1, by omega⟩
          rw [Nat.add_sub_cancel] at hst
          obtain ⟨g, c', rfl, hcell⟩ := own_int (k := p') HO.out (startsL_len l k).symm (by rw [startsL_len]; omega)
          rw [startsL_at l k p' (by omega), hst] at hcell
          have HP' : Hid (runS [] (l.take (p' + 1 - (sk[j]'(by omega)).size)) = some (sk.drop (j + 1))) := hnx
          have hq : p' + 1 - (sk[j]'(by omega)).size ≤ p' := by have := size_pos (sk[j]'(by omega)); omega
          generalize p' + 1 - (sk[j]'(by omega)).size = q at *
          clear hst hnx HP hsz hp0
          go_wp2_with (go_at_call 35; refine (CP.out _).mono ?_; rintro e w3 ⟨rfl, q3⟩; have hcell3 := (q3.cell (p := ⟨g, p', none⟩) (by have := HO.out.lt g rfl; exact this.2)).trans hcell)
          go_roundw
          case rel => exact ⟨j + 1, q, by omega, by omega, by go_num, rfl, HP', Lib.hid (row_kept HO.out q3 (Nat.le_refl _)), Lib.hid (HQ.out.trans q3)⟩
          case measure => simp [intOf]; omega
        · have dj : decide ((j : Int) < (np l[k] : Int)) = false := decide_eq_false (by omega)
          have hpe : p = startOf l k := by
            obtain rfl : j = np l[k] := by omega
            have hl1 : (l.take (k + 1)).length = k + 1 := by rw [List.length_take]; omega
            obtain ⟨_, h2, h3, _⟩ := run_pop HNX.out
            rw [hl1] at h2 h3
            rw [List.take_take, Nat.min_eq_left (by omega)] at h3
            have e1 := (run_nodes HP.out).2
            have e2 := (run_nodes h3).2
            rw [e1] at e2
            have e3 := congrArg List.length e2
            rw [List.length_take, List.length_take] at e3
            rw [HSN.out]
            omega
          subst hpe
          have HO2 := Lib.hid (startsL_next l k)
          generalize hx : startOf l k = x at *
          have hfew : k ≤ 1000 := by omega
          clear HSN HP hx
          go_wp2_with (first
            | (go_at_call 35; refine (CP.out _).mono ?_; rintro e w3 ⟨rfl, q3⟩; have HQ3 := Lib.hid ((HQ.out.trans q3).alloc (Obj.cells #[.int .i64 (x : Int)] 3)); have Ho := Lib.hid (row_kept (row_kept HO.out q3 (Nat.le_refl _)) ((Q.refl w3).alloc (Obj.cells #[.int .i64 (x : Int)] 3)) (Nat.le_refl _)); have Hs : Hid (Src (w3.alloc (Obj.cells #[.int .i64 (x : Int)] 3)) (some ⟨w3.heap.size, 0, none⟩) [.int .i64 (x : Int)]) := src_alloc w3 _ _ _)
            | (at_builtin; refine wpList_append_src _ rfl (.tmp 28) (.tmp 30) _ rfl w.heap.size 3 i0 _ 1 8 Try.underlying41 Hi.out Hz0.out Hz1.out Hz2.out rfl (by omega) v k (cellsI (startsL l k)) rfl Ho.out (some ⟨w3.heap.size, 0, none⟩) 1 1 [.int .i64 (x : Int)] rfl rfl Hs.out (by simp [Value.oneCell']) (by unfold maxLen; omega) (by omega) HQ3.out.size ?_; intro v' w' own' gr' _; have Own := Lib.hid own'; have HQ' : Hid (Q w w') := Below.grown HQ3.out gr' HQ3.out.size (fun i e => (HO.out.lt i e).1); clear own' gr'))
          go_roundw
          case rel => exact ⟨k + 1, v', by omega, by go_num, rfl, by rw [HO2.out, cellsI_append]; exact Own, HQ'⟩
          case measure => simp [intOf]; omega
    · obtain ⟨A', c', rfl, hc, hR⟩ := own_read HO.out
      obtain rfl : k = l.length := by omega
      have HRd := Lib.hid hR
      clear hR
      go_wp2_with fail
      go_ret
      exact ⟨A', c', rfl, hc, HRd.out, HQ.out⟩
end Go.Proofs.Ytmohedkhbjeapaa.Ex
