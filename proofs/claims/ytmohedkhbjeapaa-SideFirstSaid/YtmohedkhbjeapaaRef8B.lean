/-
  Contract of the document's Kids, with where each part ends.
-/
import Derived.Test.YtmohedkhbjeapaaRef8A
namespace Go.Proofs.Ytmohedkhbjeapaa.Ex
open Go.RowKit Kit Nm Rw

set_option maxRecDepth 100000 in
set_option maxHeartbeats 4000000 in
theorem kids2_any (A S : Option Addr) (n c m d : Nat) (l : List Tg) (st : List Ex) (a : Nat) (sk : List Ex) (w : World) (hn : n = l.length) (hm : m = l.length) (hr : Rds w w.heap.size A (cellsG l)) (hS : Rds w w.heap.size S (cellsI (startsL l l.length)))
    (hl : l.length ≤ 1000) (hmay : ∀ t ∈ l, mayN t = true) (hs : runS [] l = some st) (ha : a < l.length) (hsk : runS [] (l.take a) = some sk) :
    Calls Try.prog 31 #[.slice A n c, .slice S m d, .int .i64 (a : Int)] w fun e w' => ∃ B k K, e = .returned (.slice B (np l[a]) k) ∧ np l[a] ≤ k ∧ Rds w' w'.heap.size B (cellsN K) ∧ Ends l a (sk.take (np l[a])).reverse K ∧ K = (backsF (sk.take (np l[a])) a).reverse ∧ (∀ ad, B = some ad → w.heap.size ≤ ad.block) ∧ Q w w' := by
  subst hn hm
  obtain ⟨i0, hi, hz0, hz1, hz2⟩ := info_parts intInfo
  have Hi := Lib.hid hi
  have Hz0 := Lib.hid hz0
  have Hz1 := Lib.hid hz1
  have Hz2 := Lib.hid hz2
  clear hi hz0 hz1 hz2
  have HR := Lib.hid hr
  have HSR := Lib.hid hS
  obtain ⟨hp, hp8⟩ := parts_nat (hmay l[a] (List.getElem_mem ha))
  obtain ⟨sn, hsn⟩ := run_take hs (a + 1)
  obtain ⟨hnp, _⟩ := run_next ha hsk hsn
  have HSK := Lib.hid hsk
  have CP : Hid (∀ W : World, Calls Try.prog 35 #[.agg #[.int .i64 l[a].1, .string l[a].2.1, .int .i64 l[a].2.2]] W fun e w' => e = .returned (.int .i64 (np l[a] : Int)) ∧ Q W w') := fun W => by
    have := parts_any l[a].1 l[a].2.1 l[a].2.2 W
    rw [show partsN (l[a].1, l[a].2.1, l[a].2.2) = (np l[a] : Int) from hp] at this
    exact this
  clear hr hS hmay hs hsk hsn hp
  go_enter Try.func31, Try.ntmps31
  go_wp2_with fail
  go_loopw [7, 8, 9] (fun back en i wr => ∃ (j p : Nat) (v : Value) (B : List Nat), j ≤ np l[a] ∧ p ≤ a ∧ i = .int .i64 j ∧ en = .int .i64 ((p : Int) - 1) ∧ v = back ∧ Hid (runS [] (l.take p) = some (sk.drop j)) ∧ Hid (Ends l a (sk.take j) B) ∧ Hid (B = backsF (sk.take j) a ∧ p + sumS (sk.take j) = a) ∧ Hid (wr.ownsRow w.heap.size 3 1 v j (cellsN B)) ∧ Hid (Q w wr)) (fun _ _ i _ => np l[a] - (intOf i).toNat)
  case atStart => exact ⟨0, a, _, [], Nat.zero_le _, Nat.le_refl _, rfl, by go_num, rfl, by simpa using HSK, Lib.hid (Ends.nil l a), Lib.hid ⟨rfl, rfl⟩, Lib.hid (own_nil w _ _ _), Lib.hid (Q.refl w)⟩
  case round =>
    obtain ⟨j, p, v, B, hj, hpa, rfl, rfl, rfl, HP, HE, HBK, HO, HQ⟩ := hrel
    obtain ⟨ad, rfl, hb, c0, c1, c2⟩ := tok_at (HR.out.q HQ.out) ha
    by_cases hjl : j < np l[a]
    · have dj : decide ((j : Int) < (np l[a] : Int)) = true := decide_eq_true (by omega)
      have hd : sk.drop j = (sk[j]'(by omega)) :: sk.drop (j + 1) := List.drop_eq_getElem_cons (by omega)
      have HP2 := HP.out
      rw [hd] at HP2
      obtain ⟨hp0, hsz, hst, hnx, htr⟩ := back_one (by omega) HP2
      have hq : p - (sk[j]'(by omega)).size ≤ a := by omega
      have hsz0 := size_pos (sk[j]'(by omega))
      clear HP2 hd
      obtain ⟨p', rfl⟩ : ∃ p', p = p' + 1 := ⟨p - 1, by omega⟩
      rw [Nat.add_sub_cancel] at hst htr
      have HE' : Hid (Ends l a (sk.take (j + 1)) (B ++ [p'])) := by
        unfold Hid
        rw [List.take_succ_eq_append_getElem (by omega)]
        exact HE.out.snoc (by omega) htr
      have HBK' : Hid (B ++ [p'] = backsF (sk.take (j + 1)) a ∧ p' + 1 - (sk[j]'(by omega)).size + sumS (sk.take (j + 1)) = a) := by
        unfold Hid
        obtain ⟨k1, k2⟩ := HBK.out
        rw [List.take_succ_eq_append_getElem (by omega), backsF_snoc, sumS_app, ← k1]
        refine ⟨by congr 2; omega, ?_⟩
        simp only [sumS]
        omega
      obtain ⟨sd, hsd, hbs, hcell⟩ := int_at (HSR.out.q HQ.out) (k := p') (by rw [startsL_len]; omega)
      subst hsd
      rw [startsL_at l _ p' (by omega), hst] at hcell
      have HP' : Hid (runS [] (l.take (p' + 1 - (sk[j]'(by omega)).size)) = some (sk.drop (j + 1))) := hnx
      have HST := Lib.hid hst
      generalize p' + 1 - (sk[j]'(by omega)).size = q at *
      clear hst hnx HP hsz hp0 htr hsz0
      have e1 : ((p' + 1 : Nat) : Int) - 1 = (p' : Int) := by omega
      have hj8 : j ≤ 8 := by omega
      go_wp2_with (first
        | (go_at_call 35; refine (CP.out _).mono ?_; rintro e w3 ⟨rfl, q3⟩; have hcell3 := (q3.cell (p := sd.add p') (by rw [add_block]; exact hbs)).trans hcell; have hcell4 := (((Q.refl w3).alloc (Obj.cells #[.int .i64 (p' : Int)] 3)).cell (p := sd.add p') (by rw [add_block]; exact Nat.lt_of_lt_of_le hbs q3.size)).trans hcell3; have HQ3 := Lib.hid ((HQ.out.trans q3).alloc (Obj.cells #[.int .i64 (p' : Int)] 3)); have Ho := Lib.hid (row_kept (row_kept HO.out q3 (Nat.le_refl _)) ((Q.refl w3).alloc (Obj.cells #[.int .i64 (p' : Int)] 3)) (Nat.le_refl _)); have Hs : Hid (Src (w3.alloc (Obj.cells #[.int .i64 (p' : Int)] 3)) (some ⟨w3.heap.size, 0, none⟩) [.int .i64 (p' : Int)]) := src_alloc w3 _ _ _)
        | (at_builtin; refine wpList_append_src _ rfl (.tmp 23) (.tmp 25) _ rfl w.heap.size 3 i0 _ 1 8 Try.underlying41 Hi.out Hz0.out Hz1.out Hz2.out rfl (by omega) v j (cellsN B) rfl Ho.out (some ⟨w3.heap.size, 0, none⟩) 1 1 [.int .i64 (p' : Int)] rfl rfl Hs.out (by simp [Value.oneCell']) (by unfold maxLen; omega) (by omega) HQ3.out.size ?_; intro v' w' own' gr' _; have Own := Lib.hid own'; have HQ' : Hid (Q w w') := Below.grown HQ3.out gr' HQ3.out.size (fun i e => (Ho.out.lt i e).1); obtain ⟨sd', e', _, hcell5⟩ := int_at (HSR.out.q HQ'.out) (k := p') (by rw [startsL_len]; omega); injection e' with e'; subst e'; rw [startsL_at l _ p' (by omega), HST.out] at hcell5; clear own' gr'))
      go_roundw
      case rel => exact ⟨j + 1, q, v', B ++ [p'], by omega, by omega, by go_num, by go_num, rfl, HP', HE', HBK', by rw [cellsN_append]; exact Own, HQ'⟩
      case measure => simp [intOf]; omega
    · have dj : decide ((j : Int) < (np l[a] : Int)) = false := decide_eq_false (by omega)
      obtain rfl : j = np l[a] := by omega
      have hBl : B.length = np l[a] := by rw [HE.out.len, List.length_take]; omega
      have HBl := Lib.hid hBl
      obtain ⟨B0, c0', rfl, hc0, hR0⟩ := own_read HO.out
      have HB := Lib.hid hR0
      clear hR0 hBl HP
      go_wp2_with (go_at_call 35; refine (CP.out _).mono ?_; rintro e w3 ⟨rfl, q3⟩)
      have HBR := Lib.hid (HB.out.q q3)
      have HQ3 := Lib.hid (HQ.out.trans q3)
      clear q3 HQ HB HO
      go_loopw [10, 11] (fun out i wr => ∃ (r d : Nat) (v : Value), r + d = np l[a] ∧ i = .int .i64 ((r : Int) - 1) ∧ v = out ∧ Hid (wr.ownsRow w3.heap.size 3 1 v d (cellsN (B.drop r).reverse)) ∧ Hid (Q w3 wr)) (fun _ i _ => (intOf i + 1).toNat)
      case atStart => exact ⟨np l[a], 0, _, by omega, by go_num, rfl, by rw [List.drop_of_length_le (by rw [HBl.out]; exact Nat.le_refl _)]; exact Lib.hid (own_nil w3 _ _ _), Lib.hid (Q.refl w3)⟩
      case round =>
        obtain ⟨r, d2, v, hrd, rfl, rfl, HO, HQ⟩ := hrel
        by_cases hr0 : 0 < r
        · obtain ⟨r', rfl⟩ : ∃ r', r = r' + 1 := ⟨r - 1, by omega⟩
          have e1 : ((r' + 1 : Nat) : Int) - 1 = (r' : Int) := by omega
          have hrl : r' < B.length := by rw [HBl.out]; omega
          obtain ⟨bd, rfl, hbb, hbc⟩ := nat_at (HBR.out.q HQ.out) hrl
          have HD : Hid ((B.drop r').reverse = (B.drop (r' + 1)).reverse ++ [B[r']]) := by
            unfold Hid; rw [List.drop_eq_getElem_cons hrl, List.reverse_cons]
          generalize B[r'] = x at *
          have HQ4 := Lib.hid (HQ.out.alloc (Obj.cells #[.int .i64 (x : Int)] 3))
          have Ho := Lib.hid (row_kept HO.out ((Q.refl wr).alloc (Obj.cells #[.int .i64 (x : Int)] 3)) (Nat.le_refl _))
          have Hs : Hid (Src (wr.alloc (Obj.cells #[.int .i64 (x : Int)] 3)) (some ⟨wr.heap.size, 0, none⟩) [.int .i64 (x : Int)]) := src_alloc wr _ _ _
          rw [e1]
          go_wp2_with (at_builtin; refine wpList_append_src _ rfl (.tmp 39) (.tmp 44) _ rfl w3.heap.size 3 i0 _ 1 8 Try.underlying41 Hi.out Hz0.out Hz1.out Hz2.out rfl (by omega) v d2 (cellsN (B.drop (r' + 1)).reverse) rfl Ho.out (some ⟨wr.heap.size, 0, none⟩) 1 1 [.int .i64 (x : Int)] rfl rfl Hs.out (by simp [Value.oneCell']) (by unfold maxLen; omega) (by omega) HQ4.out.size ?_; intro v' w' own' gr' _; have Own := Lib.hid own'; have HQ' : Hid (Q w3 w') := Below.grown HQ4.out gr' HQ4.out.size (fun i e => (HO.out.lt i e).1); clear own' gr')
          go_roundw
          case rel => exact ⟨r', d2 + 1, v', by omega, by go_num, rfl, by rw [HD.out, cellsN_append]; exact Own, HQ'⟩
          case measure => simp [intOf]
        · obtain rfl : r = 0 := by omega
          have e1 : (((0 : Nat) : Int)) - 1 = -1 := by omega
          obtain rfl : d2 = np l[a] := by omega
          obtain ⟨A', c', rfl, hc, hR⟩ := own_read HO.out
          have HRd := Lib.hid hR
          clear hR
          rw [e1]
          go_wp2_with fail
          go_ret
          exact ⟨A', c', B.reverse, rfl, hc, HRd.out, HE.out.rev, (by rw [HBK.out.1]), (fun ad e => by subst e; exact Nat.le_trans HQ3.out.size (HO.out.lt ad.block rfl).1), HQ3.out.trans HQ.out⟩
end Go.Proofs.Ytmohedkhbjeapaa.Ex
