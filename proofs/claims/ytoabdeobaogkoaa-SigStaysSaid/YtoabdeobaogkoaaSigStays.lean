/-
  SigStays holds: for every right row, and every constructor of short texts: what Add answers is right, has all that was there in its place, and is found by its name; with an error it is the row. No conditions.
-/
import Derived.Test.YtoabdeobaogkoaaSigI
import Derived.Test.YtoabdeobaogkoaaSigOpen
import Derived.Test.YtoabdeobaogkoaaRows
import Derived.Deep.RegionHeld3
namespace Go.Proofs.Ytoabdeobaogkoaa.sigStays
open Go.ChangeShapes Go.WideShapes Go.ChangeAt Go.RowKit Kit Sg

/-! ### what is found in a row with one more -/
theorem findI_ge (t : ByteArray) : ∀ (l : List Sig) (k : Nat), findI t l k = -1 ∨ (k : Int) ≤ findI t l k
  | [], _ => .inl rfl
  | s :: l, k => by
    rw [findI]
    split
    · exact .inr (Int.le_refl _)
    · rcases findI_ge t l (k + 1) with h | h
      · exact .inl h
      · exact .inr (by omega)
theorem find_in (t : ByteArray) (b : List Sig) : ∀ (a : List Sig) (k : Nat), 0 ≤ findI t a k → findI t (a ++ b) k = findI t a k
  | [], k, h => by simp [findI] at h
  | s :: a, k, h => by
    rw [findI] at h ⊢
    rw [List.cons_append, findI]
    split
    · rfl
    · rename_i hs
      rw [if_neg hs] at h
      exact find_in t b a (k + 1) h
theorem find_out (t : ByteArray) (b : List Sig) : ∀ (a : List Sig) (k : Nat), findI t a k < 0 → findI t (a ++ b) k = findI t b (k + a.length)
  | [], k, _ => by simp
  | s :: a, k, h => by
    rw [findI] at h
    rw [List.cons_append, findI]
    split
    · rename_i hs
      rw [if_pos hs] at h
      omega
    · rename_i hs
      rw [if_neg hs] at h
      rw [find_out t b a (k + 1) h, List.length_cons]
      congr 1; omega
theorem rightG_get (L : List Sig) : ∀ (l : List Sig) (k i : Nat) (h : i < l.length), rightG L l k = true → conB l[i].1 = true ∧ partsB l[i].2 = true ∧ findI l[i].1 L 0 = ((k + i : Nat) : Int)
  | s :: l, k, 0, _, h => by
    simp only [rightG, Bool.and_eq_true, beq_iff_eq] at h
    exact ⟨h.1.1.1, h.1.1.2, h.1.2⟩
  | s :: l, k, i + 1, hi, h => by
    simp only [rightG, Bool.and_eq_true] at h
    have := rightG_get L l (k + 1) i (by simpa using hi) h.2
    simp only [List.getElem_cons_succ]
    exact ⟨this.1, this.2.1, by rw [this.2.2]; omega⟩
theorem rightG_mk (L : List Sig) : ∀ (l : List Sig) (k : Nat), (∀ (i : Nat) (h : i < l.length), conB l[i].1 = true ∧ partsB l[i].2 = true ∧ findI l[i].1 L 0 = ((k + i : Nat) : Int)) → rightG L l k = true
  | [], _, _ => rfl
  | s :: l, k, h => by
    have h0 := h 0 (by simp)
    simp only [List.getElem_cons_zero] at h0
    simp only [rightG, Bool.and_eq_true, beq_iff_eq]
    refine ⟨⟨⟨h0.1, h0.2.1⟩, h0.2.2⟩, rightG_mk L l (k + 1) fun i hi => ?_⟩
    have := h (i + 1) (by simpa using hi)
    simp only [List.getElem_cons_succ] at this
    exact ⟨this.1, this.2.1, by rw [this.2.2]; omega⟩
theorem find_old {l : List Sig} (hR : rightB l = true) (s : Sig) {i : Nat} (h : i < l.length) : findI l[i].1 (l ++ [s]) 0 = (i : Int) := by
  unfold rightB at hR
  rw [Bool.and_eq_true] at hR
  have := (rightG_get l l 0 i h hR.2).2.2
  rw [find_in _ _ _ _ (by omega), this]; omega
theorem find_new {l : List Sig} {nm ar : ByteArray} (h : findI nm l 0 < 0) : findI nm (l ++ [(nm, ar)]) 0 = (l.length : Int) := by
  rw [find_out _ _ _ _ h, findI, if_pos ((eqS_iff _ _).2 rfl)]; omega
theorem right_more {l : List Sig} {nm ar : ByteArray} (hR : rightB l = true) (hm : mayI l nm ar = 0) : findI nm l 0 = -1 ∧ rightB (l ++ [(nm, ar)]) = true := by
  unfold mayI at hm
  cases h1 : conB nm
  · rw [h1] at hm; simp at hm
  cases h2 : partsB ar
  · rw [h1, h2] at hm; simp at hm
  by_cases h3 : 0 ≤ findI nm l 0
  · rw [h1, h2, decide_eq_true h3] at hm; simp at hm
  by_cases h4 : 64 ≤ l.length
  · rw [h1, h2, decide_eq_false h3, decide_eq_true h4] at hm; simp at hm
  refine ⟨?_, ?_⟩
  · rcases findI_ge nm l 0 with h | h
    · exact h
    · omega
  · unfold rightB
    rw [Bool.and_eq_true, decide_eq_true_eq]
    refine ⟨by simp; omega, rightG_mk _ _ _ fun i hi => ?_⟩
    rcases Nat.lt_or_ge i l.length with h | h
    · rw [List.getElem_append_left h]
      have hR' := hR
      unfold rightB at hR'
      rw [Bool.and_eq_true] at hR'
      have := rightG_get l l 0 i h hR'.2
      exact ⟨this.1, this.2.1, by rw [find_old hR _ h]; omega⟩
    · obtain rfl : i = l.length := by simp at hi; omega
      rw [List.getElem_append_right (Nat.le_refl _)]
      simp only [Nat.sub_self, List.getElem_cons_zero]
      exact ⟨h1, h2, by rw [find_new (by omega)]; omega⟩

set_option maxRecDepth 100000 in
set_option maxHeartbeats 1000000 in
theorem walk_ok (A : Option Addr) (c : Nat) (l : List Sig) (nm ar : ByteArray) (w : World) (hr : Row w w.heap.size A l) (hl : l.length ≤ maxLen) (hs : Sized l) (ha : nm.size ≤ maxLen ∧ ar.size ≤ maxLen)
    (hf : fewB l = true) (hR : rightB l = true) (hL' : decide (100 < wrap64 ((nm.size : Int) + (ar.size : Int))) = false) (hm : mayI l nm ar = 0) :
    Calls Try.prog 4 #[.slice A l.length c, .agg #[.string nm, .string ar]] w fun e w' => e = .returned (.bool true) ∧ Q w w' := by
  have q0 := (Q.refl w).alloc (Obj.cells #[Value.string nm, Value.string ar] 24)
  have hr0 := Lib.hid (hr.q (Nat.le_refl _) q0)
  have hlen := few_len hf
  obtain ⟨hn1, hRx⟩ := right_more hR hm
  have Hn1 := Lib.hid hn1
  have HRx := Lib.hid hRx
  have HR0 := Lib.hid hR
  have Hadd : Hid (addL l nm ar = l ++ [(nm, ar)]) := by unfold Hid addL; rw [if_pos hm]
  have Hm := Lib.hid hm
  have Hnew := Lib.hid (find_new (ar := ar) (by omega : findI nm l 0 < 0))
  clear hr hn1 hRx hm
  go_enter Try.func4, Try.ntmps4
  go_wp2_with fail
  refine (shown_any _).mono ?_
  rintro e w1 ⟨rfl, q1⟩
  have q01 := q0.trans q1
  have hr1 := Lib.hid (hr0.out.q (by simp) q1)
  go_wp2_with fail
  refine (few_any _ _ _ l _ rfl (hr1.out.more q01.size)).mono ?_
  rintro e w2 ⟨rfl, q2⟩
  have q02 := q01.trans q2
  have hr2 := Lib.hid (hr1.out.q q01.size q2)
  have q12 := q1.trans q2
  have k0 : w2.cell? ⟨w.heap.size, 0, none⟩ = some (.string nm) := by rw [q12.cell (by simp)]; simp
  have k1 : w2.cell? ⟨w.heap.size, 1, none⟩ = some (.string ar) := by rw [q12.cell (by simp)]; simp
  go_wp2_with fail
  refine (refRight_any _ _ _ l _ rfl (hr2.out.more q02.size) hl hs).mono ?_
  rintro e w3 ⟨rfl, rfl⟩
  go_wp2_with fail
  refine (add_any _ _ _ l nm ar _ rfl (hr2.out.more q02.size) hlen).mono ?_
  rintro e w3 ⟨g, m, rfl, hm, hg, hr3, q3⟩
  rw [Hadd.out] at hm hr3
  rw [Hm.out]
  have hlt2 : w.heap.size < w2.heap.size := by have := q12.size; simp at this; omega
  obtain rfl : m = l.length + 1 := by simpa using hm
  have q03 := q02.trans q3
  have k0' : w3.cell? ⟨w.heap.size, 0, none⟩ = some (.string nm) := by rw [q3.cell hlt2]; exact k0
  have k1' : w3.cell? ⟨w.heap.size, 1, none⟩ = some (.string ar) := by rw [q3.cell hlt2]; exact k1
  have hlx : l.length < (l ++ [(nm, ar)]).length := by simp
  have hr3' := Lib.hid hr3
  obtain ⟨ad, e, hb, x0, x1⟩ := hr3.at_ hlx
  injection e with e
  subst e
  simp only [add_zero_head, List.getElem_append_right (Nat.le_refl _), Nat.sub_self, List.getElem_cons_zero] at x0 x1
  have k00 := Lib.hid k0
  clear hr3 k0 k1 hm hlx
  go_upto_region 7 with fail
  have hq : ∀ u : World, (binOp .neq 24 (.agg #[.string nm, .string ar]) (.agg #[.string nm, .string ar])).run Try.prog u = .ok (.bool false) u := fun u => by
    have := run_neq_sig u (nm, ar) (nm, ar)
    rw [(sigEq_iff _ _).2 rfl] at this
    exact this
  have hq2 := sig_guard
  have hlt3 : w.heap.size < w3.heap.size := by have := q3.size; omega
  have hrl := Lib.hid ((hr2.out.q q02.size q3).more q03.size)
  have hsx : Hid (Sized (l ++ [(nm, ar)])) := fun s hs' => by
    rw [List.mem_append, List.mem_singleton] at hs'
    rcases hs' with h | rfl
    · exact hs s h
    · exact ha
  have hlx : (l ++ [(nm, ar)]).length ≤ maxLen := by unfold maxLen; simp; omega
  have HE : Hid (l.length + 1 = (l ++ [(nm, ar)]).length) := by unfold Hid; simp
  have i0 : (0 : Int) ≤ (l.length : Int) := Int.natCast_nonneg _
  have i1 : (l.length : Int) < (l.length : Int) + 1 := by omega
  have hwr : IntKind.i64.wrap ((l.length : Int) + 1) = (l.length : Int) + 1 := IntWalk.i64_in _ (by omega)
  go_cut [69] (fun b wx => b = .bool false ∧ Q w3 wx)
  case first =>
    go_region_held3 (fun w' => w'.cell? ⟨w.heap.size, 0, none⟩ = some (.string nm) ∧ w'.cell? ⟨w.heap.size, 1, none⟩ = some (.string ar) ∧ w'.cell? ⟨g, l.length * 2, none⟩ = some (.string nm) ∧ w'.cell? ⟨g, l.length * 2 + 1, none⟩ = some (.string ar))
      (first
        | go_keep
        | exact ⟨(q4.cell (p := ⟨w.heap.size, 0, none⟩) hlt3).trans k0', (q4.cell (p := ⟨w.heap.size, 1, none⟩) hlt3).trans k1', (q4.cell (p := ⟨g, l.length * 2, none⟩) hb).trans x0, (q4.cell (p := ⟨g, l.length * 2 + 1, none⟩) hb).trans x1⟩)
      (first
        | (go_at_call 10; refine (refRight_any _ _ _ (l ++ [(nm, ar)]) _ HE.out (by exact hr3'.out) hlx hsx.out).mono ?_; rintro e w' ⟨rfl, rfl⟩; rw [HRx.out])
        | (go_at_call 14; refine (find_any _ _ _ l nm _ rfl (by exact hrl.out) hl).mono ?_; rintro e w4 ⟨rfl, q4⟩; rw [Hn1.out]))
    clear hwr
    go_wp2_with fail
    go_meet
    exact ⟨rfl, (Q.refl w3).drew.trans q4⟩
  case rest =>
    obtain ⟨rfl, q4⟩ := hcut
    clear hwr hq x0 x1 k0' k1'
    have q04 := q03.trans q4
    have q24 := q3.trans q4
    have hrlc := Lib.hid (hr2.out.q q02.size q24)
    have hrx := Lib.hid ((hr3'.out.q (Nat.le_refl _) q4))
    have Hold : Hid (∀ i (h : i < l.length), findI l[i].1 (l ++ [(nm, ar)]) 0 = (i : Int)) := fun i h => find_old HR0.out _ h
    go_wp2_with fail
    go_loopw [8] (fun i wr => ∃ k : Nat, k ≤ l.length ∧ i = .int .i64 k ∧ Q wc wr) (fun i _ => l.length - (intOf i).toNat)
    case atStart => exact ⟨0, Nat.zero_le _, rfl, Q.refl _⟩
    case round =>
      obtain ⟨k, hk, rfl, qr⟩ := hrel
      have q0r := q04.trans qr
      by_cases hlt : k < l.length
      · have hfk := Lib.hid (Hold.out k hlt)
        obtain ⟨ad, rfl, hbl, c0, c1⟩ := (hrlc.out.q q04.size qr).at_ hlt
        obtain ⟨ad', e, hbx, y0, y1⟩ := ((hrx.out.q q4.size qr)).at_ (k := k) (by simp; omega)
        injection e with e
        subst e
        simp only [add_zero_head, List.getElem_append_left hlt] at y0 y1
        have hq : ∀ u : World, (binOp .neq 24 (.agg #[.string l[k].1, .string l[k].2]) (.agg #[.string l[k].1, .string l[k].2])).run Try.prog u = .ok (.bool false) u := fun u => by
          have := run_neq_sig u l[k] l[k]
          rw [(sigEq_iff _ _).2 rfl] at this
          exact this
        have hbl' : (ad.add (k * 2)).block < wr.heap.size := by rw [add_block]; have := q0r.size; omega
        have hbx' : g < wr.heap.size := by have := q4.size; have := qr.size; omega
        have hrx' : Hid (Row wr wr.heap.size (some ⟨g, 0, none⟩) (l ++ [(nm, ar)])) := (hrx.out.q q4.size qr).more (by have := q4.size; have := qr.size; omega)
        have j0 : (0 : Int) ≤ (k : Int) := Int.natCast_nonneg _
        have j1 : (k : Int) < (l.length : Int) := by omega
        have j2 : (k : Int) < (l.length : Int) + 1 := by omega
        go_upto_region 12 with fail
        go_cut [95] (fun b wx => b = .bool false ∧ Q wr wx)
        case first =>
          go_region_held3 (fun w' => w'.cell? ⟨g, k * 2, none⟩ = some (.string l[k].1) ∧ w'.cell? ⟨g, k * 2 + 1, none⟩ = some (.string l[k].2) ∧ w'.cell? (ad.add (k * 2)) = some (.string l[k].1) ∧ w'.cell? ⟨(ad.add (k * 2)).block, (ad.add (k * 2)).off + 1, none⟩ = some (.string l[k].2))
            (first
              | go_keep
              | exact ⟨(q5.cell (p := ⟨g, k * 2, none⟩) hbx').trans y0, (q5.cell (p := ⟨g, k * 2 + 1, none⟩) hbx').trans y1, (q5.cell (p := ad.add (k * 2)) hbl').trans c0, (q5.cell (p := ⟨(ad.add (k * 2)).block, (ad.add (k * 2)).off + 1, none⟩) hbl').trans c1⟩)
            (first
              | (go_at_call 14; refine (find_any _ _ _ (l ++ [(nm, ar)]) l[k].1 _ HE.out (by exact hrx'.out) hlx).mono ?_; rintro e w5 ⟨rfl, q5⟩; rw [hfk.out]))
          go_wp2_with fail
          go_meet
          exact ⟨rfl, (Q.refl wr).drew.trans q5⟩
        case rest =>
          obtain ⟨rfl, q5⟩ := hcut
          go_wp2_with fail
          go_roundw
          case rel => exact ⟨k + 1, by omega, by go_num, qr.trans q5⟩
          case measure => simp [intOf]; omega
      · have b0 : wr.cell? ⟨w.heap.size, 0, none⟩ = some (.string nm) := by
          rw [(q3.trans (q4.trans qr)).cell hlt2]; exact k00.out
        go_wp2_with fail
        refine (find_any _ _ _ (l ++ [(nm, ar)]) nm _ HE.out ((hrx.out.q q4.size qr).more (by have := q4.size; have := qr.size; omega)) hlx).mono ?_
        rintro e w6 ⟨rfl, q6⟩
        rw [Hnew.out]
        go_wp2_with fail
        go_ret
        exact ⟨rfl, q0r.trans q6⟩

set_option maxRecDepth 100000 in
set_option maxHeartbeats 400000 in
theorem walk (A : Option Addr) (n c : Nat) (l : List Sig) (nm ar : ByteArray) (w : World) (hn : n = l.length) (hr : Row w w.heap.size A l) (hl : l.length ≤ maxLen) (hs : Sized l) (ha : nm.size ≤ maxLen ∧ ar.size ≤ maxLen) :
    Calls Try.prog 4 #[.slice A n c, .agg #[.string nm, .string ar]] w fun e w' => e = .returned (.bool true) ∧ Q w w' := by
  subst hn
  have hr' := hr
  have q0 := (Q.refl w).alloc (Obj.cells #[Value.string nm, Value.string ar] 24)
  have hr0 := Lib.hid (hr.q (Nat.le_refl _) q0)
  clear hr
  cases hf : fewB l
  · clear hr'
    go_enter Try.func4, Try.ntmps4
    go_wp2_with fail
    refine (shown_any _).mono ?_
    rintro e w1 ⟨rfl, q1⟩
    go_wp2_with fail
    refine (few_any _ _ _ l _ rfl ((hr0.out.q (by simp) q1).more (by have := (q0.trans q1).size; omega))).mono ?_
    rintro e w2 ⟨rfl, q2⟩
    go_wp2_with fail
    go_ret
    exact ⟨rfl, (q0.trans q1).trans q2⟩
  · have hlen := few_len hf
    cases hR : rightB l
    · clear hr'
      go_enter Try.func4, Try.ntmps4
      go_wp2_with fail
      refine (shown_any _).mono ?_
      rintro e w1 ⟨rfl, q1⟩
      have q01 := q0.trans q1
      have hr1 := Lib.hid (hr0.out.q (by simp) q1)
      go_wp2_with fail
      refine (few_any _ _ _ l _ rfl (hr1.out.more q01.size)).mono ?_
      rintro e w2 ⟨rfl, q2⟩
      have q02 := q01.trans q2
      go_wp2_with fail
      refine (refRight_any _ _ _ l _ rfl ((hr1.out.q q01.size q2).more q02.size) hl hs).mono ?_
      rintro e w3 ⟨rfl, rfl⟩
      go_wp2_with fail
      go_ret
      exact ⟨rfl, q02⟩
    · cases hL : longB (nm, ar)
      · have hL' : decide (100 < wrap64 ((nm.size : Int) + (ar.size : Int))) = false := hL
        clear hL
        by_cases hm : mayI l nm ar = 0
        · exact walk_ok A c l nm ar w hr' hl hs ha hf hR hL' hm
        · have hm' : (mayI l nm ar != 0) = true := by simpa using hm
          have Hadd : Hid (addL l nm ar = l) := by unfold Hid addL; rw [if_neg hm]
          have hsm : sameB l l = true := (sameB_iff _ _).2 rfl
          clear hr' hm
          go_enter Try.func4, Try.ntmps4
          go_wp2_with fail
          refine (shown_any _).mono ?_
          rintro e w1 ⟨rfl, q1⟩
          have q01 := q0.trans q1
          have hr1 := Lib.hid (hr0.out.q (by simp) q1)
          go_wp2_with fail
          refine (few_any _ _ _ l _ rfl (hr1.out.more q01.size)).mono ?_
          rintro e w2 ⟨rfl, q2⟩
          have q02 := q01.trans q2
          have hr2 := Lib.hid (hr1.out.q q01.size q2)
          have q12 := q1.trans q2
          have k0 : w2.cell? ⟨w.heap.size, 0, none⟩ = some (.string nm) := by rw [q12.cell (by simp)]; simp
          have k1 : w2.cell? ⟨w.heap.size, 1, none⟩ = some (.string ar) := by rw [q12.cell (by simp)]; simp
          go_wp2_with fail
          refine (refRight_any _ _ _ l _ rfl (hr2.out.more q02.size) hl hs).mono ?_
          rintro e w3 ⟨rfl, rfl⟩
          go_wp2_with fail
          refine (add_any _ _ _ l nm ar _ rfl (hr2.out.more q02.size) hlen).mono ?_
          rintro e w3 ⟨g, m, rfl, hmm, hg, hr3, q3⟩
          rw [Hadd.out] at hmm hr3
          have q03 := q02.trans q3
          have hr3' := Lib.hid hr3
          have hmm' := Lib.hid hmm
          clear hr3 hmm hg k0 k1
          go_wp2_with fail
          refine (refSame_any _ _ _ _ _ _ l l _ hmm'.out rfl hr3'.out ((hr2.out.q q02.size q3).more q03.size) hl).mono ?_
          rintro e w5 ⟨rfl, q5⟩
          rw [hsm]
          go_wp2_with fail
          go_ret
          exact ⟨rfl, q03.trans q5⟩
      · have hL' : decide (100 < wrap64 ((nm.size : Int) + (ar.size : Int))) = true := hL
        clear hL hr'
        go_enter Try.func4, Try.ntmps4
        go_wp2_with fail
        refine (shown_any _).mono ?_
        rintro e w1 ⟨rfl, q1⟩
        have q01 := q0.trans q1
        have hr1 := Lib.hid (hr0.out.q (by simp) q1)
        go_wp2_with fail
        refine (few_any _ _ _ l _ rfl (hr1.out.more q01.size)).mono ?_
        rintro e w2 ⟨rfl, q2⟩
        have q02 := q01.trans q2
        have q12 := q1.trans q2
        have k0 : w2.cell? ⟨w.heap.size, 0, none⟩ = some (.string nm) := by rw [q12.cell (by simp)]; simp
        have k1 : w2.cell? ⟨w.heap.size, 1, none⟩ = some (.string ar) := by rw [q12.cell (by simp)]; simp
        go_wp2_with fail
        refine (refRight_any _ _ _ l _ rfl ((hr1.out.q q01.size q2).more q02.size) hl hs).mono ?_
        rintro e w3 ⟨rfl, rfl⟩
        go_wp2_with fail
        go_ret
        exact ⟨rfl, q02⟩

set_option maxRecDepth 100000 in
theorem lifted (os : Os) (started : os.Started) (H : Type) (enc : TypeId × Value → H) :
    ReturnsInHanded {} Try.checked os 4 .any (Rows.sigStaysSpec.pre6 enc Try.prog Try.f4 Rows.sigStaysRow.domain false) (Rows.sigStaysSpec.post enc Try.prog Try.f4 false true false false) := by
  refine returnsInHanded_of_change (C := Try.checked) own started (by kernel_rfl) Try.func4
    (ChangeSpec.witness6 (enc := enc) (C := Try.checked) false ⟨#[], #[.slice none 0 0, .agg #[.string .empty, .string .empty]], []⟩ 8 (by kernel_rfl) (by kernel_rfl) (by kernel_rfl) (by kernel_rfl)) ?_
  intro W base args ds gs before hval0 hW hcnd _
  have hval : ∀ (j : Nat) t v, Try.f4.params[j]? = some t → args[j]? = some v → Value.okWide Try.prog W .any base t v := hval0
  have hW' := hW
  obtain ⟨p, q, hA0, hV, rfl, hfz, hnd⟩ := hW
  have hA : DataW.TrodAll enc Try.prog W 0 (fun _ => true) true Try.f4.params.toList args.toList ds p := hA0
  rw [Try.params4] at hA hval
  obtain ⟨v0, vs0, d0, ds0, p0, q0, hargs, rfl, rfl, h0, r0⟩ := trodAll_cons hA
  obtain ⟨v1, vs1, d1, ds1, p1, q1, rfl, rfl, rfl, h1, r1⟩ := trodAll_cons r0
  obtain ⟨rfl, rfl, rfl⟩ := trodAll_nil r1
  obtain rfl : args = #[v0, v1] := by cases args; simp_all
  obtain ⟨rfl, rfl⟩ := trodVars_none hV
  obtain ⟨A, n, c, l, rfl, hn, hr, hl, hs, _⟩ := open_sigs (hval 0 22 v0 rfl rfl) h0
  obtain ⟨nm, ar, rfl, hz⟩ := open_sig (hval 1 24 v1 rfl rfl) h1
  clear hA0 hval0
  refine (walk A n c l nm ar W hn hr hl hs hz).mono fun e W' ⟨he, hg⟩ => ?_
  subst he
  exact ⟨_, rfl, post_law laid (by rw [Try.params4]; decide +kernel) rfl rfl (by kernel_rfl) Try.underlying4 hW' hg⟩

/-- THE STATEMENT -/
theorem proved : Rows.SigStaysSaid :=
  OpenClaim.holds_of_wide 4 Try.f4 rfl rfl rfl rfl rfl rfl rfl ⟨rfl, rfl, rfl, rfl, rfl⟩ rfl rfl rfl rfl rfl (by kernel_rfl) Try.func4 (by kernel_rfl)
    (of_decide_eq_true (by kernel_rfl)) (by unfold Func.isWrapper; first | (rw [if_pos (by decide +kernel)]; kernel_rfl) | (rw [if_neg (by decide +kernel)]; exact ⟨rfl, rfl⟩))
    (fun os started H enc _ => lifted os started H enc)
end Go.Proofs.Ytoabdeobaogkoaa.sigStays
