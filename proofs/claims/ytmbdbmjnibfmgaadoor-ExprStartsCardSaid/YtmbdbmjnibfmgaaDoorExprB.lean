/-
  Contracts of partsOf, mayStand, isInBrackets.
-/
import Derived.Test.YtmbdbmjnibfmgaaDoorExprA
import Derived.Test.YtmbdbmjnibfmgaaDoorRef7F
import Derived.RegionTactic
namespace Go.Proofs.YtmbdbmjnibfmgaaDoor.Ex
open Go.RowKit Kit Nm Rw

/-! ### a node -/
theorem partsOf_any (t : Tg) (hm : mayN t = true) (w : World) :
    Calls Tryd.prog 39 #[.agg #[.int .i64 t.1, .string t.2.1, .int .i64 t.2.2]] w fun e w' => e = .returned (.int .i64 (np t : Int)) ∧ Q w w' := by
  obtain ⟨k, s, n⟩ := t
  have hp := (parts_nat hm).1
  have HP : Hid ((np (k, s, n) : Int) = if k = 6 then 1 else n) := by unfold Hid; rw [← hp]; rfl
  have H0 : Hid (k = 0 ∨ k = 1 ∨ k = 2 → n = 0) := by
    unfold Hid
    intro hk
    unfold mayN at hm
    simp only at hm
    by_cases h : k = 0 ∨ k = 1
    · rw [if_pos h] at hm
      simp only [Bool.and_eq_true, beq_iff_eq] at hm
      exact hm.2
    · rw [if_neg h, if_pos (by omega)] at hm
      simp only [Bool.and_eq_true, beq_iff_eq] at hm
      exact hm.2
  have H2 : Hid (k = 4 ∨ k = 5 → (np (k, s, n) : Int) = 2) := Lib.hid fun h => by rw [np_two hm h]; rfl
  have hk := may_kinds hm
  simp only at hk
  clear hp hm
  rcases hk with rfl | rfl | rfl | rfl | rfl | rfl | rfl
  all_goals
    go_enter Tryd.func39, Tryd.ntmps39
    go_wp2_with fail
    go_ret
    refine ⟨?_, (Q.refl _).alloc _⟩
  · rw [HP.out, if_neg (by decide), H0.out (by simp)]; rfl
  · rw [HP.out, if_neg (by decide), H0.out (by simp)]; rfl
  · rw [HP.out, if_neg (by decide), H0.out (by simp)]; rfl
  · rw [HP.out]; rfl
  · rw [H2.out (by simp)]; rfl
  · rw [H2.out (by simp)]; rfl
  · rw [HP.out]; rfl

/-- does a part of a node stand in brackets: the node's kind, the part's, and whether it is the last one -/
def inBr (nk pk : Int) (last : Bool) : Bool := if nk = 3 ∨ nk = 6 then true else if pk = 4 ∨ pk = 5 then last || (pk != nk) else false

set_option maxHeartbeats 1000000 in
theorem isIn_any (A S : Option Addr) (n c m d : Nat) (l : List Tg) (a p : Nat) (w : World) (hn : n = l.length) (hr : Rds w w.heap.size A (cellsG l)) (ha : a < l.length) (hp : p < l.length) (hl : l.length ≤ 1000000) :
    Calls Tryd.prog 28 #[.agg #[.slice A n c, .slice S m d], .int .i64 (a : Int), .int .i64 (p : Int)] w fun e w' => e = .returned (.bool (inBr l[a].1 l[p].1 (decide (p + 1 = a)))) ∧ Q w w' := by
  subst hn
  have hq := hr.q ((Q.refl w).alloc (Obj.cells #[Value.slice A l.length c, Value.slice S m d] 47))
  obtain ⟨ad, rfl, hb, c0, c1, c2⟩ := tok_at hq ha
  obtain ⟨ad', e', _, b0, b1, b2⟩ := tok_at hq hp
  injection e' with e'
  subst e'
  have q2 := (Q.refl (w.alloc (Obj.cells #[Value.slice (some ad) l.length c, Value.slice S m d] 47))).alloc (Obj.cells #[.int .i64 0, .string ⟨#[]⟩, .int .i64 0] 38)
  have c0' := (q2.cell (p := ad.add (a * 3)) (by rw [add_block]; exact hb)).trans c0
  have c1' := (q2.cell (p := ⟨(ad.add (a * 3)).block, (ad.add (a * 3)).off + 1, none⟩) (by show (ad.add (a * 3)).block < _; rw [add_block]; exact hb)).trans c1
  have c2' := (q2.cell (p := ⟨(ad.add (a * 3)).block, (ad.add (a * 3)).off + 2, none⟩) (by show (ad.add (a * 3)).block < _; rw [add_block]; exact hb)).trans c2
  have b0' := (q2.cell (p := ad.add (p * 3)) (by rw [add_block]; exact hb)).trans b0
  have q3 := (Q.refl (w.alloc (Obj.cells #[Value.slice (some ad) l.length c, Value.slice S m d] 47))).alloc (Obj.cells #[.int .i64 l[a].1, .string l[a].2.1, .int .i64 l[a].2.2] 38)
  have b0'' := (q3.cell (p := ad.add (p * 3)) (by rw [add_block]; exact hb)).trans b0
  clear hq hr hb b1 b2 q2 q3
  have HE : Hid (∀ nk pk : Int, ∀ b : Bool, (nk = 3 ∨ nk = 6 → inBr nk pk b = true) ∧ (¬ (nk = 3 ∨ nk = 6) → pk = 4 ∨ pk = 5 → inBr nk pk b = (b || (pk != nk))) ∧ (¬ (nk = 3 ∨ nk = 6) → ¬ (pk = 4 ∨ pk = 5) → inBr nk pk b = false)) := by
    intro nk pk b
    refine ⟨fun h => by unfold inBr; rw [if_pos h], fun h h' => by unfold inBr; rw [if_neg h, if_pos h'], fun h h' => by unfold inBr; rw [if_neg h, if_neg h']⟩
  have HS : Hid (decide ((p : Int) = (a : Int) - 1) = decide (p + 1 = a)) := by
    unfold Hid
    by_cases h : p + 1 = a
    · rw [decide_eq_true h, decide_eq_true (by omega)]
    · rw [decide_eq_false h, decide_eq_false (by omega)]
  generalize l[a].1 = nk at *
  generalize l[p].1 = pk at *
  by_cases h3 : nk = 3
  · have HR := Lib.hid ((HE.out nk pk (decide (p + 1 = a))).1 (.inl h3))
    have e3 : (nk == 3) = true := beq_iff_eq.2 h3
    clear h3
    go_enter Tryd.func28, Tryd.ntmps28
    go_wp2_with fail
    go_region
    all_goals go_wp2_with fail
    all_goals go_ret
    all_goals exact ⟨by rw [HR.out]; rfl, by first | exact (((Q.refl w).alloc _).alloc _).drew | exact ((((Q.refl w).alloc _).alloc _).drew).drew⟩
  by_cases h6 : nk = 6
  · have HR := Lib.hid ((HE.out nk pk (decide (p + 1 = a))).1 (.inr h6))
    have e3 : (nk == 3) = false := beq_eq_false_iff_ne.2 h3
    have e6 : (nk == 6) = true := beq_iff_eq.2 h6
    clear h3 h6
    go_enter Tryd.func28, Tryd.ntmps28
    go_wp2_with fail
    go_region
    all_goals go_wp2_with fail
    all_goals go_ret
    all_goals exact ⟨by rw [HR.out]; rfl, by first | exact (((Q.refl w).alloc _).alloc _).drew | exact ((((Q.refl w).alloc _).alloc _).drew).drew⟩
  have e3 : (nk == 3) = false := beq_eq_false_iff_ne.2 h3
  have e6 : (nk == 6) = false := beq_eq_false_iff_ne.2 h6
  have hno : ¬ (nk = 3 ∨ nk = 6) := by omega
  clear h3 h6
  by_cases h4 : pk = 4
  · have HR := Lib.hid ((HE.out nk pk (decide (p + 1 = a))).2.1 hno (.inl h4))
    have e4 : (pk == 4) = true := beq_iff_eq.2 h4
    rw [← HS.out] at HR
    clear h4 hno
    by_cases hs : (p : Int) = (a : Int) - 1
    · have e5 : ((p : Int) == (a : Int) - 1) = true := beq_iff_eq.2 hs
      have HR' : Hid (inBr nk pk (decide (p + 1 = a)) = true) := by unfold Hid; rw [← HS.out, HR.out, decide_eq_true hs, Bool.true_or]
      clear hs
      go_enter Tryd.func28, Tryd.ntmps28
      go_wp2_with fail
      go_region
      all_goals go_wp2_with fail
      all_goals go_ret
      all_goals exact ⟨by rw [HR'.out]; rfl, by first | exact (((Q.refl w).alloc _).alloc _).drew | exact ((((Q.refl w).alloc _).alloc _).drew).drew⟩
    · have e5 : ((p : Int) == (a : Int) - 1) = false := beq_eq_false_iff_ne.2 hs
      have HR' : Hid (inBr nk pk (decide (p + 1 = a)) = (pk != nk)) := by unfold Hid; rw [← HS.out, HR.out, decide_eq_false hs, Bool.false_or]
      clear hs
      go_enter Tryd.func28, Tryd.ntmps28
      go_wp2_with fail
      go_region
      all_goals go_wp2_with fail
      all_goals go_ret
      all_goals exact ⟨by rw [HR'.out]; rfl, by first | exact (((Q.refl w).alloc _).alloc _).drew | exact ((((Q.refl w).alloc _).alloc _).drew).drew⟩
  by_cases h5 : pk = 5
  · have HR := Lib.hid ((HE.out nk pk (decide (p + 1 = a))).2.1 hno (.inr h5))
    have e4 : (pk == 4) = false := beq_eq_false_iff_ne.2 h4
    have e45 : (pk == 5) = true := beq_iff_eq.2 h5
    rw [← HS.out] at HR
    clear h4 h5 hno
    by_cases hs : (p : Int) = (a : Int) - 1
    · have e5 : ((p : Int) == (a : Int) - 1) = true := beq_iff_eq.2 hs
      have HR' : Hid (inBr nk pk (decide (p + 1 = a)) = true) := by unfold Hid; rw [← HS.out, HR.out, decide_eq_true hs, Bool.true_or]
      clear hs
      go_enter Tryd.func28, Tryd.ntmps28
      go_wp2_with fail
      go_region
      all_goals go_wp2_with fail
      all_goals go_ret
      all_goals exact ⟨by rw [HR'.out]; rfl, by first | exact (((Q.refl w).alloc _).alloc _).drew | exact ((((Q.refl w).alloc _).alloc _).drew).drew⟩
    · have e5 : ((p : Int) == (a : Int) - 1) = false := beq_eq_false_iff_ne.2 hs
      have HR' : Hid (inBr nk pk (decide (p + 1 = a)) = (pk != nk)) := by unfold Hid; rw [← HS.out, HR.out, decide_eq_false hs, Bool.false_or]
      clear hs
      go_enter Tryd.func28, Tryd.ntmps28
      go_wp2_with fail
      go_region
      all_goals go_wp2_with fail
      all_goals go_ret
      all_goals exact ⟨by rw [HR'.out]; rfl, by first | exact (((Q.refl w).alloc _).alloc _).drew | exact ((((Q.refl w).alloc _).alloc _).drew).drew⟩
  · have HR := Lib.hid ((HE.out nk pk (decide (p + 1 = a))).2.2 hno (by omega))
    have e4 : (pk == 4) = false := beq_eq_false_iff_ne.2 h4
    have e45 : (pk == 5) = false := beq_eq_false_iff_ne.2 h5
    clear h4 h5 hno
    go_enter Tryd.func28, Tryd.ntmps28
    go_wp2_with fail
    go_region
    all_goals go_wp2_with fail
    all_goals go_ret
    all_goals exact ⟨by rw [HR.out]; rfl, by first | exact (((Q.refl w).alloc _).alloc _).drew | exact ((((Q.refl w).alloc _).alloc _).drew).drew⟩

set_option maxHeartbeats 1000000 in
theorem mayStand_any (t : Tg) (hm : mayN t = true) (w : World) :
    Calls Tryd.prog 26 #[.agg #[.int .i64 t.1, .string t.2.1, .int .i64 t.2.2]] w fun e w' => e = .returned (.bool true) ∧ Q w w' := by
  obtain ⟨k, s, n⟩ := t
  have hk := may_kinds hm
  have HM := Lib.hid hm
  clear hm
  simp only at hk
  have CC := Lib.hid (fun W : World => isCon_any s W)
  have CV := Lib.hid (fun W : World => isVar_any s W)
  have CP := Lib.hid (fun W : World => isPart_any n W)
  have emp : Hid (∀ b : Bool, (s.toList.isEmpty && b) = true → s = ⟨#[]⟩ ∧ b = true) := by
    intro b h
    rw [Bool.and_eq_true] at h
    refine ⟨?_, h.2⟩
    have := h.1
    rw [List.isEmpty_iff, ByteArray.toList_eq] at this
    exact ByteArray.ext (Array.toList_eq_nil_iff.1 this)
  have H01 : Hid (k = 0 ∨ k = 1 → s = ⟨#[]⟩ ∧ n = 0) := by
    intro h
    have hm := HM.out
    unfold mayN at hm
    rw [if_pos h] at hm
    obtain ⟨e1, e2⟩ := emp.out _ hm
    exact ⟨e1, by simpa using e2⟩
  have H2 : Hid (k = 2 → nameB 65 90 s.data.toList = true ∧ n = 0) := by
    intro h
    have hm := HM.out
    unfold mayN at hm
    rw [if_neg (by simp only; omega), if_pos h, Bool.and_eq_true] at hm
    exact ⟨hm.1, by simpa using hm.2⟩
  have H3 : Hid (k = 3 → nameB 97 122 s.data.toList = true ∧ (0 ≤ n ∧ n ≤ 8)) := by
    intro h
    have hm := HM.out
    unfold mayN at hm
    rw [if_neg (by simp only; omega), if_neg (by simp only; omega), if_pos h] at hm
    simpa using hm
  have H45 : Hid (k = 4 ∨ k = 5 → s = ⟨#[]⟩ ∧ n = 2) := by
    intro h
    have hm := HM.out
    unfold mayN at hm
    rw [if_neg (by simp only; omega), if_neg (by simp only; omega), if_neg (by simp only; omega), if_pos h] at hm
    obtain ⟨e1, e2⟩ := emp.out _ hm
    exact ⟨e1, by simpa using e2⟩
  have H6 : Hid (k = 6 → nameB 97 122 s.data.toList = true ∧ (1 ≤ n ∧ n ≤ 8)) := by
    intro h
    have hm := HM.out
    unfold mayN at hm
    rw [if_neg (by simp only; omega), if_neg (by simp only; omega), if_neg (by simp only; omega), if_neg (by simp only; omega), if_pos h] at hm
    simpa using hm
  clear HM emp
  rcases hk with rfl | rfl | rfl | rfl | rfl | rfl | rfl
  · obtain ⟨rfl, rfl⟩ := H01.out (by simp)
    go_enter Tryd.func26, Tryd.ntmps26
    go_wp2_with fail
    go_ret
    exact ⟨rfl, (Q.refl _).alloc _⟩
  · obtain ⟨rfl, rfl⟩ := H01.out (by simp)
    go_enter Tryd.func26, Tryd.ntmps26
    go_wp2_with fail
    go_ret
    exact ⟨rfl, (Q.refl _).alloc _⟩
  · obtain ⟨hv, rfl⟩ := H2.out rfl
    rw [hv] at CV
    clear hv
    go_enter Tryd.func26, Tryd.ntmps26
    go_wp2_with (go_at_call 50; refine (CV.out _).mono ?_; rintro e w1 ⟨rfl, q1⟩)
    go_ret
    exact ⟨rfl, ((Q.refl _).alloc _).trans q1⟩
  · obtain ⟨hc, h0, h8⟩ := H3.out rfl
    rw [hc] at CC
    have hp : ¬ n = 0 → partB n = true := fun h => by simp [partB]; omega
    clear hc
    by_cases hn : n = 0
    · subst hn
      go_enter Tryd.func26, Tryd.ntmps26
      go_wp2_with (go_at_call 51; refine (CC.out _).mono ?_; rintro e w1 ⟨rfl, q1⟩)
      go_ret
      exact ⟨rfl, ((Q.refl _).alloc _).trans q1⟩
    · rw [hp hn] at CP
      have en : (n == 0) = false := beq_eq_false_iff_ne.2 hn
      clear hp hn
      go_enter Tryd.func26, Tryd.ntmps26
      go_wp2_with (first | (go_at_call 51; refine (CC.out _).mono ?_; rintro e w1 ⟨rfl, q1⟩) | (go_at_call 56; refine (CP.out _).mono ?_; rintro e w1 ⟨rfl, rfl⟩))
      go_ret
      exact ⟨rfl, ((Q.refl _).alloc _).trans q1⟩
  · obtain ⟨rfl, rfl⟩ := H45.out (by simp)
    go_enter Tryd.func26, Tryd.ntmps26
    go_wp2_with fail
    go_ret
    exact ⟨rfl, (Q.refl _).alloc _⟩
  · obtain ⟨rfl, rfl⟩ := H45.out (by simp)
    go_enter Tryd.func26, Tryd.ntmps26
    go_wp2_with fail
    go_ret
    exact ⟨rfl, (Q.refl _).alloc _⟩
  · obtain ⟨hc, h0, h8⟩ := H6.out rfl
    have hp : partB n = true := by simp [partB]; omega
    rw [hc] at CC
    rw [hp] at CP
    clear hc hp
    go_enter Tryd.func26, Tryd.ntmps26
    go_wp2_with (first | (go_at_call 51; refine (CC.out _).mono ?_; rintro e w1 ⟨rfl, q1⟩) | (go_at_call 56; refine (CP.out _).mono ?_; rintro e w1 ⟨rfl, rfl⟩))
    go_ret
    exact ⟨rfl, ((Q.refl _).alloc _).trans q1⟩
end Go.Proofs.YtmbdbmjnibfmgaaDoor.Ex
