/-
  Contracts: isPlace, the order's closures, Less (the program's and the document's), up.
-/
import Derived.Test.YtodmompfnlcjpaaUfA
import Derived.Test.YtodmompfnlcjpaaTrailJ
import Derived.Test.YtodmompfnlcjpaaTrailO
import Derived.Laws.EntriesVeiled
namespace Go.Proofs.Ytodmompfnlcjpaa.Uf
open Go.RowKit Kit Tr

theorem placeU (a m : Int) (w : World) : Calls Try.prog 27 #[.int .i64 a, .int .i64 m] w fun e w' => e = .returned (.bool (decide (0 ≤ a) && decide (a < m))) ∧ w = w' := by
  by_cases h : 0 ≤ a
  · have hd : decide (0 ≤ a) = true := decide_eq_true h
    rw [hd]
    go_enter Try.func27, Try.ntmps27
    go_wp2_with fail
    go_ret
    exact ⟨rfl, rfl⟩
  · have hd : decide (0 ≤ a) = false := decide_eq_false h
    rw [hd]
    go_enter Try.func27, Try.ntmps27
    go_wp2_with fail
    go_ret
    exact ⟨rfl, rfl⟩

/-- the rank, in a box -/
theorem rank_any (R : List Int) (A : Option Addr) (c B : Nat) (n : Int) (w : World) (hb : w.cell? ⟨B, 0, none⟩ = some (.slice A R.length c)) (hr : Rds w w.heap.size A (cellsI R)) :
    Calls Try.prog 46 #[.int .i64 n, .pointer (some ⟨B, 0, none⟩)] w fun e w' => e = .returned (.int .i64 (rk R n)) ∧ w = w' := by
  by_cases h : 0 ≤ n ∧ n < R.length
  · obtain ⟨k, rfl⟩ := Int.eq_ofNat_of_zero_le h.1
    have hk : k < R.length := by omega
    have HR : Hid (rk R (k : Int) = R[k]) := by unfold Hid rk; rw [if_pos h]; simp [hk]
    obtain ⟨ad, e, _, c0⟩ := hr.int_at hk
    rw [e] at hb
    have hd : (decide (0 ≤ (k : Int)) && decide ((k : Int) < (R.length : Int))) = true := by rw [decide_eq_true h.1, decide_eq_true h.2]; rfl
    clear h e hr
    go_enter Try.func46, Try.ntmps46
    go_wp2_with (go_at_call 27; refine (placeU _ _ _).mono ?_; rintro e w2 ⟨rfl, rfl⟩; rw [hd])
    go_ret
    exact ⟨by rw [HR.out]; rfl, rfl⟩
  · have HR : Hid (rk R n = 0) := by unfold Hid rk; rw [if_neg h]
    have hd : (decide (0 ≤ n) && decide (n < (R.length : Int))) = false := by
      by_cases e : 0 ≤ n
      · rw [decide_eq_false (fun k => h ⟨e, k⟩), Bool.and_false]
      · rw [decide_eq_false e]; rfl
    clear h hr
    go_enter Try.func46, Try.ntmps46
    go_wp2_with (go_at_call 27; refine (placeU _ _ _).mono ?_; rintro e w2 ⟨rfl, rfl⟩; rw [hd])
    go_ret
    exact ⟨by rw [HR.out]; rfl, rfl⟩

set_option maxHeartbeats 1000000 in
/-- the order, over its rank -/
theorem ahead_any (R : List Int) (A : Option Addr) (c B F : Nat) (a b : Int) (w : World) (hf : w.cell? ⟨F, 0, none⟩ = some (.func (.func 46) #[] #[.pointer (some ⟨B, 0, none⟩)])) (hb : w.cell? ⟨B, 0, none⟩ = some (.slice A R.length c)) (hr : Rds w w.heap.size A (cellsI R)) :
    Calls Try.prog 47 #[.int .i64 a, .int .i64 b, .pointer (some ⟨F, 0, none⟩)] w fun e w' => e = .returned (.bool (lessB R a b)) ∧ ∃ d, w' = w.drewN d := by
  have C0 : Hid (∀ (x : Int) (n : Nat), Calls Try.prog 46 #[.int .i64 x, .pointer (some ⟨B, 0, none⟩)] (w.drewN n) fun e w' => e = .returned (.int .i64 (rk R x)) ∧ w' = w.drewN n) := fun x n =>
    (rank_any R A c B x (w.drewN n) hb hr).mono (by rintro e w' ⟨rfl, rfl⟩; exact ⟨rfl, rfl⟩)
  by_cases h : rk R a = rk R b
  · have HR : Hid (lessB R a b = decide (a < b)) := by unfold Hid lessB; rw [if_pos h]
    have hne : (rk R a != rk R b) = false := by rw [h]; simp
    clear h
    go_enter Try.func47, Try.ntmps47
    go_wp2_with fail
    go_quiet (first | (go_at_call 46; exact Calls.quiet_of_same (C0.out _ _)))
    go_wp2_with fail
    go_ret
    exact ⟨by rw [HR.out]; rfl, _, rfl⟩
  · have HR : Hid (lessB R a b = decide (rk R a < rk R b)) := by unfold Hid lessB; rw [if_neg h]
    have hne : (rk R a != rk R b) = true := by simpa using h
    clear h
    go_enter Try.func47, Try.ntmps47
    go_wp2_with fail
    go_quiet (first | (go_at_call 46; exact Calls.quiet_of_same (C0.out _ _)))
    go_wp2_with fail
    obtain ⟨W1, hW1⟩ : ∃ W1, W1 = w.drewN nq := ⟨_, rfl⟩
    have hf1 : W1.cell? ⟨F, 0, none⟩ = some (.func (.func 46) #[] #[.pointer (some ⟨B, 0, none⟩)]) := by rw [hW1]; exact hf
    have C : Hid (∀ (x : Int) (n : Nat), Calls Try.prog 46 #[.int .i64 x, .pointer (some ⟨B, 0, none⟩)] (W1.drewN n) fun e w' => e = .returned (.int .i64 (rk R x)) ∧ w' = W1.drewN n) := by rw [hW1]; exact fun x n => (rank_any R A c B x ((w.drewN nq).drewN n) hb hr).mono (by rintro e w' ⟨rfl, rfl⟩; exact ⟨rfl, rfl⟩)
    rw [← hW1]
    have HW1 := Lib.hid hW1
    clear hW1 hf
    go_quiet (first | (go_at_call 46; exact Calls.quiet_of_same (C.out _ _)))
    go_wp2_with fail
    go_ret
    exact ⟨by rw [HR.out]; rfl, by rw [HW1.out, drewN_add]; exact ⟨_, rfl⟩⟩

/-- the closures of the ranks, made -/
def twoF (w : World) (A : Option Addr) (n c : Nat) : World := (w.alloc (.cells #[.slice A n c] 22)).alloc (.cells #[.func (.func 46) #[] #[.pointer (some ⟨w.heap.size, 0, none⟩)]] 68)
theorem order_any (A : Option Addr) (n c : Nat) (w : World) : Calls Try.prog 31 #[.slice A n c] w fun e w' => e = .returned (.func (.func 47) #[] #[.pointer (some ⟨w.heap.size + 1, 0, none⟩)]) ∧ w' = twoF w A n c := by
  go_enter Try.func31, Try.ntmps31
  go_wp2_with fail
  go_ret
  exact ⟨rfl, rfl⟩
theorem twoF_q (w : World) (A : Option Addr) (n c : Nat) : Q w (twoF w A n c) := ((Q.refl w).alloc _).alloc _
/-- the order's closure, wherever its boxes are -/
theorem aheadF (R : List Int) (A : Option Addr) (n c : Nat) (hn : n = R.length) (a b : Int) (w W : World) (hr : Rds w w.heap.size A (cellsI R)) (q : Q (twoF w A n c) W) :
    Calls Try.prog 47 #[.int .i64 a, .int .i64 b, .pointer (some ⟨w.heap.size + 1, 0, none⟩)] W fun e w' => e = .returned (.bool (lessB R a b)) ∧ ∃ d, w' = W.drewN d := by
  subst hn
  have h1 : (twoF w A R.length c).cell? ⟨w.heap.size + 1, 0, none⟩ = some (.func (.func 46) #[] #[.pointer (some ⟨w.heap.size, 0, none⟩)]) := by unfold twoF; rw [← World.size_alloc w (.cells #[.slice A R.length c] 22)]; simp
  have h0 : (twoF w A R.length c).cell? ⟨w.heap.size, 0, none⟩ = some (.slice A R.length c) := by unfold twoF; simp
  exact ahead_any R A c w.heap.size (w.heap.size + 1) a b W ((q.cell (p := ⟨w.heap.size + 1, 0, none⟩) (by unfold twoF; simp)).trans h1) ((q.cell (p := ⟨w.heap.size, 0, none⟩) (by unfold twoF; simp; omega)).trans h0) (hr.q ((twoF_q w A R.length c).trans q))

theorem less_any (R : List Int) (A : Option Addr) (n c : Nat) (a b : Int) (w : World) (hn : n = R.length) (hr : Rds w w.heap.size A (cellsI R)) :
    Calls Try.prog 15 #[.slice A n c, .int .i64 a, .int .i64 b] w fun e w' => e = .returned (.bool (lessB R a b)) ∧ Q w w' := by
  have C := Lib.hid (aheadF R A n c hn a b w _ hr (Q.refl _))
  have q := twoF_q w A n c
  subst hn
  clear hr
  go_enter Try.func15, Try.ntmps15
  go_wp2_with fail
  refine (order_any _ _ _ _).mono ?_
  rintro e w1 ⟨rfl, rfl⟩
  generalize twoF w A R.length c = W at *
  go_wp2_with fail
  refine C.out.mono ?_
  rintro e w1 ⟨rfl, hd⟩
  go_wp2_with fail
  go_ret
  exact ⟨rfl, q.trans (q_drewN _ hd)⟩

set_option maxHeartbeats 2000000 in
/-- the document's order -/
theorem refLess_any (R : List Int) (A : Option Addr) (n c : Nat) (a b : Int) (w : World) (hn : n = R.length) (hr : Rds w w.heap.size A (cellsI R)) :
    Calls Try.prog 25 #[.slice A n c, .int .i64 a, .int .i64 b] w fun e w' => e = .returned (.bool (lessB R a b)) ∧ w = w' := by
  subst hn
  have H : ∀ x : Int, (0 ≤ x ∧ x < R.length) ∨ ¬ 0 ≤ x ∨ (0 ≤ x ∧ ¬ x < R.length) := fun x => by omega
  have HR : Hid (lessB R a b = if rk R a = rk R b then decide (a < b) else decide (rk R a < rk R b)) := Lib.hid rfl
  rcases H a with ha | ha | ha
  · have Hb := H b
    clear H
    obtain ⟨i, rfl⟩ := Int.eq_ofNat_of_zero_le ha.1
    have hi : i < R.length := by omega
    have ea : rk R (i : Int) = R[i] := by unfold rk; rw [if_pos ha]; simp [hi]
    have a1 : decide ((0 : Int) ≤ (i : Int)) = true := decide_eq_true ha.1
    have a2 : decide (i < R.length) = true := decide_eq_true hi
    rcases Hb with hb | hb | hb
    · obtain ⟨j, rfl⟩ := Int.eq_ofNat_of_zero_le hb.1
      have hj : j < R.length := by omega
      have eb : rk R (j : Int) = R[j] := by unfold rk; rw [if_pos hb]; simp [hj]
      have b1 : decide ((0 : Int) ≤ (j : Int)) = true := decide_eq_true hb.1
      have b2 : decide (j < R.length) = true := decide_eq_true hj
      obtain ⟨ad, e, _, c0⟩ := hr.int_at hi
      subst e
      have c1 := hr.int_some hj
      rw [ea, eb] at HR
      clear hr ea eb ha hb
      generalize R[i] = x at *
      generalize R[j] = y at *
      by_cases h : x = y
      · rw [if_pos h] at HR
        have hne : (x != y) = false := by rw [h]; simp
        clear h
        go_enter Try.func25, Try.ntmps25
        go_wp2_with fail
        go_ret
        exact ⟨by rw [HR.out]; first | rfl | simp, rfl⟩
      · rw [if_neg h] at HR
        have hne : (x != y) = true := by simpa using h
        clear h
        go_enter Try.func25, Try.ntmps25
        go_wp2_with fail
        go_ret
        exact ⟨by rw [HR.out]; first | rfl | simp, rfl⟩
    · have eb : rk R b = 0 := by unfold rk; rw [if_neg (fun k => hb k.1)]
      have b1 : decide ((0 : Int) ≤ b) = false := decide_eq_false hb
      obtain ⟨ad, e, _, c0⟩ := hr.int_at hi
      subst e
      rw [ea, eb] at HR
      clear hr ea eb ha hb
      generalize R[i] = x at *
      by_cases h : x = (0 : Int)
      · rw [if_pos h] at HR
        have hne : (x != (0 : Int)) = false := by rw [h]; simp
        clear h
        go_enter Try.func25, Try.ntmps25
        go_wp2_with fail
        go_ret
        exact ⟨by rw [HR.out]; first | rfl | simp, rfl⟩
      · rw [if_neg h] at HR
        have hne : (x != (0 : Int)) = true := by simpa using h
        clear h
        go_enter Try.func25, Try.ntmps25
        go_wp2_with fail
        go_ret
        exact ⟨by rw [HR.out]; first | rfl | simp, rfl⟩
    · have eb : rk R b = 0 := by unfold rk; rw [if_neg (fun k => hb.2 k.2)]
      have b1 : decide ((0 : Int) ≤ b) = true := decide_eq_true hb.1
      have b2 : decide (b < (R.length : Int)) = false := decide_eq_false hb.2
      obtain ⟨ad, e, _, c0⟩ := hr.int_at hi
      subst e
      rw [ea, eb] at HR
      clear hr ea eb ha hb
      generalize R[i] = x at *
      by_cases h : x = (0 : Int)
      · rw [if_pos h] at HR
        have hne : (x != (0 : Int)) = false := by rw [h]; simp
        clear h
        go_enter Try.func25, Try.ntmps25
        go_wp2_with fail
        go_ret
        exact ⟨by rw [HR.out]; first | rfl | simp, rfl⟩
      · rw [if_neg h] at HR
        have hne : (x != (0 : Int)) = true := by simpa using h
        clear h
        go_enter Try.func25, Try.ntmps25
        go_wp2_with fail
        go_ret
        exact ⟨by rw [HR.out]; first | rfl | simp, rfl⟩
  · have Hb := H b
    clear H
    have ea : rk R a = 0 := by unfold rk; rw [if_neg (fun k => ha k.1)]
    have a1 : decide ((0 : Int) ≤ a) = false := decide_eq_false ha
    rcases Hb with hb | hb | hb
    · obtain ⟨j, rfl⟩ := Int.eq_ofNat_of_zero_le hb.1
      have hj : j < R.length := by omega
      have eb : rk R (j : Int) = R[j] := by unfold rk; rw [if_pos hb]; simp [hj]
      have b1 : decide ((0 : Int) ≤ (j : Int)) = true := decide_eq_true hb.1
      have b2 : decide (j < R.length) = true := decide_eq_true hj
      obtain ⟨ad, e, _, c1⟩ := hr.int_at hj
      subst e
      rw [ea, eb] at HR
      clear hr ea eb ha hb
      generalize R[j] = y at *
      by_cases h : (0 : Int) = y
      · rw [if_pos h] at HR
        have hne : ((0 : Int) != y) = false := by rw [h]; simp
        clear h
        go_enter Try.func25, Try.ntmps25
        go_wp2_with fail
        go_ret
        exact ⟨by rw [HR.out]; first | rfl | simp, rfl⟩
      · rw [if_neg h] at HR
        have hne : ((0 : Int) != y) = true := by simpa using h
        clear h
        go_enter Try.func25, Try.ntmps25
        go_wp2_with fail
        go_ret
        exact ⟨by rw [HR.out]; first | rfl | simp, rfl⟩
    · have eb : rk R b = 0 := by unfold rk; rw [if_neg (fun k => hb k.1)]
      have b1 : decide ((0 : Int) ≤ b) = false := decide_eq_false hb
      rw [ea, eb] at HR
      clear hr ea eb ha hb
      rw [if_pos rfl] at HR
      go_enter Try.func25, Try.ntmps25
      go_wp2_with fail
      go_ret
      exact ⟨by rw [HR.out]; first | rfl | simp, rfl⟩
    · have eb : rk R b = 0 := by unfold rk; rw [if_neg (fun k => hb.2 k.2)]
      have b1 : decide ((0 : Int) ≤ b) = true := decide_eq_true hb.1
      have b2 : decide (b < (R.length : Int)) = false := decide_eq_false hb.2
      rw [ea, eb] at HR
      clear hr ea eb ha hb
      rw [if_pos rfl] at HR
      go_enter Try.func25, Try.ntmps25
      go_wp2_with fail
      go_ret
      exact ⟨by rw [HR.out]; first | rfl | simp, rfl⟩
  · have Hb := H b
    clear H
    have ea : rk R a = 0 := by unfold rk; rw [if_neg (fun k => ha.2 k.2)]
    have a1 : decide ((0 : Int) ≤ a) = true := decide_eq_true ha.1
    have a2 : decide (a < (R.length : Int)) = false := decide_eq_false ha.2
    rcases Hb with hb | hb | hb
    · obtain ⟨j, rfl⟩ := Int.eq_ofNat_of_zero_le hb.1
      have hj : j < R.length := by omega
      have eb : rk R (j : Int) = R[j] := by unfold rk; rw [if_pos hb]; simp [hj]
      have b1 : decide ((0 : Int) ≤ (j : Int)) = true := decide_eq_true hb.1
      have b2 : decide (j < R.length) = true := decide_eq_true hj
      obtain ⟨ad, e, _, c1⟩ := hr.int_at hj
      subst e
      rw [ea, eb] at HR
      clear hr ea eb ha hb
      generalize R[j] = y at *
      by_cases h : (0 : Int) = y
      · rw [if_pos h] at HR
        have hne : ((0 : Int) != y) = false := by rw [h]; simp
        clear h
        go_enter Try.func25, Try.ntmps25
        go_wp2_with fail
        go_ret
        exact ⟨by rw [HR.out]; first | rfl | simp, rfl⟩
      · rw [if_neg h] at HR
        have hne : ((0 : Int) != y) = true := by simpa using h
        clear h
        go_enter Try.func25, Try.ntmps25
        go_wp2_with fail
        go_ret
        exact ⟨by rw [HR.out]; first | rfl | simp, rfl⟩
    · have eb : rk R b = 0 := by unfold rk; rw [if_neg (fun k => hb k.1)]
      have b1 : decide ((0 : Int) ≤ b) = false := decide_eq_false hb
      rw [ea, eb] at HR
      clear hr ea eb ha hb
      rw [if_pos rfl] at HR
      go_enter Try.func25, Try.ntmps25
      go_wp2_with fail
      go_ret
      exact ⟨by rw [HR.out]; first | rfl | simp, rfl⟩
    · have eb : rk R b = 0 := by unfold rk; rw [if_neg (fun k => hb.2 k.2)]
      have b1 : decide ((0 : Int) ≤ b) = true := decide_eq_true hb.1
      have b2 : decide (b < (R.length : Int)) = false := decide_eq_false hb.2
      rw [ea, eb] at HR
      clear hr ea eb ha hb
      rw [if_pos rfl] at HR
      go_enter Try.func25, Try.ntmps25
      go_wp2_with fail
      go_ret
      exact ⟨by rw [HR.out]; first | rfl | simp, rfl⟩

theorem upU (V : List Int) (A : Option Addr) (n c m : Nat) (w : World) (hn : n = V.length) (hr : Rds w w.heap.size A (cellsI V)) (hm : m < V.length) (p : Nat) (hp : V[m]? = some (p : Int)) (hpl : p < V.length) :
    Calls Try.prog 30 #[.slice A n c, .int .i64 (m : Int)] w fun e w' => e = .returned (.int .i64 (p : Int)) ∧ w = w' := by
  subst hn
  obtain ⟨ad, rfl, _, c0⟩ := hr.int_at hm
  obtain ⟨_, hp'⟩ := List.getElem?_eq_some_iff.1 hp
  rw [hp'] at c0
  have h0 : (0 : Int) ≤ (m : Int) := by omega
  have h1 : (m : Int) < (V.length : Int) := by omega
  have hd : (decide (0 ≤ (m : Int)) && decide ((m : Int) < (V.length : Int))) = true := by rw [decide_eq_true h0, decide_eq_true h1]; rfl
  have hd2 : (decide (0 ≤ (p : Int)) && decide ((p : Int) < (V.length : Int))) = true := by rw [decide_eq_true (show (0 : Int) ≤ (p : Int) by omega), decide_eq_true (show (p : Int) < (V.length : Int) by omega)]; rfl
  clear hr hp hp'
  go_enter Try.func30, Try.ntmps30
  go_wp2_with (go_at_call 27; refine (placeU _ _ _).mono ?_; rintro e w2 ⟨rfl, rfl⟩; first | rw [hd] | rw [hd2])
  go_ret
  exact ⟨rfl, rfl⟩
end Go.Proofs.Ytodmompfnlcjpaa.Uf
