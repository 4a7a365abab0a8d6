/-
  Contracts: the document's Text, and Few.
-/
import Derived.Test.YtanbhfhhomopfaaDoorLexG
namespace Go.Proofs.YtanbhfhhomopfaaDoor.Lx
open Go.RowKit Kit Rw

theorem joinTail_snoc (sep y : List UInt8) (r : List (List UInt8)) : Lib.joinTail sep (r ++ [y]) = Lib.joinTail sep r ++ (sep ++ y) := by
  simp [Lib.joinTail]
theorem join_snoc (sep y : List UInt8) (r : List (List UInt8)) (h : r ≠ []) : Lib.join (r ++ [y]) sep = Lib.join r sep ++ (sep ++ y) := by
  cases r with
  | nil => exact absurd rfl h
  | cons x r => rw [List.cons_append, Lib.join_cons, Lib.join_cons, joinTail_snoc, List.append_assoc]
theorem joinT_next (l : List Tg) (k : Nat) (h : k < l.length) (h0 : 0 < k) : joinT (l.take (k + 1)) = joinT (l.take k) ++ ([32] ++ l[k].2.1.data.toList) := by
  unfold joinT
  rw [List.take_succ_eq_append_getElem h, List.map_append, List.map_cons, List.map_nil, join_snoc]
  intro e
  have := congrArg List.length e
  rw [List.length_map, List.length_take, List.length_nil] at this
  omega
theorem joinT_first (l : List Tg) (h : 0 < l.length) : joinT (l.take 1) = l[0].2.1.data.toList := by
  unfold joinT
  rw [List.take_succ_eq_append_getElem h]
  exact Lib.join_one _ _
theorem bs_app (a : List UInt8) (b : ByteArray) : bs a ++ b = bs (a ++ b.data.toList) := by
  apply ByteArray.ext; simp [bs]

def total : List Tg → Nat
  | [] => 0
  | t :: l => 1 + t.2.1.size + total l
theorem total_next (l : List Tg) (k : Nat) (h : k < l.length) : total (l.take (k + 1)) = total (l.take k) + 1 + l[k].2.1.size := by
  rw [List.take_succ_eq_append_getElem h]
  have : ∀ (a : List Tg) (t : Tg), total (a ++ [t]) = total a + 1 + t.2.1.size := fun a t => by
    induction a with
    | nil => simp [total]
    | cons x a ih => simp only [List.cons_append, total, ih]; omega
  exact this _ _
theorem total_take (l : List Tg) (k : Nat) : total (l.take k) ≤ total l := by
  induction l generalizing k with
  | nil => simp
  | cons x l ih =>
    cases k with
    | zero => simp [total]
    | succ k => simp only [List.take_succ_cons, total]; have := ih k; omega
theorem total_ge (l : List Tg) : l.length ≤ total l := by
  induction l with
  | nil => simp
  | cons x l ih => simp only [List.length_cons, total]; omega
theorem joinT_le (l : List Tg) : (joinT l).length ≤ total l := by
  cases l with
  | nil => simp [joinT, Lib.join, total, List.intercalate]
  | cons x l =>
    unfold joinT
    rw [List.map_cons, Lib.join_cons]
    have : (Lib.joinTail [32] (l.map fun t => t.2.1.data.toList)).length = total l := by
      clear x
      induction l with
      | nil => rfl
      | cons y l ih =>
        simp only [List.map_cons, Lib.joinTail, List.flatten_cons, List.length_append, total] at ih ⊢
        rw [ih]
        simp
    rw [List.length_append, this]
    simp [total]

set_option maxRecDepth 100000 in
set_option maxHeartbeats 1000000 in
theorem refText_any (A : Option Addr) (n c : Nat) (l : List Tg) (w : World) (hn : n = l.length) (hr : Rds w w.heap.size A (cellsG l)) (hl : total l ≤ 1000000) :
    Calls Tryd.prog 18 #[.slice A n c] w fun e w' => e = .returned (.string (bs (joinT l))) ∧ Q w w' := by
  subst hn
  have HR := Lib.hid hr
  have HT : Hid (∀ k, (joinT (l.take k)).length ≤ 1000000) := fun k => Nat.le_trans (joinT_le _) (Nat.le_trans (total_take l k) hl)
  have HA : Hid (∀ (v : List UInt8) (x : ByteArray) (u : World), v.length + x.size ≤ 3000000 → (Op.stringOp .add (bs v) x).run Tryd.prog u = .ok (.string (bs (v ++ x.data.toList))) u) := fun v x u h => by
    rw [← bs_app]; exact run_string_add_sum (P := Tryd.prog) u _ _ (by rw [bs_size]; omega)
  have hn := Nat.le_trans (total_ge l) hl
  have HT2 : Hid (∀ k (h : k < l.length), l[k].2.1.size ≤ 1000000) := fun k h => by
    have h1 := total_next l k h
    have h2 := total_take l (k + 1)
    omega
  clear hr hl
  go_enter Tryd.func18, Tryd.ntmps18
  go_wp2_with fail
  go_loopw [3, 4] (fun s i wr => ∃ (k : Nat) (v : List UInt8), k ≤ l.length ∧ i = .int .i64 k ∧ s = .string (bs v) ∧ Hid (v = joinT (l.take k)) ∧ Hid (Q w wr)) (fun _ i _ => l.length - (intOf i).toNat)
  case atStart => exact ⟨0, [], Nat.zero_le _, rfl, rfl, Lib.hid rfl, Lib.hid (Q.refl w)⟩
  case round =>
    obtain ⟨k, v, hk, rfl, rfl, HV, HQ⟩ := hrel
    by_cases hlt : k < l.length
    · obtain ⟨ad, rfl, hb, c0, c1, c2⟩ := tok_at (HR.out.q HQ.out) hlt
      by_cases h0 : 0 < k
      · have HN : Hid (v ++ [32] ++ l[k].2.1.data.toList = joinT (l.take (k + 1))) := by unfold Hid; rw [joinT_next l k hlt h0, HV.out, List.append_assoc]
        have d0 : decide (0 < (k : Int)) = true := decide_eq_true (by omega)
        have hv := HT.out k
        rw [← HV.out] at hv
        have a1 := fun u => HA.out v ⟨#[32]⟩ u (by show v.length + 1 ≤ _; omega)
        have a2 := fun u => HA.out (v ++ [32]) l[k].2.1 u (by rw [List.length_append, List.length_singleton]; have := HT2.out k hlt; omega)
        have e1 : v ++ (⟨#[32]⟩ : ByteArray).data.toList = v ++ [32] := rfl
        rw [e1] at a1
        clear hv
        go_wp2_with fail
        go_roundw
        case rel => exact ⟨k + 1, v ++ [32] ++ l[k].2.1.data.toList, by omega, by go_num, by simp, HN, HQ⟩
        case measure => simp [intOf]; omega
      · have HN : Hid (v ++ l[k].2.1.data.toList = joinT (l.take (k + 1))) := by
          unfold Hid
          have hk0 : k = 0 := by omega
          subst hk0
          have e : v = [] := HV.out
          rw [joinT_first l hlt, e, List.nil_append]
        have d0 : decide (0 < (k : Int)) = false := decide_eq_false (by omega)
        have hv := HT.out k
        rw [← HV.out] at hv
        have a1 := fun u => HA.out v l[k].2.1 u (by have := HT2.out k hlt; omega)
        clear hv
        go_wp2_with fail
        go_roundw
        case rel => exact ⟨k + 1, v ++ l[k].2.1.data.toList, by omega, by go_num, by first | rfl | trivial, HN, HQ⟩
        case measure => simp [intOf]; omega
    · have HE : Hid (joinT l = v) := by unfold Hid; rw [HV.out, List.take_of_length_le (by omega)]
      go_wp2_with fail
      go_ret
      exact ⟨by rw [HE.out]; rfl, HQ.out⟩

set_option maxRecDepth 100000 in
set_option maxHeartbeats 1000000 in
theorem few_any (A : Option Addr) (n c : Nat) (l : List Tg) (w : World) (hn : n = l.length) (hr : Rds w w.heap.size A (cellsG l)) (hl : l.length ≤ 140737488355328) (hz : ∀ t ∈ l, t.2.1.size ≤ 140737488355328) :
    Calls Tryd.prog 14 #[.slice A n c] w fun e w' => e = .returned (.bool (decide (total l ≤ 2500))) ∧ Q w w' := by
  subst hn
  have HR := Lib.hid hr
  have HZ := Lib.hid hz
  clear hr hz
  go_enter Tryd.func14, Tryd.ntmps14
  go_wp2_with fail
  go_loopw [3, 4] (fun s i wr => ∃ (k m : Nat), k ≤ l.length ∧ i = .int .i64 k ∧ s = .int .i64 m ∧ m ≤ 2500 ∧ Hid (m = total (l.take k)) ∧ Hid (Q w wr)) (fun _ i _ => l.length - (intOf i).toNat)
  case atStart => exact ⟨0, 0, Nat.zero_le _, rfl, rfl, by omega, Lib.hid rfl, Lib.hid (Q.refl w)⟩
  case round =>
    obtain ⟨k, m, hk, rfl, rfl, hm, HV, HQ⟩ := hrel
    by_cases hlt : k < l.length
    · obtain ⟨ad, rfl, hb, c0, c1, c2⟩ := tok_at (HR.out.q HQ.out) hlt
      have hsz := HZ.out l[k] (List.getElem_mem hlt)
      have HN := Lib.hid (total_next l k hlt)
      have HT := Lib.hid (total_take l (k + 1))
      generalize l[k].2.1 = x at *
      by_cases h : 2500 < m + 1 + x.size
      · have HE : Hid (decide (total l ≤ 2500) = false) := by
          unfold Hid
          have := HN.out
          have := HT.out
          have := HV.out
          exact decide_eq_false (by omega)
        have d0 : decide (2500 < ((m + 1 + x.size : Nat) : Int)) = true := decide_eq_true (by omega)
        have d1 : decide (2500 < (m : Int) + 1 + (x.size : Int)) = true := decide_eq_true (by omega)
        go_wp2_with fail
        go_ret
        exact ⟨by rw [HE.out]; rfl, HQ.out⟩
      · have d0 : decide (2500 < ((m + 1 + x.size : Nat) : Int)) = false := decide_eq_false (by omega)
        have d1 : decide (2500 < (m : Int) + 1 + (x.size : Int)) = false := decide_eq_false (by omega)
        go_wp2_with fail
        go_roundw
        case rel => exact ⟨k + 1, m + 1 + x.size, by omega, by go_num, by first | rfl | go_num, by omega, by unfold Hid; have := HN.out; have := HV.out; omega, HQ⟩
        case measure => simp [intOf]; omega
    · have HE : Hid (decide (total l ≤ 2500) = true) := by
        unfold Hid
        have := HV.out
        rw [List.take_of_length_le (by omega)] at this
        exact decide_eq_true (by omega)
      go_wp2_with fail
      go_ret
      exact ⟨by rw [HE.out]; rfl, HQ.out⟩
end Go.Proofs.YtanbhfhhomopfaaDoor.Lx
