/-
  Contracts of the document's answers: are rows the same, where a key stands, which tables are right, and with a key more.
-/
import Derived.Test.YtgnbempkobgeiaaHashH
import Derived.Test.YtgnbempkobgeiaaHashT
namespace Go.Proofs.Ytgnbempkobgeiaa.Hs
open Go.RowKit Kit

set_option maxHeartbeats 400000 in
theorem refInts_any (A B : Option Addr) (n c n' c' : Nat) (l m : List Int) (w : World) (hn : n = l.length) (hn' : n' = m.length) (hr : Ints w w.heap.size A l) (hr' : Ints w w.heap.size B m) (hl : l.length ≤ maxLen) :
    Calls Try.prog 14 #[.slice A n c, .slice B n' c'] w fun e w' => e = .returned (.bool (eqL l m)) ∧ ∃ d, w' = w.drewN d := by
  subst hn
  subst hn'
  unfold maxLen at hl
  by_cases hlen : l.length = m.length
  · have HE := Lib.hid hlen
    have hne : ((l.length : Int) != (m.length : Int)) = false := by simp [hlen]
    clear hlen
    go_enter Try.func14, Try.ntmps14
    go_wp2_with fail
    go_loopw [5] (fun i wr => ∃ k : Nat, k ≤ l.length ∧ i = .int .i64 k ∧ Hid (eqL l m = eqL (l.drop k) (m.drop k)) ∧ ∃ d, wr = w.drewN d) (fun i _ => l.length - (intOf i).toNat)
    case atStart => exact ⟨0, Nat.zero_le _, rfl, Lib.hid (by simp), 0, rfl⟩
    case round =>
      obtain ⟨k, hk, rfl, HF, d, rfl⟩ := hrel
      by_cases hlt : k < l.length
      · have hlt' : k < m.length := by have := HE.out; omega
        obtain ⟨ad, rfl, hb, c0⟩ := hr.at_ hlt
        obtain ⟨ad', rfl, hb', c0'⟩ := hr'.at_ hlt'
        have HS := Lib.hid (eqL_at l m k hlt hlt')
        clear hr hr'
        cases he : (l[k] == m[k])
        · have HS' : Hid (eqL (l.drop k) (m.drop k) = false) := by have := HS.out; rw [he] at this; exact this
          have he' : (l[k] != m[k]) = true := by simpa using he
          clear he
          go_wp2_with fail
          go_region
          all_goals go_wp2_with fail
          all_goals go_ret
          all_goals exact ⟨by rw [HF.out, HS'.out]; rfl, d + 1, rfl⟩
        · have HS' : Hid (eqL (l.drop k) (m.drop k) = eqL (l.drop (k + 1)) (m.drop (k + 1))) := by have := HS.out; rw [he] at this; exact this
          have he' : (l[k] != m[k]) = false := by simpa using he
          clear he
          go_wp2_with fail
          go_region
          all_goals go_wp2_with fail
          all_goals go_roundw
          case rel => exact ⟨k + 1, by omega, by go_num, Lib.hid (HF.out.trans HS'.out), d + 1, rfl⟩
          case measure => simp [intOf]; omega
      · have HS := Lib.hid (eqL_end l m k (by omega) (by have := HE.out; omega))
        go_wp2_with fail
        go_ret
        exact ⟨by rw [HF.out, HS.out]; rfl, d, rfl⟩
  · have hne : ((l.length : Int) != (m.length : Int)) = true := by simp; omega
    have HS := Lib.hid (eqL_len hlen)
    go_enter Try.func14, Try.ntmps14
    go_wp2_with fail
    go_ret
    exact ⟨by rw [HS.out]; rfl, 0, rfl⟩

/-! ### rows of rows -/
theorem drewN_add' (w : World) (a b : Nat) : (w.drewN a).drewN b = w.drewN (a + b) := by simp [World.drewN, Nat.add_assoc]

def rowsB : List (List Int) → List (List Int) → Bool
  | [], [] => true
  | x :: l, y :: m => eqL x y && rowsB l m
  | _, _ => false
theorem rowsB_iff : ∀ (l m : List (List Int)), rowsB l m = true ↔ l = m
  | [], [] => by simp [rowsB]
  | [], _ :: _ => by simp [rowsB]
  | _ :: _, [] => by simp [rowsB]
  | x :: l, y :: m => by simp [rowsB, rowsB_iff l m, eqL_iff]
theorem rowsB_len {l m : List (List Int)} (h : l.length ≠ m.length) : rowsB l m = false := by
  cases e : rowsB l m
  · rfl
  · rw [rowsB_iff] at e; subst e; exact absurd rfl h
theorem rowsB_at (l m : List (List Int)) (k : Nat) (h1 : k < l.length) (h2 : k < m.length) : rowsB (l.drop k) (m.drop k) = (eqL l[k] m[k] && rowsB (l.drop (k + 1)) (m.drop (k + 1))) := by
  rw [List.drop_eq_getElem_cons h1, List.drop_eq_getElem_cons h2]; rfl
theorem rowsB_end (l m : List (List Int)) (k : Nat) (h1 : l.length ≤ k) (h2 : m.length ≤ k) : rowsB (l.drop k) (m.drop k) = true := by
  rw [List.drop_eq_nil_of_le h1, List.drop_eq_nil_of_le h2]; rfl

set_option maxHeartbeats 1000000 in
theorem refRows_any (A B : Option Addr) (n c n' c' : Nat) (l m : List (List Int)) (w : World) (hn : n = l.length) (hn' : n' = m.length) (hr : Keys w w.heap.size A l) (hr' : Keys w w.heap.size B m) (hl : l.length ≤ maxLen) (hs : ∀ k ∈ l, k.length ≤ maxLen) :
    Calls Try.prog 34 #[.slice A n c, .slice B n' c'] w fun e w' => e = .returned (.bool (rowsB l m)) ∧ ∃ d, w' = w.drewN d := by
  subst hn
  subst hn'
  unfold maxLen at hl
  by_cases hlen : l.length = m.length
  · have HE := Lib.hid hlen
    have hne : ((l.length : Int) != (m.length : Int)) = false := by simp [hlen]
    clear hlen
    go_enter Try.func34, Try.ntmps34
    go_wp2_with fail
    go_loopw [5] (fun i wr => ∃ k : Nat, k ≤ l.length ∧ i = .int .i64 k ∧ Hid (rowsB l m = rowsB (l.drop k) (m.drop k)) ∧ Hid (∃ d, wr = w.drewN d)) (fun i _ => l.length - (intOf i).toNat)
    case atStart => exact ⟨0, Nat.zero_le _, rfl, Lib.hid (by simp), Lib.hid ⟨0, rfl⟩⟩
    case round =>
      obtain ⟨k, hk, rfl, HF, HD⟩ := hrel
      have hrr : Keys wr wr.heap.size A l := by obtain ⟨d, rfl⟩ := HD.out; exact hr
      have hrr' : Keys wr wr.heap.size B m := by obtain ⟨d, rfl⟩ := HD.out; exact hr'
      clear hr hr'
      by_cases hlt : k < l.length
      · have hlt' : k < m.length := by have := HE.out; omega
        obtain ⟨ad, rfl, hb, a, c1, _, c0, hi⟩ := hrr.at_ hlt
        obtain ⟨ad', rfl, hb', a', c1', _, c0', hi'⟩ := hrr'.at_ hlt'
        have HS := Lib.hid (rowsB_at l m k hlt hlt')
        have C : Hid (∀ n, Calls Try.prog 14 #[.slice a l[k].length c1, .slice a' m[k].length c1'] (wr.drewN n) fun e w' => e = .returned (.bool (eqL l[k] m[k])) ∧ ∃ m', w' = (wr.drewN n).drewN m') := fun n =>
          refInts_any a a' _ c1 _ c1' l[k] m[k] (wr.drewN n) rfl rfl hi hi' (hs _ (List.getElem_mem hlt))
        have j0 : (0 : Int) ≤ (k : Int) := Int.natCast_nonneg _
        have j1 : (k : Int) < (l.length : Int) := by omega
        have j2 : (k : Int) < (m.length : Int) := by omega
        clear hrr hrr' hi hi'
        cases he : eqL l[k] m[k]
        · rw [he] at C HS
          have HS' : Hid (rowsB (l.drop k) (m.drop k) = false) := HS.out
          clear HS
          go_wp2_with fail
          go_quiet (first | (go_at_call 14; exact Calls.quiet_of (C.out _)))
          go_wp2_with fail
          go_ret
          exact ⟨by rw [HF.out, HS'.out]; rfl, by obtain ⟨d, rfl⟩ := HD.out; exact ⟨_, drewN_add' _ _ _⟩⟩
        · rw [he] at C HS
          have HS' : Hid (rowsB (l.drop k) (m.drop k) = rowsB (l.drop (k + 1)) (m.drop (k + 1))) := HS.out
          clear HS
          go_wp2_with fail
          go_quiet (first | (go_at_call 14; exact Calls.quiet_of (C.out _)))
          go_wp2_with fail
          go_roundw
          case rel => exact ⟨k + 1, by omega, by go_num, Lib.hid (HF.out.trans HS'.out), Lib.hid (by obtain ⟨d, rfl⟩ := HD.out; exact ⟨_, drewN_add' _ _ _⟩)⟩
          case measure => simp [intOf]; omega
      · have HS := Lib.hid (rowsB_end l m k (by omega) (by have := HE.out; omega))
        go_wp2_with fail
        go_ret
        exact ⟨by rw [HF.out, HS.out]; rfl, HD.out⟩
  · have hne : ((l.length : Int) != (m.length : Int)) = true := by simp; omega
    have HS := Lib.hid (rowsB_len hlen)
    go_enter Try.func34, Try.ntmps34
    go_wp2_with fail
    go_ret
    exact ⟨by rw [HS.out]; rfl, 0, rfl⟩

/-! ### where a key stands -/
set_option maxHeartbeats 1000000 in
theorem refAt_any (A E : Option Addr) (n c ke ce : Nat) (ks : List (List Int)) (key : List Int) (w : World) (hn : n = ks.length) (hke : ke = key.length) (hr : Keys w w.heap.size A ks) (he : Ints w w.heap.size E key) (hl : ks.length ≤ maxLen) (hs : ∀ k ∈ ks, k.length ≤ maxLen) :
    Calls Try.prog 21 #[.slice A n c, .slice E ke ce] w fun e w' => e = .returned (.int .i64 (atI ks key)) ∧ ∃ d, w' = w.drewN d := by
  subst hn
  subst hke
  unfold maxLen at hl
  go_enter Try.func21, Try.ntmps21
  go_wp2_with fail
  go_loopw [5] (fun i wr => ∃ k : Nat, k ≤ ks.length ∧ i = .int .i64 k ∧ Hid (atI ks key = atF key (ks.drop k) k) ∧ ∃ d, wr = w.drewN d) (fun i _ => ks.length - (intOf i).toNat)
  case atStart => exact ⟨0, Nat.zero_le _, rfl, Lib.hid rfl, 0, rfl⟩
  case round =>
    obtain ⟨k, hk, rfl, HF, d, rfl⟩ := hrel
    by_cases hlt : k < ks.length
    · obtain ⟨ad, rfl, hb, a, c1, _, c0, hi⟩ := hr.at_ hlt
      have Hi := Lib.hid hi
      have HS := Lib.hid (atF_at key ks k hlt)
      have Hm := Lib.hid (hs _ (List.getElem_mem hlt))
      have j0 : (0 : Int) ≤ (k : Int) := Int.natCast_nonneg _
      have j1 : (k : Int) < (ks.length : Int) := by omega
      clear hi
      cases heq : eqL ks[k] key
      · have HS' : Hid (atF key (ks.drop k) k = atF key (ks.drop (k + 1)) (k + 1)) := by have := HS.out; rw [heq] at this; exact this
        have Hq := Lib.hid heq
        clear heq HS
        go_wp2_with fail
        refine (refInts_any a E _ c1 _ ce ks[k] key _ rfl rfl (by exact Hi.out) (by exact he) Hm.out).mono ?_
        rintro e w' ⟨rfl, d', rfl⟩
        rw [Hq.out]
        go_wp2_with fail
        go_roundw
        case rel => exact ⟨k + 1, by omega, by go_num, Lib.hid (HF.out.trans HS'.out), d + d', rfl⟩
        case measure => simp [intOf]; omega
      · have HS' : Hid (atF key (ks.drop k) k = (k : Int)) := by have := HS.out; rw [heq] at this; exact this
        have Hq := Lib.hid heq
        clear heq HS
        go_wp2_with fail
        refine (refInts_any a E _ c1 _ ce ks[k] key _ rfl rfl (by exact Hi.out) (by exact he) Hm.out).mono ?_
        rintro e w' ⟨rfl, d', rfl⟩
        rw [Hq.out]
        go_wp2_with fail
        go_ret
        exact ⟨by rw [HF.out, HS'.out]; rfl, d + d', rfl⟩
    · have HS := Lib.hid (atF_end key ks k (by omega))
      go_wp2_with fail
      go_ret
      exact ⟨by rw [HF.out, HS.out]; rfl, d, rfl⟩
end Go.Proofs.Ytgnbempkobgeiaa.Hs
