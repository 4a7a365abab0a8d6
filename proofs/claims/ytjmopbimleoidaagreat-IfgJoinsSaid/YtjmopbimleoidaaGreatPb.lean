/-
  What the proofs lean on, part 2 of 12.
-/
import Derived.Test.YtjmopbimleoidaaGreatPa
import Derived.Deep.Matrix
import Derived.Deep.SlicePairs
import Derived.Lib.SmallJoins
import Derived.SizedLaws
import Derived.Deep.RegionHeld3
import Derived.Maps.Own
import Derived.Maps.OwnOps
import Derived.Maps.OwnSet
namespace Go.Proofs.YtjmopbimleoidaaGreat.Hs
open Go.RowKit Kit

set_option maxRecDepth 100000 in
set_option maxHeartbeats 400000 in
theorem refInts_any (A B : Option Addr) (n c n' c' : Nat) (l m : List Int) (w : World) (hn : n = l.length) (hn' : n' = m.length) (hr : Ints w w.heap.size A l) (hr' : Ints w w.heap.size B m) (hl : l.length ≤ maxLen) :
    Calls Tryz.prog 16 #[.slice A n c, .slice B n' c'] w fun e w' => e = .returned (.bool (eqL l m)) ∧ ∃ d, w' = w.drewN d := by
  subst hn
  subst hn'
  unfold maxLen at hl
  by_cases hlen : l.length = m.length
  · have HE := Lib.hid hlen
    have hne : ((l.length : Int) != (m.length : Int)) = false := by simp [hlen]
    clear hlen
    go_enter Tryz.func16, Tryz.ntmps16
    go_wp2_with fail
    go_loopw [5] (fun i wr => ∃ k : Nat, k ≤ l.length ∧ i = .int .i64 k ∧ Hid (eqL l m = eqL (l.drop k) (m.drop k)) ∧ ∃ d, wr = w.drewN d) (fun i _ => l.length - (intOf i).toNat)
    case atStart => exact ⟨0, Nat.zero_le _, rfl, Lib.hid (by simp), 0, rfl⟩
    case round =>
      obtain ⟨k, hk, rfl, HF, d, rfl⟩ := hrel
      by_cases hlt : k < l.length
      · have hlt' : k < m.length := by have := HE.out; omega
        obtain ⟨ad, rfl, hb, c0⟩ := hr.at_ hlt
        obtain ⟨ad', rfl, hb', c0'⟩ := hr'.at_ hlt'
        have HS := Lib.hid (eqL_at l m k hlt hlt')
        clear hr hr'
        cases he : (l[k] == m[k])
        · have HS' : Hid (eqL (l.drop k) (m.drop k) = false) := by have := HS.out; rw [he] at this; exact this
          have he' : (l[k] != m[k]) = true := by simpa using he
          clear he
          go_wp2_with fail
          go_region
          all_goals go_wp2_with fail
          all_goals go_ret
          all_goals exact ⟨by rw [HF.out, HS'.out]; rfl, d + 1, rfl⟩
        · have HS' : Hid (eqL (l.drop k) (m.drop k) = eqL (l.drop (k + 1)) (m.drop (k + 1))) := by have := HS.out; rw [he] at this; exact this
          have he' : (l[k] != m[k]) = false := by simpa using he
          clear he
          go_wp2_with fail
          go_region
          all_goals go_wp2_with fail
          all_goals go_roundw
          case rel => exact ⟨k + 1, by omega, by go_num, Lib.hid (HF.out.trans HS'.out), d + 1, rfl⟩
          case measure => simp [intOf]; omega
      · have HS := Lib.hid (eqL_end l m k (by omega) (by have := HE.out; omega))
        go_wp2_with fail
        go_ret
        exact ⟨by rw [HF.out, HS.out]; rfl, d, rfl⟩
  · have hne : ((l.length : Int) != (m.length : Int)) = true := by simp; omega
    have HS := Lib.hid (eqL_len hlen)
    go_enter Tryz.func16, Tryz.ntmps16
    go_wp2_with fail
    go_ret
    exact ⟨by rw [HS.out]; rfl, 0, rfl⟩

theorem drewN_add' (w : World) (a b : Nat) : (w.drewN a).drewN b = w.drewN (a + b) := by simp [World.drewN, Nat.add_assoc]

def rowsB : List (List Int) → List (List Int) → Bool
  | [], [] => true
  | x :: l, y :: m => eqL x y && rowsB l m
  | _, _ => false
theorem rowsB_iff : ∀ (l m : List (List Int)), rowsB l m = true ↔ l = m
  | [], [] => by simp [rowsB]
  | [], _ :: _ => by simp [rowsB]
  | _ :: _, [] => by simp [rowsB]
  | x :: l, y :: m => by simp [rowsB, rowsB_iff l m, eqL_iff]
theorem rowsB_len {l m : List (List Int)} (h : l.length ≠ m.length) : rowsB l m = false := by
  cases e : rowsB l m
  · rfl
  · rw [rowsB_iff] at e; subst e; exact absurd rfl h
theorem rowsB_at (l m : List (List Int)) (k : Nat) (h1 : k < l.length) (h2 : k < m.length) : rowsB (l.drop k) (m.drop k) = (eqL l[k] m[k] && rowsB (l.drop (k + 1)) (m.drop (k + 1))) := by
  rw [List.drop_eq_getElem_cons h1, List.drop_eq_getElem_cons h2]; rfl
theorem rowsB_end (l m : List (List Int)) (k : Nat) (h1 : l.length ≤ k) (h2 : m.length ≤ k) : rowsB (l.drop k) (m.drop k) = true := by
  rw [List.drop_eq_nil_of_le h1, List.drop_eq_nil_of_le h2]; rfl

set_option maxRecDepth 100000 in
set_option maxHeartbeats 1000000 in
theorem refRows_any (A B : Option Addr) (n c n' c' : Nat) (l m : List (List Int)) (w : World) (hn : n = l.length) (hn' : n' = m.length) (hr : Keys w w.heap.size A l) (hr' : Keys w w.heap.size B m) (hl : l.length ≤ maxLen) (hs : ∀ k ∈ l, k.length ≤ maxLen) :
    Calls Tryz.prog 50 #[.slice A n c, .slice B n' c'] w fun e w' => e = .returned (.bool (rowsB l m)) ∧ ∃ d, w' = w.drewN d := by
  subst hn
  subst hn'
  unfold maxLen at hl
  by_cases hlen : l.length = m.length
  · have HE := Lib.hid hlen
    have hne : ((l.length : Int) != (m.length : Int)) = false := by simp [hlen]
    clear hlen
    go_enter Tryz.func50, Tryz.ntmps50
    go_wp2_with fail
    go_loopw [5] (fun i wr => ∃ k : Nat, k ≤ l.length ∧ i = .int .i64 k ∧ Hid (rowsB l m = rowsB (l.drop k) (m.drop k)) ∧ Hid (∃ d, wr = w.drewN d)) (fun i _ => l.length - (intOf i).toNat)
    case atStart => exact ⟨0, Nat.zero_le _, rfl, Lib.hid (by simp), Lib.hid ⟨0, rfl⟩⟩
    case round =>
      obtain ⟨k, hk, rfl, HF, HD⟩ := hrel
      have hrr : Keys wr wr.heap.size A l := by obtain ⟨d, rfl⟩ := HD.out; exact hr
      have hrr' : Keys wr wr.heap.size B m := by obtain ⟨d, rfl⟩ := HD.out; exact hr'
      clear hr hr'
      by_cases hlt : k < l.length
      · have hlt' : k < m.length := by have := HE.out; omega
        obtain ⟨ad, rfl, hb, a, c1, _, c0, hi⟩ := hrr.at_ hlt
        obtain ⟨ad', rfl, hb', a', c1', _, c0', hi'⟩ := hrr'.at_ hlt'
        have HS := Lib.hid (rowsB_at l m k hlt hlt')
        have C : Hid (∀ n, Calls Tryz.prog 16 #[.slice a l[k].length c1, .slice a' m[k].length c1'] (wr.drewN n) fun e w' => e = .returned (.bool (eqL l[k] m[k])) ∧ ∃ m', w' = (wr.drewN n).drewN m') := fun n =>
          refInts_any a a' _ c1 _ c1' l[k] m[k] (wr.drewN n) rfl rfl hi hi' (hs _ (List.getElem_mem hlt))
        have j0 : (0 : Int) ≤ (k : Int) := Int.natCast_nonneg _
        have j1 : (k : Int) < (l.length : Int) := by omega
        have j2 : (k : Int) < (m.length : Int) := by omega
        clear hrr hrr' hi hi'
        cases he : eqL l[k] m[k]
        · rw [he] at C HS
          have HS' : Hid (rowsB (l.drop k) (m.drop k) = false) := HS.out
          clear HS
          go_wp2_with fail
          go_quiet (first | (go_at_call 16; exact Calls.quiet_of (C.out _)))
          go_wp2_with fail
          go_ret
          exact ⟨by rw [HF.out, HS'.out]; rfl, by obtain ⟨d, rfl⟩ := HD.out; exact ⟨_, drewN_add' _ _ _⟩⟩
        · rw [he] at C HS
          have HS' : Hid (rowsB (l.drop k) (m.drop k) = rowsB (l.drop (k + 1)) (m.drop (k + 1))) := HS.out
          clear HS
          go_wp2_with fail
          go_quiet (first | (go_at_call 16; exact Calls.quiet_of (C.out _)))
          go_wp2_with fail
          go_roundw
          case rel => exact ⟨k + 1, by omega, by go_num, Lib.hid (HF.out.trans HS'.out), Lib.hid (by obtain ⟨d, rfl⟩ := HD.out; exact ⟨_, drewN_add' _ _ _⟩)⟩
          case measure => simp [intOf]; omega
      · have HS := Lib.hid (rowsB_end l m k (by omega) (by have := HE.out; omega))
        go_wp2_with fail
        go_ret
        exact ⟨by rw [HF.out, HS.out]; rfl, HD.out⟩
  · have hne : ((l.length : Int) != (m.length : Int)) = true := by simp; omega
    have HS := Lib.hid (rowsB_len hlen)
    go_enter Tryz.func50, Tryz.ntmps50
    go_wp2_with fail
    go_ret
    exact ⟨by rw [HS.out]; rfl, 0, rfl⟩

set_option maxRecDepth 100000 in
set_option maxHeartbeats 1000000 in
theorem refAt_any (A E : Option Addr) (n c ke ce : Nat) (ks : List (List Int)) (key : List Int) (w : World) (hn : n = ks.length) (hke : ke = key.length) (hr : Keys w w.heap.size A ks) (he : Ints w w.heap.size E key) (hl : ks.length ≤ maxLen) (hs : ∀ k ∈ ks, k.length ≤ maxLen) :
    Calls Tryz.prog 53 #[.slice A n c, .slice E ke ce] w fun e w' => e = .returned (.int .i64 (atI ks key)) ∧ ∃ d, w' = w.drewN d := by
  subst hn
  subst hke
  unfold maxLen at hl
  go_enter Tryz.func53, Tryz.ntmps53
  go_wp2_with fail
  go_loopw [5] (fun i wr => ∃ k : Nat, k ≤ ks.length ∧ i = .int .i64 k ∧ Hid (atI ks key = atF key (ks.drop k) k) ∧ ∃ d, wr = w.drewN d) (fun i _ => ks.length - (intOf i).toNat)
  case atStart => exact ⟨0, Nat.zero_le _, rfl, Lib.hid rfl, 0, rfl⟩
  case round =>
    obtain ⟨k, hk, rfl, HF, d, rfl⟩ := hrel
    by_cases hlt : k < ks.length
    · obtain ⟨ad, rfl, hb, a, c1, _, c0, hi⟩ := hr.at_ hlt
      have Hi := Lib.hid hi
      have HS := Lib.hid (atF_at key ks k hlt)
      have Hm := Lib.hid (hs _ (List.getElem_mem hlt))
      have j0 : (0 : Int) ≤ (k : Int) := Int.natCast_nonneg _
      have j1 : (k : Int) < (ks.length : Int) := by omega
      clear hi
      cases heq : eqL ks[k] key
      · have HS' : Hid (atF key (ks.drop k) k = atF key (ks.drop (k + 1)) (k + 1)) := by have := HS.out; rw [heq] at this; exact this
        have Hq := Lib.hid heq
        clear heq HS
        go_wp2_with fail
        refine (refInts_any a E _ c1 _ ce ks[k] key _ rfl rfl (by exact Hi.out) (by exact he) Hm.out).mono ?_
        rintro e w' ⟨rfl, d', rfl⟩
        rw [Hq.out]
        go_wp2_with fail
        go_roundw
        case rel => exact ⟨k + 1, by omega, by go_num, Lib.hid (HF.out.trans HS'.out), d + d', rfl⟩
        case measure => simp [intOf]; omega
      · have HS' : Hid (atF key (ks.drop k) k = (k : Int)) := by have := HS.out; rw [heq] at this; exact this
        have Hq := Lib.hid heq
        clear heq HS
        go_wp2_with fail
        refine (refInts_any a E _ c1 _ ce ks[k] key _ rfl rfl (by exact Hi.out) (by exact he) Hm.out).mono ?_
        rintro e w' ⟨rfl, d', rfl⟩
        rw [Hq.out]
        go_wp2_with fail
        go_ret
        exact ⟨by rw [HF.out, HS'.out]; rfl, d + d', rfl⟩
    · have HS := Lib.hid (atF_end key ks k (by omega))
      go_wp2_with fail
      go_ret
      exact ⟨by rw [HF.out, HS.out]; rfl, d, rfl⟩
end Go.Proofs.YtjmopbimleoidaaGreat.Hs

namespace Go.Proofs.YtjmopbimleoidaaGreat.Hs
open Go.RowKit Kit

theorem Q.of_drewN {w w' : World} (h : ∃ d, w' = w.drewN d) : Q w w' := by obtain ⟨d, rfl⟩ := h; exact (Q.refl w).drewN d

def fewF (n : Nat) : List (List Int) → Nat
  | [] => n
  | k :: l => if n ≤ 2000 then fewF (n + 1 + k.length) l else n
def fewB (ks : List (List Int)) (m : Nat) : Bool := decide (fewF m ks ≤ 2000)
theorem fewF_at (n : Nat) (ks : List (List Int)) (i : Nat) (h : i < ks.length) (hn : n ≤ 2000) : fewF n (ks.drop i) = fewF (n + 1 + ks[i].length) (ks.drop (i + 1)) := by
  rw [List.drop_eq_getElem_cons h, fewF, if_pos hn]
theorem fewF_big (n : Nat) (ks : List (List Int)) (hn : ¬ n ≤ 2000) : fewF n ks = n := by
  cases ks with
  | nil => rfl
  | cons k l => rw [fewF, if_neg hn]
theorem fewF_end (n : Nat) (ks : List (List Int)) (i : Nat) (h : ks.length ≤ i) : fewF n (ks.drop i) = n := by
  rw [List.drop_eq_nil_of_le h]; rfl
theorem fewF_sum : ∀ (ks : List (List Int)) (n : Nat), fewF n ks ≤ 2000 → n + ks.length + ks.flatten.length ≤ 2000
  | [], n, h => by simpa [fewF] using h
  | k :: l, n, h => by
    rw [fewF] at h
    by_cases hn : n ≤ 2000
    · rw [if_pos hn] at h
      have := fewF_sum l _ h
      rw [List.length_cons, List.flatten_cons, List.length_append]; omega
    · rw [if_neg hn] at h; omega
theorem few_sum {ks : List (List Int)} {m : Nat} (h : fewB ks m = true) : m + ks.length + ks.flatten.length ≤ 2000 := fewF_sum ks m (of_decide_eq_true h)

set_option maxRecDepth 100000 in
set_option maxHeartbeats 1000000 in
theorem refFew_any (A S : Option Addr) (n c m d : Nat) (ks : List (List Int)) (w : World) (hn : n = ks.length) (hk : Keys w w.heap.size A ks) (hl : ks.length ≤ 1152921504606846976) (hs : ∀ k ∈ ks, k.length ≤ 1152921504606846976) (hm : m ≤ 1152921504606846976) :
    Calls Tryz.prog 33 #[.agg #[.slice A n c, .slice S m d]] w fun e w' => e = .returned (.bool (fewB ks m)) ∧ Q w w' := by
  subst hn
  have q0 := (Q.refl w).alloc (Obj.cells #[Value.slice A ks.length c, Value.slice S m d] 26)
  have Hk := Lib.hid (hk.q (Nat.le_refl _) q0)
  clear hk
  go_enter Tryz.func33, Tryz.ntmps33
  go_wp2_with fail
  have c0 : (w.alloc (Obj.cells #[Value.slice A ks.length c, Value.slice S m d] 26)).cell? ⟨w.heap.size, 0, none⟩ = some (.slice A ks.length c) := by simp
  generalize w.alloc (Obj.cells #[Value.slice A ks.length c, Value.slice S m d] 26) = W at *
  go_loopw [3, 4] (fun s i wr => ∃ (k a : Nat), k ≤ ks.length ∧ i = .int .i64 k ∧ s = .int .i64 a ∧ a ≤ 2305843009213693952 ∧ Hid (fewF m ks = fewF a (ks.drop k)) ∧ W = wr) (fun _ i _ => ks.length - (intOf i).toNat)
  case atStart => exact ⟨0, m, Nat.zero_le _, rfl, rfl, by omega, Lib.hid (by simp), rfl⟩
  case round =>
    obtain ⟨k, a, hk, rfl, rfl, ha, HF, rfl⟩ := hrel
    by_cases hlt : k < ks.length
    · by_cases h2 : a ≤ 2000
      · obtain ⟨ad, rfl, hb, a1, c1, _, k0, _⟩ := Hk.out.at_ hlt
        have HS := Lib.hid (fewF_at a ks k hlt h2)
        have hs1 := hs _ (List.getElem_mem hlt)
        go_wp2_with fail
        go_roundw
        case rel => exact ⟨k + 1, a + 1 + ks[k].length, by omega, by go_num, by go_num, by omega, Lib.hid (HF.out.trans HS.out), trivial⟩
        case measure => simp [intOf]; omega
      · have HS := Lib.hid (fewF_big a (ks.drop k) h2)
        have HR : Hid (fewB ks m = false) := by unfold Hid fewB; rw [HF.out, HS.out]; exact decide_eq_false h2
        go_wp2_with fail
        go_ret
        exact ⟨by rw [HR.out]; simp; omega, q0⟩
    · have HS := Lib.hid (fewF_end a ks k (by omega))
      have HR : Hid (fewB ks m = decide (a ≤ 2000)) := by unfold Hid fewB; rw [HF.out, HS.out]
      go_wp2_with fail
      go_ret
      exact ⟨by rw [HR.out]; simp; omega, q0⟩
end Go.Proofs.YtjmopbimleoidaaGreat.Hs

namespace Go.Proofs.YtjmopbimleoidaaGreat.Hs
open Go.RowKit Kit

theorem lay_lt (ks : List (List Int)) : ks.length < (layI ks).length := by rw [layI_length]; exact sizeN_gt _
theorem findR_any (A S E : Option Addr) (n c m d ke ce : Nat) (ks : List (List Int)) (key : List Int) (w : World) (hn : n = ks.length) (hm : m = (layI ks).length) (hke : ke = key.length) (hk : Keys w w.heap.size A ks) (hS : Ints w w.heap.size S (layI ks)) (he : Ints w w.heap.size E key)
    (hd : Dist ks) (hs : ∀ k ∈ ks, k.length ≤ maxLen) (hkl : key.length ≤ maxLen) (hl : ks.length ≤ 5000) :
    Calls Tryz.prog 89 #[.agg #[.slice A n c, .slice S m d], .slice E ke ce] w fun e w' => e = .returned (.int .i64 (atI ks key)) ∧ Q w w' := by
  have hz : (layI ks).length ≤ 100000 := by rw [layI_length]; have := sizeN_le ks.length; omega
  have h := find_any A S E n c m d ke ce ks (layI ks) key w hn hm hke hk hS he hs hkl (by omega)
  rcases atI_cases ks key with ⟨h1, h2⟩ | ⟨i, h1, h2⟩
  · rw [(find_not (lay_inv ks) (lay_lt ks) h2).2] at h
    rw [h1]; exact h
  · obtain ⟨s, _, h4⟩ := find_there (lay_inv ks) hd (by omega) h1
    rw [h4] at h
    rw [h2]; exact h

end Go.Proofs.YtjmopbimleoidaaGreat.Hs

namespace Go.Proofs.YtjmopbimleoidaaGreat.Hs
open Go.RowKit Kit

end Go.Proofs.YtjmopbimleoidaaGreat.Hs

namespace Go.Proofs.YtjmopbimleoidaaGreat.Hs
open Go.RowKit Kit

def rdF (ks : List (List Int)) : List (List Int) → Nat → Bool
  | [], _ => true
  | k :: l, i => (atI ks k == (i : Int)) && rdF ks l (i + 1)
def rightB (ks : List (List Int)) (sl : List Int) : Bool := rdF ks ks 0 && eqL sl (layI ks)
theorem rdF_at (ks : List (List Int)) (i : Nat) (h : i < ks.length) : rdF ks (ks.drop i) i = ((atI ks ks[i] == (i : Int)) && rdF ks (ks.drop (i + 1)) (i + 1)) := by
  rw [List.drop_eq_getElem_cons h]; rfl
theorem rdF_end (ks : List (List Int)) (i : Nat) (h : ks.length ≤ i) : rdF ks (ks.drop i) i = true := by
  rw [List.drop_eq_nil_of_le h]; rfl
theorem rdF_get (ks : List (List Int)) : ∀ (l : List (List Int)) (k : Nat), rdF ks l k = true → ∀ (i : Nat) (x : List Int), l[i]? = some x → atI ks x = ((k + i : Nat) : Int)
  | [], _, _, i, x, hx => by simp at hx
  | y :: l, k, h, i, x, hx => by
    simp only [rdF, Bool.and_eq_true, beq_iff_eq] at h
    cases i with
    | zero => obtain rfl : y = x := by simpa using hx
              rw [h.1]; rfl
    | succ i => rw [rdF_get ks l (k + 1) h.2 i x (by simpa using hx)]; congr 1; omega
theorem rdF_dist {ks : List (List Int)} (h : rdF ks ks 0 = true) : Dist ks := fun i j x hi hj => by
  have h1 := rdF_get ks ks 0 h i x hi
  have h2 := rdF_get ks ks 0 h j x hj
  omega
theorem rdF_of {ks : List (List Int)} (hd : Dist ks) : ∀ (l : List (List Int)) (k : Nat), (∀ (i : Nat) (x : List Int), l[i]? = some x → ks[k + i]? = some x) → rdF ks l k = true
  | [], _, _ => rfl
  | y :: l, k, h => by
    simp only [rdF, Bool.and_eq_true, beq_iff_eq]
    refine ⟨atI_some hd (by simpa using h 0 y rfl), rdF_of hd l (k + 1) fun i x hx => ?_⟩
    have := h (i + 1) x (by simpa using hx)
    rwa [show k + 1 + i = k + (i + 1) by omega]
theorem right_iff (ks : List (List Int)) (sl : List Int) : rightB ks sl = true ↔ Dist ks ∧ sl = layI ks := by
  unfold rightB
  rw [Bool.and_eq_true, eqL_iff]
  exact ⟨fun h => ⟨rdF_dist h.1, h.2⟩, fun h => ⟨rdF_of h.1 ks 0 fun i x hx => by simpa using hx, h.2⟩⟩

set_option maxRecDepth 100000 in
set_option maxHeartbeats 1000000 in
theorem refRight_any (A S : Option Addr) (n c m d : Nat) (ks : List (List Int)) (sl : List Int) (w : World) (hn : n = ks.length) (hm : m = sl.length) (hk : Keys w w.heap.size A ks) (hS : Ints w w.heap.size S sl) (hs : ∀ k ∈ ks, k.length ≤ maxLen) (hl : ks.length ≤ 5000) (hsl : sl.length ≤ maxLen) :
    Calls Tryz.prog 77 #[.agg #[.slice A n c, .slice S m d]] w fun e w' => e = .returned (.bool (rightB ks sl)) ∧ Q w w' := by
  subst hn
  subst hm
  have q0 := (Q.refl w).alloc (Obj.cells #[Value.slice A ks.length c, Value.slice S sl.length d] 26)
  have Hk := Lib.hid ((hk.q (Nat.le_refl _) q0).more q0.size)
  have HS := Lib.hid ((hS.q (Nat.le_refl _) q0).more q0.size)
  have Hs := Lib.hid hs
  clear hk hS hs
  go_enter Tryz.func77, Tryz.ntmps77
  go_wp2_with fail
  have k0 : (w.alloc (Obj.cells #[Value.slice A ks.length c, Value.slice S sl.length d] 26)).cell? ⟨w.heap.size, 0, none⟩ = some (.slice A ks.length c) := by simp
  have k1 : (w.alloc (Obj.cells #[Value.slice A ks.length c, Value.slice S sl.length d] 26)).cell? ⟨w.heap.size, 1, none⟩ = some (.slice S sl.length d) := by simp
  have hlt : w.heap.size < (w.alloc (Obj.cells #[Value.slice A ks.length c, Value.slice S sl.length d] 26)).heap.size := by simp
  generalize w.alloc (Obj.cells #[Value.slice A ks.length c, Value.slice S sl.length d] 26) = W0 at *
  go_loopw [3] (fun i wr => ∃ k : Nat, k ≤ ks.length ∧ i = .int .i64 k ∧ Hid (rdF ks ks 0 = rdF ks (ks.drop k) k) ∧ Hid (∃ d, wr = W0.drewN d)) (fun i _ => ks.length - (intOf i).toNat)
  case atStart => exact ⟨0, Nat.zero_le _, rfl, Lib.hid rfl, Lib.hid ⟨0, rfl⟩⟩
  case round =>
    obtain ⟨k, hkl, rfl, HF, HD⟩ := hrel
    have k0r : wr.cell? ⟨w.heap.size, 0, none⟩ = some (.slice A ks.length c) := by obtain ⟨d, rfl⟩ := HD.out; exact k0
    have k1r : wr.cell? ⟨w.heap.size, 1, none⟩ = some (.slice S sl.length d) := by obtain ⟨d, rfl⟩ := HD.out; exact k1
    have Hkr : Hid (Keys wr wr.heap.size A ks) := by obtain ⟨d, rfl⟩ := HD.out; exact Hk.out
    have HSr : Hid (Ints wr wr.heap.size S sl) := by obtain ⟨d, rfl⟩ := HD.out; exact HS.out
    have qr : Q W0 wr := Q.of_drewN HD.out
    clear k0 k1 Hk HS
    by_cases hlt2 : k < ks.length
    · obtain ⟨ad, rfl, hb, a, c1, _, c0, hi⟩ := Hkr.out.at_ hlt2
      have HS2 := Lib.hid (rdF_at ks k hlt2)
      have C : Hid (∀ n, Calls Tryz.prog 53 #[.slice (some ad) ks.length c, .slice a ks[k].length c1] (wr.drewN n) fun e w' => e = .returned (.int .i64 (atI ks ks[k])) ∧ ∃ m', w' = (wr.drewN n).drewN m') := fun n =>
        refAt_any (some ad) a _ c _ c1 ks ks[k] (wr.drewN n) rfl rfl Hkr.out hi (by unfold maxLen; omega) Hs.out
      have j0 : (0 : Int) ≤ (k : Int) := Int.natCast_nonneg _
      have j1 : (k : Int) < (ks.length : Int) := by omega
      clear hi
      cases he : (atI ks ks[k] == (k : Int))
      · have hne : (atI ks ks[k] != (k : Int)) = true := by simpa using he
        have HR : Hid (rightB ks sl = false) := by unfold Hid rightB; rw [HF.out, HS2.out, he]; rfl
        clear he
        go_wp2_with fail
        go_quiet (first | (go_at_call 53; exact Calls.quiet_of (C.out _)))
        go_wp2_with fail
        go_ret
        exact ⟨by rw [HR.out]; rfl, (q0.trans qr).drewN _⟩
      · have hne : (atI ks ks[k] != (k : Int)) = false := by simpa using he
        have HR : Hid (rdF ks (ks.drop k) k = rdF ks (ks.drop (k + 1)) (k + 1)) := by unfold Hid; rw [HS2.out, he]; rfl
        clear he
        go_wp2_with fail
        go_quiet (first | (go_at_call 53; exact Calls.quiet_of (C.out _)))
        go_wp2_with fail
        go_roundw
        case rel => exact ⟨k + 1, by omega, by go_num, Lib.hid (HF.out.trans HR.out), Lib.hid (by obtain ⟨d, rfl⟩ := HD.out; exact ⟨_, drewN_add' _ _ _⟩)⟩
        case measure => simp [intOf]; omega
    · have HR : Hid (rightB ks sl = eqL sl (layI ks)) := by unfold Hid rightB; rw [HF.out, rdF_end ks k (by omega)]; rfl
      have hltr : w.heap.size < wr.heap.size := by have := qr.size; omega
      have HLl : Hid (sizeN ks.length = (layI ks).length) := Lib.hid (layI_length ks).symm
      go_wp2_with fail
      go_region_held3 (fun w' => w'.cell? ⟨w.heap.size, 0, none⟩ = some (.slice A ks.length c) ∧ w'.cell? ⟨w.heap.size, 1, none⟩ = some (.slice S sl.length d))
        (first
          | go_keep
          | exact ⟨(p1.cell (p := ⟨w.heap.size, 0, none⟩) hltr).trans k0r, (p1.cell (p := ⟨w.heap.size, 1, none⟩) hltr).trans k1r⟩
          | exact ⟨((p1.trans q2).cell (p := ⟨w.heap.size, 0, none⟩) hltr).trans k0r, ((p1.trans q2).cell (p := ⟨w.heap.size, 1, none⟩) hltr).trans k1r⟩)
        (first
          | (go_at_call 54; refine (refLay_any _ _ _ ks _ rfl (by exact Hkr.out) (by omega) Hs.out).mono ?_; rintro e w1 ⟨g, rfl, hg, hO, q1⟩; have HO := Lib.hid hO; clear hO; have p1 := (Q.refl wr).drew.trans q1)
          | (go_at_call 16; refine (refInts_any _ _ _ _ _ _ sl (layI ks) _ rfl HLl.out (by exact ((HSr.out.q (Nat.le_refl _) p1).more p1.size)) (by exact HO.out.ints) hsl).mono ?_; rintro e w2 ⟨rfl, hd2⟩; have q2 := Q.of_drewN hd2; clear hd2))
      go_wp2_with fail
      go_ret
      exact ⟨by rw [HR.out]; rfl, ((q0.trans qr).trans p1).trans q2⟩
end Go.Proofs.YtjmopbimleoidaaGreat.Hs

namespace Go.Proofs.YtjmopbimleoidaaGreat.Hs
open Go.ChangeShapes Go.WideShapes Go.RowKit Kit Go.Deep Go.Joins

theorem bytes_int : Tryz.prog.bytesOf 3 = 8 := by kernel_rfl
theorem bytes_ints : Tryz.prog.bytesOf 24 = 24 := by kernel_rfl
theorem cells_int : Tryz.prog.cellsOf 3 = 1 := by kernel_rfl
theorem cells_ints : Tryz.prog.cellsOf 24 = 1 := by kernel_rfl
theorem weights_all {H : Type} {P : Program} {e : TypeId} : ∀ {ds : List (DataW H)} {d : DataW H}, d ∈ ds → ∀ n ∈ d.weights P e, n ∈ DataW.weightsAll P e ds
  | x :: l, d, h, n, hn => by
    simp only [DataW.weightsAll, List.mem_append]
    rcases List.mem_cons.1 h with rfl | h
    · exact .inl hn
    · exact .inr (weights_all h n hn)

section
variable {H : Type} {enc : TypeId × Value → H} {W : World} {base : Nat}
set_option maxRecDepth 100000 in
theorem open_row_cells {fuel : Nat} {v : Value} {x : DataW H × List MemPlace} (h : DataW.trod enc Tryz.prog W 0 (fun _ => true) true fuel 24 [v] = some x) (hz : ∀ n ∈ x.1.weights Tryz.prog 24, n ≤ reachBytes) :
    ∃ A n c l, v = .slice A n c ∧ n = l.length ∧ n ≤ c ∧ Ints W W.heap.size A l ∧ l.length ≤ 1152921504606846976 := by
  rcases open_ints Tryz.underlying24 Tryz.underlying3 cells_int h with ⟨hcs, hx⟩ | ⟨a, len, cap, zs, hcs, _, hl, _, hlen, hx, hcell, _⟩
  · obtain rfl : v = .slice none 0 0 := by simpa using hcs
    exact ⟨none, 0, 0, [], rfl, rfl, Nat.le_refl _, fun h => absurd h (by simp), by simp⟩
  · obtain rfl : v = .slice (some a) len cap := by simpa using hcs
    simp only [if_true] at hlen
    have hw : (((lits .i64 (zs.take len) : List (DataW H))).length + ((lits .i64 (zs.drop len) : List (DataW H))).length) * Tryz.prog.bytesOf 3 ≤ reachBytes := by
      refine hz _ ?_
      rw [hx]
      simp [DataW.weights, Tryz.underlying24]
    rw [bytes_int] at hw
    have hll : (zs.take len).length = len := by rw [List.length_take, hlen]; omega
    refine ⟨_, _, _, zs.take len, rfl, hll.symm, hl, fun h0 => ⟨a, rfl, ?_, fun i y hy => ?_⟩, ?_⟩
    · have := hcell 0 (by omega)
      have := World.block_lt_of_cell? W _ this
      rwa [add_block] at this
    · have hi : i < len := by have := (List.getElem?_eq_some_iff.1 hy).1; omega
      rw [List.getElem?_take, if_pos hi] at hy
      rw [hcell i (by omega)]
      simp [hy]
    · simp [lits, reachBytes] at hw
      rw [hll]; omega
set_option maxRecDepth 100000 in
theorem open_rows_cells {fuel : Nat} {v : Value} {x : DataW H × List MemPlace} (h : DataW.trod enc Tryz.prog W 0 (fun _ => true) true fuel 23 [v] = some x) (hz : ∀ n ∈ x.1.weights Tryz.prog 23, n ≤ reachBytes) :
    ∃ A n c ks, v = .slice A n c ∧ n = ks.length ∧ Keys W W.heap.size A ks ∧ ks.length ≤ 1152921504606846976 ∧ ∀ k ∈ ks, k.length ≤ 1152921504606846976 := by
  rcases open_int_rows Tryz.underlying23 Tryz.underlying24 Tryz.underlying3 cells_ints cells_int h with ⟨hcs, hx⟩ | ⟨a, len, cap, A, L, C, Z, hcs, _, hl, _, hx, hi⟩
  · obtain rfl : v = .slice none 0 0 := by simpa using hcs
    exact ⟨none, 0, 0, [], rfl, rfl, fun h => absurd h (by simp), by simp, by simp⟩
  · obtain rfl : v = .slice (some a) len cap := by simpa using hcs
    have hwr : ∀ r, r < len → ∀ n ∈ (intRow .i64 (A r) (L r) (Z r) : DataW H).weights Tryz.prog 24, n ≤ reachBytes := fun r hr n hn => by
      refine hz _ ?_
      rw [hx]
      simp only [DataW.weights, Tryz.underlying23, List.mem_cons, List.mem_append]
      exact .inr (.inl (weights_all (List.mem_map.2 ⟨r, by simpa using hr, rfl⟩) n hn))
    have hlen : len ≤ 1152921504606846976 := by
      have := hz ((((List.range len).map fun r => (intRow .i64 (A r) (L r) (Z r) : DataW H)).length + ((List.range (cap - len)).map fun j => (intRow .i64 (A (len + j)) (L (len + j)) (Z (len + j)) : DataW H)).length) * Tryz.prog.bytesOf 24) (by
        rw [hx]
        simp only [DataW.weights, Tryz.underlying23]
        exact List.mem_cons_self ..)
      rw [bytes_ints] at this
      simp [reachBytes] at this
      omega
    have hL : ∀ r, r < len → L r ≤ 1152921504606846976 := fun r hr => by
      obtain ⟨_, h1, _, h3, _, h5, _⟩ := hi r (by omega)
      cases hA : A r with
      | none => have := h5 hA; omega
      | some a' =>
        have := hwr r hr (((lits .i64 ((Z r).take (L r)) : List (DataW H)).length + (lits .i64 ((Z r).drop (L r)) : List (DataW H)).length) * Tryz.prog.bytesOf 3) (by
          rw [hA]
          simp [intRow, DataW.weights, Tryz.underlying24])
        rw [bytes_int] at this
        simp [lits, reachBytes] at this
        omega
    have hT : ∀ r, r < len → ((Z r).take (L r)).length = L r := fun r hr => by
      obtain ⟨_, h1, _, h3, _⟩ := hi r (by omega)
      rw [List.length_take]; omega
    refine ⟨_, _, _, (List.range len).map fun r => (Z r).take (L r), rfl, by simp, fun h0 => ⟨a, rfl, ?_, fun i k hk => ?_⟩, by simpa using hlen, fun k hk => ?_⟩
    · have h0' : 0 < len := by simpa using h0
      have := (hi 0 (by omega)).1
      have := World.block_lt_of_cell? W _ this
      rwa [add_block] at this
    · have hil : i < len := by have := (List.getElem?_eq_some_iff.1 hk).1; simpa using this
      obtain rfl : (Z i).take (L i) = k := by simpa [hil] using hk
      obtain ⟨h0', h1, _, h3, _, h5, h6⟩ := hi i (by omega)
      rw [hT i hil]
      refine ⟨A i, C i, h1, h0', fun hp => ?_⟩
      rw [hT i hil] at hp
      cases hA : A i with
      | none => have := h5 hA; omega
      | some a' =>
        obtain ⟨_, hc⟩ := h6 a' hA
        refine ⟨a', rfl, ?_, fun j y hy => ?_⟩
        · have := World.block_lt_of_cell? W _ (hc 0 (by omega))
          rwa [add_block] at this
        · have hj : j < L i := by have := (List.getElem?_eq_some_iff.1 hy).1; rw [hT i hil] at this; exact this
          rw [List.getElem?_take, if_pos hj] at hy
          rw [hc j (by omega)]
          simp [hy]
    · obtain ⟨r, hr, rfl⟩ := List.mem_map.1 hk
      have hr' : r < len := by simpa using hr
      rw [hT r hr']
      exact hL r hr'
end
end Go.Proofs.YtjmopbimleoidaaGreat.Hs

namespace Go.Proofs.YtjmopbimleoidaaGreat.Hs
open Go.RowKit Kit

structure BoxT (W : World) (B : Nat) (a b : Value) : Prop where
  c0 : W.cell? ⟨B, 0, none⟩ = some a
  c1 : W.cell? ⟨B, 1, none⟩ = some b
  lt : B < W.heap.size
theorem BoxT.q {W W' : World} {B : Nat} {a b : Value} (h : BoxT W B a b) (q : Q W W') : BoxT W' B a b :=
  ⟨(q.cell (p := ⟨B, 0, none⟩) h.lt).trans h.c0, (q.cell (p := ⟨B, 1, none⟩) h.lt).trans h.c1, Nat.lt_of_lt_of_le h.lt q.size⟩
theorem BoxT.new (w : World) (a b : Value) (t : TypeId) : BoxT (w.alloc (.cells #[a, b] t)) w.heap.size a b := ⟨by simp, by simp, by simp⟩
end Go.Proofs.YtjmopbimleoidaaGreat.Hs

namespace Go.Proofs.YtjmopbimleoidaaGreat.Hs
open Go.RowKit Kit

end Go.Proofs.YtjmopbimleoidaaGreat.Hs

namespace Go.Proofs.YtjmopbimleoidaaGreat.Sg
open Go.RowKit Kit

def inB (lo hi c : Int) : Bool := decide (lo ≤ c) && decide (c ≤ hi)

def goesB (c : Int) : Bool := inB 97 122 c || inB 65 90 c || inB 48 57 c || (c == 95)

theorem take_snoc (s : ByteArray) (k : Nat) (h : k < s.size) : s.data.toList.take (k + 1) = s.data.toList.take k ++ [s[k]] := by
  rw [List.take_succ_eq_append_getElem (by simpa using h)]; rfl

def restB (l : List UInt8) : Bool := (l.drop 1).all fun c => goesB c.toNat
/-- a name whose first byte lies from lo to hi -/
def nameB (lo hi : Int) (l : List UInt8) : Bool :=
  match l with
  | [] => false
  | c :: _ => decide (l.length ≤ 20) && inB lo hi c.toNat && restB l

def argB (c : Int) : Bool := c == 43 || c == 45 || c == 61
def argsB (l : List UInt8) : Bool := decide (l.length ≤ 8) && l.all fun c => argB c.toNat
theorem all_take_snoc {f : UInt8 → Bool} {l : List UInt8} {c : UInt8} : (l ++ [c]).all f = (l.all f && f c) := by simp

abbrev Sig := ByteArray × ByteArray
/-- a slice value that reads as a row of constructors, below block B -/
def Row (w : World) (B : Nat) (A : Option Addr) (l : List Sig) : Prop :=
  0 < l.length → ∃ ad, A = some ad ∧ ad.block < B ∧ ∀ i s, l[i]? = some s → w.cell? (ad.add (i * 2)) = some (.string s.1) ∧ w.cell? ⟨(ad.add (i * 2)).block, (ad.add (i * 2)).off + 1, none⟩ = some (.string s.2)

theorem add_block (a : Addr) (n : Nat) : (a.add n).block = a.block := by unfold Addr.add; split <;> rfl
theorem add_succ (a : Addr) (n : Nat) : a.add (n + 1) = ⟨(a.add n).block, (a.add n).off + 1, none⟩ := by
  unfold Addr.add
  by_cases h : n = 0 <;> simp [h, Nat.add_assoc]

theorem Row.keep {w w' : World} {B : Nat} {A : Option Addr} {l : List Sig} (h : Row w B A l) (hb : Below B w w') : Row w' B A l := fun h0 => by
  obtain ⟨ad, e, hlt, hc⟩ := h h0
  refine ⟨ad, e, hlt, fun i s hs => ?_⟩
  obtain ⟨c0, c1⟩ := hc i s hs
  exact ⟨(hb.cell (by rw [add_block]; exact hlt)).trans c0, (hb.cell (p := ⟨(ad.add (i * 2)).block, (ad.add (i * 2)).off + 1, none⟩) (by show (ad.add (i * 2)).block < B; rw [add_block]; exact hlt)).trans c1⟩
theorem Row.q {w w' : World} {B : Nat} {A : Option Addr} {l : List Sig} (h : Row w B A l) (hB : B ≤ w.heap.size) (hb : Q w w') : Row w' B A l := h.keep (hb.mono hB)
theorem Row.more {w : World} {B B' : Nat} {A : Option Addr} {l : List Sig} (h : Row w B A l) (hB : B ≤ B') : Row w B' A l := fun h0 => by
  obtain ⟨ad, e, hlt, hc⟩ := h h0
  exact ⟨ad, e, by omega, hc⟩
/-- the cells of one constructor -/
theorem Row.at_ {w : World} {B : Nat} {A : Option Addr} {l : List Sig} (h : Row w B A l) {k : Nat} (hk : k < l.length) :
    ∃ ad, A = some ad ∧ ad.block < B ∧ w.cell? (ad.add (k * 2)) = some (.string l[k].1) ∧ w.cell? ⟨(ad.add (k * 2)).block, (ad.add (k * 2)).off + 1, none⟩ = some (.string l[k].2) := by
  obtain ⟨ad, e, hlt, hc⟩ := h (by omega)
  obtain ⟨c0, c1⟩ := hc k l[k] (List.getElem?_eq_getElem hk)
  exact ⟨ad, e, hlt, c0, c1⟩

/-- two texts are the same -/
def eqS (a b : ByteArray) : Bool := a.toList == b.toList
theorem eqS_iff (a b : ByteArray) : eqS a b = true ↔ a = b := by
  unfold eqS
  rw [beq_iff_eq, ByteArray.toList_eq, ByteArray.toList_eq]
  exact ⟨fun h => ByteArray.ext (Array.toList_inj.mp h), fun h => by rw [h]⟩
/-- where the first constructor of a name stands, from k on; -1 -/
def findI (t : ByteArray) : List Sig → Nat → Int
  | [], _ => -1
  | s :: l, k => if eqS s.1 t then k else findI t l (k + 1)
theorem findI_at (t : ByteArray) (l : List Sig) (k : Nat) (h : k < l.length) : findI t (l.drop k) k = if eqS l[k].1 t then (k : Int) else findI t (l.drop (k + 1)) (k + 1) := by
  rw [List.drop_eq_getElem_cons h]; rfl
theorem findI_end (t : ByteArray) (l : List Sig) (k : Nat) (h : l.length ≤ k) : findI t (l.drop k) k = -1 := by
  rw [List.drop_eq_nil_of_le h]; rfl

def conB (t : ByteArray) : Bool := nameB 97 122 t.data.toList
def partsB (t : ByteArray) : Bool := argsB t.data.toList

def rightG (L : List Sig) : List Sig → Nat → Bool
  | [], _ => true
  | s :: l, k => (conB s.1 && partsB s.2 && (findI s.1 L 0 == (k : Int))) && rightG L l (k + 1)
def rightB (l : List Sig) : Bool := decide (l.length ≤ 64) && rightG l l 0
theorem rightG_at (L l : List Sig) (k : Nat) (h : k < l.length) : rightG L (l.drop k) k = ((conB l[k].1 && partsB l[k].2 && (findI l[k].1 L 0 == (k : Int))) && rightG L (l.drop (k + 1)) (k + 1)) := by
  rw [List.drop_eq_getElem_cons h]; rfl
theorem rightG_end (L l : List Sig) (k : Nat) (h : l.length ≤ k) : rightG L (l.drop k) k = true := by
  rw [List.drop_eq_nil_of_le h]; rfl

theorem small_any (c : Int) (w : World) :
    Calls Tryz.prog 116 #[.int .u8 c] w fun e w' => e = .returned (.bool (inB 97 122 c)) ∧ w = w' := by
  by_cases h : 97 ≤ c
  · have d : decide (97 ≤ c) = true := by simpa using h
    have HR : Hid (inB 97 122 c = decide (c ≤ 122)) := by unfold Hid inB; rw [d]; rfl
    go_enter Tryz.func116, Tryz.ntmps116
    go_wp2_with fail
    go_ret
    exact ⟨by rw [HR.out]; rfl, rfl⟩
  · have d : decide (97 ≤ c) = false := by simpa using h
    have HR : Hid (inB 97 122 c = false) := by unfold Hid inB; rw [d]; rfl
    go_enter Tryz.func116, Tryz.ntmps116
    go_wp2_with fail
    go_ret
    exact ⟨by rw [HR.out]; rfl, rfl⟩
theorem big_any (c : Int) (w : World) :
    Calls Tryz.prog 150 #[.int .u8 c] w fun e w' => e = .returned (.bool (inB 65 90 c)) ∧ w = w' := by
  by_cases h : 65 ≤ c
  · have d : decide (65 ≤ c) = true := by simpa using h
    have HR : Hid (inB 65 90 c = decide (c ≤ 90)) := by unfold Hid inB; rw [d]; rfl
    go_enter Tryz.func150, Tryz.ntmps150
    go_wp2_with fail
    go_ret
    exact ⟨by rw [HR.out]; rfl, rfl⟩
  · have d : decide (65 ≤ c) = false := by simpa using h
    have HR : Hid (inB 65 90 c = false) := by unfold Hid inB; rw [d]; rfl
    go_enter Tryz.func150, Tryz.ntmps150
    go_wp2_with fail
    go_ret
    exact ⟨by rw [HR.out]; rfl, rfl⟩

def letB (c : Int) : Bool := inB 97 122 c || inB 65 90 c
def figB (c : Int) : Bool := inB 48 57 c || (c == 95)
def okAt (k : Nat) (c : Int) : Bool := letB c || (!(k == 0) && figB c)
def okFrom : List UInt8 → Nat → Bool
  | [], _ => true
  | c :: l, k => okAt k c.toNat && okFrom l (k + 1)
def nmB (l : List UInt8) : Bool := decide (1 ≤ l.length) && decide (l.length ≤ 20) && okFrom l 0
theorem okFrom_at (l : List UInt8) (k : Nat) (h : k < l.length) : okFrom (l.drop k) k = (okAt k l[k].toNat && okFrom (l.drop (k + 1)) (k + 1)) := by
  rw [List.drop_eq_getElem_cons h]; rfl
theorem okFrom_end (l : List UInt8) (k : Nat) (h : l.length ≤ k) : okFrom (l.drop k) k = true := by
  rw [List.drop_eq_nil_of_le h]; rfl
theorem okFrom_rest : ∀ (l : List UInt8) (k : Nat), okFrom l (k + 1) = l.all fun c => goesB c.toNat
  | [], _ => rfl
  | c :: l, k => by
    show (okAt (k + 1) c.toNat && okFrom l (k + 2)) = (goesB c.toNat && _)
    rw [okFrom_rest l (k + 1)]
    have e : okAt (k + 1) c.toNat = goesB c.toNat := by
      unfold okAt letB figB goesB
      generalize inB 97 122 c.toNat = p, inB 65 90 c.toNat = q, inB 48 57 c.toNat = r, ((c.toNat : Int) == 95) = t
      rw [show ((k + 1) == 0) = false by simp]
      revert p q r t; decide
    rw [e]
theorem con_of_nm (l : List UInt8) (h : 0 < l.length) : (nmB l && inB 97 122 (l[0].toNat : Int)) = nameB 97 122 l := by
  match l, h with
  | c :: l, _ =>
    simp only [List.getElem_cons_zero]
    show (decide (1 ≤ (c :: l).length) && decide ((c :: l).length ≤ 20) && (okAt 0 c.toNat && okFrom l (0 + 1)) && _) = (decide ((c :: l).length ≤ 20) && inB 97 122 c.toNat && l.all _)
    rw [okFrom_rest l 0, decide_eq_true (by simp : 1 ≤ (c :: l).length)]
    unfold okAt letB
    generalize inB 97 122 c.toNat = p, inB 65 90 c.toNat = q, (l.all fun c => goesB c.toNat) = r, decide ((c :: l).length ≤ 20) = t, figB c.toNat = u
    revert p q r t u; decide

set_option maxRecDepth 100000 in
set_option maxHeartbeats 400000 in
theorem name_any (s : ByteArray) (w : World) :
    Calls Tryz.prog 115 #[.string s] w fun e w' => e = .returned (.bool (nmB s.data.toList)) ∧ w = w' := by
  have hlen : s.data.toList.length = s.size := by simp
  by_cases h0 : s.size < 1
  · have HR : Hid (nmB s.data.toList = false) := by unfold Hid nmB; rw [hlen, decide_eq_false (by omega)]; rfl
    clear hlen
    go_enter Tryz.func115, Tryz.ntmps115
    go_wp2_with fail
    go_ret
    exact ⟨by rw [HR.out]; rfl, rfl⟩
  · by_cases h20 : 20 < s.size
    · have HR : Hid (nmB s.data.toList = false) := by unfold Hid nmB; rw [hlen, decide_eq_false (by omega : ¬ s.size ≤ 20), Bool.and_false]; rfl
      clear hlen
      go_enter Tryz.func115, Tryz.ntmps115
      go_wp2_with fail
      go_ret
      exact ⟨by rw [HR.out]; rfl, rfl⟩
    · have HR : Hid (nmB s.data.toList = okFrom s.data.toList 0) := by unfold Hid nmB; rw [hlen, decide_eq_true (by omega), decide_eq_true (by omega)]; rfl
      have d1 : decide ((s.size : Int) < 1) = false := by simp; omega
      have d2 : decide (20 < (s.size : Int)) = false := by simp; omega
      clear hlen
      go_enter Tryz.func115, Tryz.ntmps115
      go_wp2_with fail
      go_loop [3, 4, 5] (fun i _ _ => ∃ k : Nat, k ≤ s.size ∧ i = .int .i64 k ∧ Hid (okFrom s.data.toList 0 = okFrom (s.data.toList.drop k) k)) (fun i _ _ => s.size - (intOf i).toNat)
      case atStart => exact ⟨0, Nat.zero_le _, rfl, Lib.hid (by simp)⟩
      case round =>
        obtain ⟨k, hk, rfl, HF⟩ := hrel
        by_cases hlt : k < s.size
        · have HS : Hid (okFrom (s.data.toList.drop k) k = (okAt k s[k].toNat && okFrom (s.data.toList.drop (k + 1)) (k + 1))) := okFrom_at s.data.toList k (by simpa using hlt)
          go_upto_region 6 with fail
          go_cut [4] (fun f wx => f = .bool (figB s[k].toNat) ∧ wx = w)
          case first =>
            go_wp2_with fail
            all_goals go_meet
            all_goals
              refine ⟨congrArg Value.bool ?_, rfl⟩
              rw [Bool.eq_iff_iff]
              simp only [figB, inB, Bool.or_eq_true, Bool.and_eq_true, decide_eq_true_eq, beq_iff_eq]
              first | omega | (refine ⟨fun _ => ?_, fun _ => trivial⟩; omega)
          case rest =>
            obtain ⟨rfl, rfl⟩ := hcut
            have HO : Hid (okAt k s[k].toNat = (inB 97 122 s[k].toNat || inB 65 90 s[k].toNat || (!(k == 0) && figB s[k].toNat))) := rfl
            cases hp : inB 97 122 s[k].toNat
            · cases hq : inB 65 90 s[k].toNat
              · by_cases hk0 : k = 0
                · have HS' : Hid (okFrom (s.data.toList.drop k) k = false) := by unfold Hid; rw [HS.out, HO.out, hp, hq, show (k == 0) = true by simpa using hk0]; rfl
                  have hk0' : ((k : Int) == 0) = true := by simpa using hk0
                  clear hk0
                  go_wp2_with (first | (go_at_call 116; refine (small_any _ _).mono ?_; rintro e w' ⟨rfl, rfl⟩) | (go_at_call 150; refine (big_any _ _).mono ?_; rintro e w' ⟨rfl, rfl⟩))
                  go_ret
                  exact ⟨by rw [HR.out, HF.out, HS'.out]; rfl, rfl⟩
                · have hk0' : ((k : Int) == 0) = false := by simpa using hk0
                  have hk1 : (k == 0) = false := by simpa using hk0
                  cases hf : figB s[k].toNat
                  · have HS' : Hid (okFrom (s.data.toList.drop k) k = false) := by unfold Hid; rw [HS.out, HO.out, hp, hq, hk1, hf]; rfl
                    clear hk0 hk1
                    go_wp2_with (first | (go_at_call 116; refine (small_any _ _).mono ?_; rintro e w' ⟨rfl, rfl⟩) | (go_at_call 150; refine (big_any _ _).mono ?_; rintro e w' ⟨rfl, rfl⟩))
                    go_ret
                    exact ⟨by rw [HR.out, HF.out, HS'.out]; rfl, rfl⟩
                  · have HS' : Hid (okFrom (s.data.toList.drop k) k = okFrom (s.data.toList.drop (k + 1)) (k + 1)) := by unfold Hid; rw [HS.out, HO.out, hp, hq, hk1, hf]; rfl
                    clear hk0 hk1
                    go_wp2_with (first | (go_at_call 116; refine (small_any _ _).mono ?_; rintro e w' ⟨rfl, rfl⟩) | (go_at_call 150; refine (big_any _ _).mono ?_; rintro e w' ⟨rfl, rfl⟩))
                    go_round
                    case rel => exact ⟨k + 1, by omega, by go_num, Lib.hid (HF.out.trans HS'.out)⟩
                    case measure => simp [intOf]; omega
              · have HS' : Hid (okFrom (s.data.toList.drop k) k = okFrom (s.data.toList.drop (k + 1)) (k + 1)) := by unfold Hid; rw [HS.out, HO.out, hp, hq]; rfl
                go_wp2_with (first | (go_at_call 116; refine (small_any _ _).mono ?_; rintro e w' ⟨rfl, rfl⟩) | (go_at_call 150; refine (big_any _ _).mono ?_; rintro e w' ⟨rfl, rfl⟩))
                go_round
                case rel => exact ⟨k + 1, by omega, by go_num, Lib.hid (HF.out.trans HS'.out)⟩
                case measure => simp [intOf]; omega
            · have HS' : Hid (okFrom (s.data.toList.drop k) k = okFrom (s.data.toList.drop (k + 1)) (k + 1)) := by unfold Hid; rw [HS.out, HO.out, hp]; rfl
              go_wp2_with (first | (go_at_call 116; refine (small_any _ _).mono ?_; rintro e w' ⟨rfl, rfl⟩) | (go_at_call 150; refine (big_any _ _).mono ?_; rintro e w' ⟨rfl, rfl⟩))
              go_round
              case rel => exact ⟨k + 1, by omega, by go_num, Lib.hid (HF.out.trans HS'.out)⟩
              case measure => simp [intOf]; omega
        · have HS := Lib.hid (okFrom_end s.data.toList k (by simp; omega))
          go_wp2_with fail
          go_ret
          exact ⟨by rw [HR.out, HF.out, HS.out]; rfl, rfl⟩

set_option maxRecDepth 100000 in
set_option maxHeartbeats 400000 in
theorem con_any (s : ByteArray) (w : World) :
    Calls Tryz.prog 74 #[.string s] w fun e w' => e = .returned (.bool (nameB 97 122 s.data.toList)) ∧ w = w' := by
  by_cases h0 : 0 < s.size
  · have HC : Hid ((nmB s.data.toList && inB 97 122 s[0].toNat) = nameB 97 122 s.data.toList) := con_of_nm s.data.toList (by simpa using h0)
    cases hn : nmB s.data.toList
    · rw [hn] at HC
      go_enter Tryz.func74, Tryz.ntmps74
      go_wp2_with fail
      refine (name_any _ _).mono ?_
      rintro e w1 ⟨rfl, rfl⟩
      go_wp2_with fail
      go_ret
      exact ⟨by rw [← HC.out]; rfl, rfl⟩
    · rw [hn] at HC
      go_enter Tryz.func74, Tryz.ntmps74
      go_wp2_with fail
      refine (name_any _ _).mono ?_
      rintro e w1 ⟨rfl, rfl⟩
      go_wp2_with fail
      refine (small_any _ _).mono ?_
      rintro e w1 ⟨rfl, rfl⟩
      go_wp2_with fail
      go_ret
      exact ⟨by rw [← HC.out]; rfl, rfl⟩
  · have e : s.data.toList = [] := List.eq_nil_of_length_eq_zero (by have : s.data.toList.length = s.size := by simp
                                                                     omega)
    have hn : nmB s.data.toList = false := by rw [e]; rfl
    have HR : Hid (nameB 97 122 s.data.toList = false) := by unfold Hid; rw [e]; rfl
    clear e
    go_enter Tryz.func74, Tryz.ntmps74
    go_wp2_with fail
    refine (name_any _ _).mono ?_
    rintro e w1 ⟨rfl, rfl⟩
    go_wp2_with fail
    go_ret
    exact ⟨by rw [HR.out]; rfl, rfl⟩

set_option maxRecDepth 100000 in
set_option maxHeartbeats 400000 in
theorem args_any (s : ByteArray) (w : World) (hs : s.size ≤ maxLen) :
    Calls Tryz.prog 75 #[.string s] w fun e w' => e = .returned (.bool (argsB s.data.toList)) ∧ w = w' := by
  unfold maxLen at hs
  have HL : Hid (s.data.toList.length = s.size) := by unfold Hid; simp
  go_enter Tryz.func75, Tryz.ntmps75
  go_wp2_with fail
  go_loop [3] (fun i => ∃ k : Nat, k ≤ s.size ∧ i = .int .i64 k ∧ Hid (((s.data.toList.take k).all fun c => argB c.toNat) = true)) (fun i => s.size - (intOf i).toNat)
  case atStart => exact ⟨0, Nat.zero_le _, rfl, Lib.hid (by simp)⟩
  case round =>
    obtain ⟨k, hk, rfl, hr⟩ := hrel
    by_cases hlt : k < s.size
    · have HT := Lib.hid (take_snoc s k hlt)
      have HA : Hid (argB s[k].toNat = (((s[k].toNat : Int) == 43) || ((s[k].toNat : Int) == 45) || ((s[k].toNat : Int) == 61))) := rfl
      cases hg : argB s[k].toNat
      · have HF : Hid (argsB s.data.toList = false) := by
          unfold Hid argsB
          rw [Bool.and_eq_false_iff]
          right
          rw [← List.take_append_drop (k + 1) s.data.toList, HT.out]
          simp [hg]
        have hA := HA.out
        rw [hg] at hA
        simp only [Bool.false_eq, Bool.or_eq_false_iff] at hA
        obtain ⟨⟨a1, a2⟩, a3⟩ := hA
        have b1 : ((s[k].toNat : Int) != 43) = true := by rw [bne, a1]; rfl
        have b2 : ((s[k].toNat : Int) != 45) = true := by rw [bne, a2]; rfl
        have b3 : ((s[k].toNat : Int) != 61) = true := by rw [bne, a3]; rfl
        clear hg
        go_wp2_with fail
        go_ret
        exact ⟨by rw [HF.out]; rfl, rfl⟩
      · have HF : Hid (((s.data.toList.take (k + 1)).all fun c => argB c.toNat) = true) := by
          unfold Hid
          rw [HT.out, all_take_snoc, hr.out, hg]; rfl
        have hA := HA.out
        rw [hg] at hA
        have hA3 : (s[k].toNat : Int) = 43 ∨ (s[k].toNat : Int) = 45 ∨ (s[k].toNat : Int) = 61 := by
          simpa [or_assoc] using hA.symm
        clear hA hg
        rcases hA3 with a | a | a
        all_goals
          go_wp2_with fail
          go_round
          case rel => exact ⟨k + 1, by omega, by go_num, HF⟩
          case measure => simp [intOf]; omega
    · have HF : Hid (argsB s.data.toList = decide ((s.size : Int) ≤ 8)) := by
        have h := hr.out
        rw [List.take_of_length_le (by simp; omega)] at h
        unfold Hid argsB
        rw [h, HL.out, Bool.and_true, Bool.eq_iff_iff]
        simp only [decide_eq_true_eq]
        omega
      go_wp2_with fail
      go_ret
      exact ⟨by rw [HF.out]; rfl, rfl⟩

set_option maxRecDepth 100000 in
set_option maxHeartbeats 400000 in
theorem refFind_any (A : Option Addr) (n c : Nat) (l : List Sig) (t : ByteArray) (w : World) (hn : n = l.length) (hr : Row w w.heap.size A l) (hl : l.length ≤ maxLen) :
    Calls Tryz.prog 76 #[.slice A n c, .string t] w fun e w' => e = .returned (.int .i64 (findI t l 0)) ∧ w = w' := by
  subst hn
  unfold maxLen at hl
  go_enter Tryz.func76, Tryz.ntmps76
  go_wp2_with fail
  go_loop [5] (fun i => ∃ k : Nat, k ≤ l.length ∧ i = .int .i64 k ∧ Hid (findI t l 0 = findI t (l.drop k) k)) (fun i => l.length - (intOf i).toNat)
  case atStart => exact ⟨0, Nat.zero_le _, rfl, Lib.hid (by simp)⟩
  case round =>
    obtain ⟨k, hk, rfl, HF⟩ := hrel
    by_cases hlt : k < l.length
    · obtain ⟨ad, rfl, hb, c0, c1⟩ := hr.at_ hlt
      have HS := Lib.hid (findI_at t l k hlt)
      clear hr c1
      cases he : eqS l[k].1 t
      · have HS' : Hid (findI t (l.drop k) k = findI t (l.drop (k + 1)) (k + 1)) := by have := HS.out; rw [he] at this; exact this
        have he' : (l[k].1.toList == t.toList) = false := he
        clear he
        go_wp2_with fail
        go_round
        case rel => exact ⟨k + 1, by omega, by go_num, Lib.hid (HF.out.trans HS'.out)⟩
        case measure => simp [intOf]; omega
      · have HS' : Hid (findI t (l.drop k) k = k) := by have := HS.out; rw [he] at this; exact this
        have he' : (l[k].1.toList == t.toList) = true := he
        clear he
        go_wp2_with fail
        go_ret
        exact ⟨by rw [HF.out, HS'.out]; rfl, rfl⟩
    · have HS := Lib.hid (findI_end t l k (by omega))
      go_wp2_with fail
      go_ret
      exact ⟨by rw [HF.out, HS.out]; rfl, rfl⟩

theorem findI_le (t : ByteArray) : ∀ (l : List Sig) (k j : Nat) (h : j < l.length), l[j].1 = t → (k : Int) ≤ findI t l k ∧ findI t l k ≤ k + j
  | s :: l, k, 0, _, e => by
    have e' : s.1 = t := e
    rw [findI, if_pos ((eqS_iff _ _).2 e')]
    omega
  | s :: l, k, j + 1, h, e => by
    rw [findI]
    split
    · omega
    · have := findI_le t l (k + 1) j (by simpa using h) (by simpa using e)
      omega

/-- the texts of a row are of a size that can be -/
def Sized (l : List Sig) : Prop := ∀ s ∈ l, s.1.size ≤ maxLen ∧ s.2.size ≤ maxLen

def refRightG (L : List Sig) : List Sig → Nat → Bool
  | [], _ => true
  | s :: l, k => (conB s.1 && partsB s.2 && !decide (findI s.1 L 0 < (k : Int))) && refRightG L l (k + 1)
theorem refRightG_at (L l : List Sig) (k : Nat) (h : k < l.length) : refRightG L (l.drop k) k = ((conB l[k].1 && partsB l[k].2 && !decide (findI l[k].1 L 0 < (k : Int))) && refRightG L (l.drop (k + 1)) (k + 1)) := by
  rw [List.drop_eq_getElem_cons h]; rfl
theorem refRightG_end (L l : List Sig) (k : Nat) (h : l.length ≤ k) : refRightG L (l.drop k) k = true := by
  rw [List.drop_eq_nil_of_le h]; rfl
theorem refRightG_eq (l : List Sig) : ∀ (d k : Nat), d = l.length - k → refRightG l (l.drop k) k = rightG l (l.drop k) k := by
  intro d
  induction d with
  | zero => intro k hk; rw [refRightG_end l l k (by omega), rightG_end l l k (by omega)]
  | succ d ih =>
    intro k hk
    have hlt : k < l.length := by omega
    rw [refRightG_at l l k hlt, rightG_at l l k hlt, ih (k + 1) (by omega)]
    have hf := findI_le l[k].1 l 0 k hlt rfl
    have e : (!decide (findI l[k].1 l 0 < (k : Int))) = (findI l[k].1 l 0 == (k : Int)) := by
      rw [Bool.eq_iff_iff]; simp only [Bool.not_eq_true', decide_eq_false_iff_not, beq_iff_eq]; omega
    rw [e]

set_option maxRecDepth 100000 in
set_option maxHeartbeats 400000 in
theorem refRight_any (A : Option Addr) (n c : Nat) (l : List Sig) (w : World) (hn : n = l.length) (hr : Row w w.heap.size A l) (hl : l.length ≤ maxLen) (hs : Sized l) :
    Calls Tryz.prog 32 #[.slice A n c] w fun e w' => e = .returned (.bool (rightB l)) ∧ w = w' := by
  subst hn
  have hl' := hl
  unfold maxLen at hl'
  have HE : Hid (refRightG l l 0 = rightG l l 0) := refRightG_eq l l.length 0 (by omega)
  have HRow := Lib.hid hr
  clear hr
  go_enter Tryz.func32, Tryz.ntmps32
  go_wp2_with fail
  go_loop [3, 4] (fun i _ => ∃ k : Nat, k ≤ l.length ∧ i = .int .i64 k ∧ Hid (refRightG l l 0 = refRightG l (l.drop k) k)) (fun i _ => l.length - (intOf i).toNat)
  case atStart => exact ⟨0, Nat.zero_le _, rfl, Lib.hid (by simp)⟩
  case round =>
    obtain ⟨k, hk, rfl, HF⟩ := hrel
    by_cases hlt : k < l.length
    · obtain ⟨ad, rfl, hb, c0, c1⟩ := HRow.out.at_ hlt
      have HS := Lib.hid (refRightG_at l l k hlt)
      have hsk := (hs l[k] (List.getElem_mem hlt)).2
      have HB : Hid (refRightG l (l.drop k) k = false → rightB l = false) := fun h => by
        unfold rightB
        rw [← HE.out, HF.out, h, Bool.and_false]
      cases h1 : nameB 97 122 l[k].1.data.toList
      · have HS' : Hid (rightB l = false) := HB.out (by rw [HS.out, conB, h1]; rfl)
        go_wp2_with fail
        refine (con_any _ _).mono ?_
        rintro e w1 ⟨rfl, rfl⟩
        go_wp2_with fail
        go_ret
        exact ⟨by rw [HS'.out]; rfl, rfl⟩
      · cases h2 : argsB l[k].2.data.toList
        · have HS' : Hid (rightB l = false) := HB.out (by rw [HS.out, conB, partsB, h1, h2]; rfl)
          go_wp2_with fail
          refine (con_any _ _).mono ?_
          rintro e w1 ⟨rfl, rfl⟩
          go_wp2_with fail
          refine (args_any _ _ hsk).mono ?_
          rintro e w1 ⟨rfl, rfl⟩
          go_wp2_with fail
          go_ret
          exact ⟨by rw [HS'.out]; rfl, rfl⟩
        · by_cases h3 : findI l[k].1 l 0 < (k : Int)
          · have HS' : Hid (rightB l = false) := HB.out (by rw [HS.out, conB, partsB, h1, h2, decide_eq_true h3]; rfl)
            go_wp2_with fail
            refine (con_any _ _).mono ?_
            rintro e w1 ⟨rfl, rfl⟩
            go_wp2_with fail
            refine (args_any _ _ hsk).mono ?_
            rintro e w1 ⟨rfl, rfl⟩
            go_wp2_with fail
            refine (refFind_any _ _ _ l _ _ rfl HRow.out hl).mono ?_
            rintro e w1 ⟨rfl, rfl⟩
            go_wp2_with fail
            go_ret
            exact ⟨by rw [HS'.out]; rfl, rfl⟩
          · have HS' : Hid (refRightG l (l.drop k) k = refRightG l (l.drop (k + 1)) (k + 1)) := by unfold Hid; rw [HS.out, conB, partsB, h1, h2, decide_eq_false h3]; rfl
            go_wp2_with fail
            refine (con_any _ _).mono ?_
            rintro e w1 ⟨rfl, rfl⟩
            go_wp2_with fail
            refine (args_any _ _ hsk).mono ?_
            rintro e w1 ⟨rfl, rfl⟩
            go_wp2_with fail
            refine (refFind_any _ _ _ l _ _ rfl HRow.out hl).mono ?_
            rintro e w1 ⟨rfl, rfl⟩
            go_wp2_with fail
            go_round
            case rel => exact ⟨k + 1, by omega, by go_num, Lib.hid (HF.out.trans HS'.out)⟩
            case measure => simp [intOf]; omega
    · have HS : Hid (rightB l = decide ((l.length : Int) ≤ 64)) := by
        unfold Hid rightB
        rw [← HE.out, HF.out, refRightG_end l l k (by omega), Bool.and_true, Bool.eq_iff_iff]
        simp only [decide_eq_true_eq]
        omega
      go_wp2_with fail
      go_ret
      exact ⟨by rw [HS.out]; rfl, rfl⟩
end Go.Proofs.YtjmopbimleoidaaGreat.Sg

namespace Go.Proofs.YtjmopbimleoidaaGreat.Tm
open Go.RowKit Kit Hs

def isPl (x n : Int) : Bool := decide (0 ≤ x) && decide (x < n)
theorem isPl_iff (x n : Int) : isPl x n = true ↔ 0 ≤ x ∧ x < n := by unfold isPl; simp
theorem isPl_no {x n : Int} (h : isPl x n = false) : ¬ (0 ≤ x ∧ x < n) := fun e => by rw [(isPl_iff x n).2 e] at h; cases h

theorem isPlace_any (x n : Int) (w : World) : Calls Tryz.prog 164 #[.int .i64 x, .int .i64 n] w fun e w' => e = .returned (.bool (isPl x n)) ∧ w = w' := by
  by_cases h : 0 ≤ x
  · have HR : Hid (isPl x n = decide (x < n)) := by unfold Hid isPl; rw [decide_eq_true h]; rfl
    have d : decide (0 ≤ x) = true := decide_eq_true h
    go_enter Tryz.func164, Tryz.ntmps164
    go_wp2_with fail
    go_ret
    exact ⟨by rw [HR.out]; rfl, rfl⟩
  · have HR : Hid (isPl x n = false) := by unfold Hid isPl; rw [decide_eq_false h]; rfl
    have d : decide (0 ≤ x) = false := decide_eq_false h
    clear h
    go_enter Tryz.func164, Tryz.ntmps164
    go_wp2_with fail
    go_ret
    exact ⟨by rw [HR.out]; rfl, rfl⟩

def KeyPost (key : List Int) (w : World) (e : Ending) (w' : World) : Prop :=
  ∃ g c, e = .returned (.slice (some ⟨g, 0, none⟩) key.length c) ∧ w.heap.size ≤ g ∧ key.length ≤ c ∧ OwnI w' g key ∧ Q w w'
theorem own_block {w : World} {base g : Nat} {e : TypeId} {cs : Array Value} (hb : base ≤ g) (hg : w.heap[g]? = some (.cells cs e (0, 0))) (hm : cs.size ≤ maxLen) : w.ownsRow base e 1 (.slice (some ⟨g, 0, none⟩) cs.size cs.size) cs.size cs.toList :=
  ⟨by simp, .inr ⟨g, cs.size, cs, rfl, hb, hg, Nat.le_refl _, hm, by simp, by simp only [Nat.mul_one]; exact List.take_of_length_le (by rw [Array.length_toList]; exact Nat.le_refl _)⟩⟩
theorem key_close {w w' : World} {v : Value} {m : Nat} {ys xs key : List Int} {cs : List Value} (hc : cs = cellsI ys ++ cellsI xs) (hk : key = ys ++ xs) (h0 : 0 < key.length) (hm : m = key.length) (h : w'.ownsRow w.heap.size 3 1 v m cs) (q : Q w w') : KeyPost key w (.returned v) w' := by
  subst hm hc
  obtain ⟨A, c, rfl, hle, hA⟩ := own_form h
  obtain ⟨g, rfl, hg, _, _⟩ := hA h0
  refine ⟨g, c, rfl, hg, hle, ?_, q⟩
  have e : cellsI ys ++ cellsI xs = cellsI key := by rw [hk]; simp [cellsI]
  rw [e] at h
  exact OwnI.of_own h

set_option maxRecDepth 100000 in
set_option maxHeartbeats 1000000 in
theorem key_any (E : Option Addr) (n ce : Nat) (k s p : Int) (xs : List Int) (w : World) (hn : n = xs.length) (he : Ints w w.heap.size E xs) (hl : xs.length ≤ 100000) :
    Calls Tryz.prog 90 #[.agg #[.int .i64 k, .int .i64 s, .int .i64 p, .slice E n ce]] w (KeyPost (k :: s :: p :: xs) w) := by
  subst hn
  obtain ⟨i0, hi, hz0, hz1, hz2⟩ := info_parts intInfo
  have Hi := Lib.hid hi
  have Hz0 := Lib.hid hz0
  have Hz1 := Lib.hid hz1
  have Hz2 := Lib.hid hz2
  have q0 := ((Q.refl w).alloc (Obj.cells #[.int .i64 k, .int .i64 s, .int .i64 p, .slice E xs.length ce] 107)).alloc (Obj.cells #[.int .i64 k, .int .i64 s, .int .i64 p] 3)
  have Hs := Lib.hid (he.srcB.keep q0)
  have ho := own_block (base := w.heap.size) (e := 3) (cs := #[.int .i64 k, .int .i64 s, .int .i64 p]) (Nat.le_succ _) (heap_two_new w (Obj.cells #[.int .i64 k, .int .i64 s, .int .i64 p, .slice E xs.length ce] 107) (Obj.cells #[.int .i64 k, .int .i64 s, .int .i64 p] 3)) (by unfold maxLen; simp)
  have Ho := Lib.hid ho
  clear hi hz0 hz1 hz2 he ho
  go_enter Tryz.func90, Tryz.ntmps90
  go_wp2_with (at_builtin; refine wpList_append_src _ rfl (.tmp 9) (.tmp 11) _ rfl w.heap.size 3 i0 _ 1 8 Tryz.underlying24 Hi.out Hz0.out Hz1.out Hz2.out rfl (by omega) (.slice (some ⟨w.heap.size + 1, 0, none⟩) 3 3) 3 [.int .i64 k, .int .i64 s, .int .i64 p] rfl Ho.out E xs.length ce (cellsI xs) rfl (by simp [cellsI]) Hs.out.src (cellsI_one xs) (by unfold maxLen; omega) (by omega) (by simp; omega) ?_; intro v' w' own' gr' _)
  have q2 : Q w w' := q0.grown gr' (by simp; omega) (by simp [Value.ownBlock])
  have Ho' := Lib.hid own'
  clear own' gr'
  go_wp2_with fail
  go_ret
  exact key_close (ys := [k, s, p]) (xs := xs) rfl rfl (by simp) (by simp; omega) Ho'.out q2

end Go.Proofs.YtjmopbimleoidaaGreat.Tm

namespace Go.Proofs.YtjmopbimleoidaaGreat.Tm
open Go.RowKit Kit Hs

structure Tm where
  k : Int
  s : Int
  p : Int
  xs : List Int
def Tm.none : Tm := ⟨0, 0, 0, []⟩
def Tm.key (t : Tm) : List Int := t.k :: t.s :: t.p :: t.xs
def ofKey (key : List Int) : Tm := ⟨key[0]?.getD 0, key[1]?.getD 0, key[2]?.getD 0, key.drop 3⟩
/-- the term at a place; none, if there is none -/
def termAt (ks : List (List Int)) (id : Int) : Option Tm := if isPl id ks.length && decide (3 ≤ (ks[id.toNat]?.getD []).length) then some (ofKey (ks[id.toNat]?.getD [])) else none
theorem termAt_at {ks : List (List Int)} {i : Nat} (h : i < ks.length) (h3 : 3 ≤ ks[i].length) : termAt ks (i : Int) = some (ofKey ks[i]) := by
  have e : isPl (i : Int) ks.length = true := (isPl_iff _ _).2 (by omega)
  simp [termAt, e, h, h3]
theorem termAt_short {ks : List (List Int)} {i : Nat} (h : i < ks.length) (h3 : ks[i].length < 3) : termAt ks (i : Int) = none := by
  have e : isPl (i : Int) ks.length = true := (isPl_iff _ _).2 (by omega)
  have : ¬ 3 ≤ ks[i].length := by omega
  simp [termAt, h, this]
theorem termAt_out {ks : List (List Int)} {id : Int} (h : isPl id ks.length = false) : termAt ks id = none := by simp [termAt, h]
def LookPost (ks : List (List Int)) (id : Int) (w : World) (e : Ending) (w' : World) : Prop :=
  ∃ A n c, e = .returned (.tuple #[.agg #[.int .i64 ((termAt ks id).getD .none).k, .int .i64 ((termAt ks id).getD .none).s, .int .i64 ((termAt ks id).getD .none).p, .slice A n c], .bool (termAt ks id).isSome]) ∧ n = ((termAt ks id).getD .none).xs.length ∧ Ints w' w'.heap.size A ((termAt ks id).getD .none).xs ∧ Q w w'
theorem look_none {ks : List (List Int)} {id : Int} {w w' : World} (h : termAt ks id = none) (q : Q w w') : LookPost ks id w (.returned (.tuple #[.agg #[.int .i64 0, .int .i64 0, .int .i64 0, .slice none 0 0], .bool false])) w' := by
  unfold LookPost
  rw [h]
  exact ⟨none, 0, 0, rfl, rfl, fun h => absurd h (by simp [Tm.none]), q⟩

theorem look_some {ks : List (List Int)} {id : Int} {w w' : World} {t : Tm} {A : Option Addr} {n c : Nat} (h : termAt ks id = some t) (hn : n = t.xs.length) (hA : Ints w' w'.heap.size A t.xs) (q : Q w w') : LookPost ks id w (.returned (.tuple #[.agg #[.int .i64 t.k, .int .i64 t.s, .int .i64 t.p, .slice A n c], .bool true])) w' := by
  unfold LookPost
  rw [h]
  exact ⟨A, n, c, rfl, hn, hA, q⟩
theorem termAt_key {ks : List (List Int)} {i : Nat} (h : i < ks.length) (h3 : 3 ≤ ks[i].length) : termAt ks (i : Int) = some ⟨ks[i][0], ks[i][1], ks[i][2], ks[i].drop 3⟩ := by
  rw [termAt_at h h3]
  have h0 : 0 < ks[i].length := by omega
  have h1 : 1 < ks[i].length := by omega
  have h2 : 2 < ks[i].length := by omega
  simp [ofKey, h0, h1, h2]
theorem drop_ints {w w' : World} {ad : Addr} {key : List Int} (hc : ∀ (i : Nat) (x : Int), key[i]? = some x → w.cell? (ad.add i) = some (.int .i64 x)) (hb : ad.block < w.heap.size) (q : Q w w') (n : Nat) : Ints w' w'.heap.size (some (ad.add n)) (key.drop n) := fun _ => by
  refine ⟨_, rfl, by rw [add_block]; exact Nat.lt_of_lt_of_le hb q.size, fun i x hx => ?_⟩
  rw [List.getElem?_drop] at hx
  rw [Addr.add_add, q.cell (by rw [add_block]; exact hb)]
  exact hc _ x hx
set_option maxRecDepth 100000 in
set_option maxHeartbeats 1000000 in
theorem look_any (A S : Option Addr) (n c m d : Nat) (ks : List (List Int)) (id : Int) (w : World) (hn : n = ks.length) (hk : Keys w w.heap.size A ks) :
    Calls Tryz.prog 143 #[.agg #[.slice A n c, .slice S m d], .int .i64 id] w (LookPost ks id w) := by
  subst hn
  have q0 := ((Q.refl w).alloc (Obj.cells #[Value.slice A ks.length c, Value.slice S m d] 26)).alloc (Obj.cells #[.int .i64 0, .int .i64 0, .int .i64 0, .slice none 0 0] 107)
  cases hp : isPl id ks.length
  · have HT := Lib.hid (termAt_out hp)
    clear hk
    go_enter Tryz.func143, Tryz.ntmps143
    go_wp2_with (go_at_call 164; refine (isPlace_any _ _ _).mono ?_; rintro e w' ⟨rfl, rfl⟩)
    refine bodyPost_ret (v := .tuple #[.agg #[.int .i64 0, .int .i64 0, .int .i64 0, .slice none 0 0], .bool false]) (by simp [results, Tryz.f143, go_sem]) rfl (look_none HT.out q0)
  · obtain ⟨h0, h1⟩ := (isPl_iff _ _).1 hp
    obtain ⟨i, rfl⟩ := Int.eq_ofNat_of_zero_le h0
    have hlt : i < ks.length := by omega
    obtain ⟨ad, rfl, hb, a, c1, hle, c0, hi⟩ := hk.at_ hlt
    by_cases h3 : 3 ≤ ks[i].length
    · have HT := Lib.hid (termAt_key hlt h3)
      obtain ⟨ad1, rfl, hb1, hc1⟩ := hi (by omega)
      have k0 := hc1 0 _ (List.getElem?_eq_getElem (show 0 < ks[i].length by omega))
      have k1 := hc1 1 _ (List.getElem?_eq_getElem (show 1 < ks[i].length by omega))
      have k2 := hc1 2 _ (List.getElem?_eq_getElem (show 2 < ks[i].length by omega))
      have hsl := slice_l (some ad1) ks[i].length c1 3 h3
      have d3 : decide (ks[i].length < 3) = false := decide_eq_false (by omega)
      have Hc := Lib.hid hc1
      have c0' := (q0.cell (p := ad.add i) (by rw [add_block]; exact hb)).trans c0
      have k0' : ((w.alloc (Obj.cells #[Value.slice (some ad) ks.length c, Value.slice S m d] 26)).alloc (Obj.cells #[.int .i64 0, .int .i64 0, .int .i64 0, .slice none 0 0] 107)).cell? ad1 = some (.int .i64 ks[i][0]) := (q0.cell (by exact hb1)).trans (by simpa [Addr.add] using k0)
      have k1' : ((w.alloc (Obj.cells #[Value.slice (some ad) ks.length c, Value.slice S m d] 26)).alloc (Obj.cells #[.int .i64 0, .int .i64 0, .int .i64 0, .slice none 0 0] 107)).cell? ⟨ad1.block, ad1.off + 1, none⟩ = some (.int .i64 ks[i][1]) := (q0.cell (by exact hb1)).trans (by simpa [Addr.add] using k1)
      have k2' : ((w.alloc (Obj.cells #[Value.slice (some ad) ks.length c, Value.slice S m d] 26)).alloc (Obj.cells #[.int .i64 0, .int .i64 0, .int .i64 0, .slice none 0 0] 107)).cell? ⟨ad1.block, ad1.off + 2, none⟩ = some (.int .i64 ks[i][2]) := (q0.cell (by exact hb1)).trans (by simpa [Addr.add] using k2)
      clear hk hc1 hi c0 k0 k1 k2
      go_enter Tryz.func143, Tryz.ntmps143
      go_wp2_with (go_at_call 164; refine (isPlace_any _ _ _).mono ?_; rintro e w' ⟨rfl, rfl⟩)
      go_region
      all_goals go_wp2_with fail
      · rename_i h
        have qW : Q w (((w.alloc (Obj.cells #[Value.slice (some ad) ks.length c, Value.slice S m d] 26)).alloc (Obj.cells #[.int .i64 ks[i][0], .int .i64 ks[i][1], .int .i64 ks[i][2], .slice (some ad1) (ks[i].length - 3) 0] 107)).drew) := (((Q.refl w).alloc _).alloc _).drew
        refine bodyPost_ret (v := .tuple #[.agg #[.int .i64 ks[i][0], .int .i64 ks[i][1], .int .i64 ks[i][2], .slice (some ad1) (ks[i].length - 3) 0], .bool true]) (by simp [results, Tryz.f143, go_sem]) rfl (look_some HT.out (by simp) (fun h0 => ?_) qW)
        rw [List.length_drop] at h0
        omega
      · have qW : Q w (((w.alloc (Obj.cells #[Value.slice (some ad) ks.length c, Value.slice S m d] 26)).alloc (Obj.cells #[.int .i64 ks[i][0], .int .i64 ks[i][1], .int .i64 ks[i][2], .slice (some ⟨ad1.block, ad1.off + 3, none⟩) (ks[i].length - 3) (c1 - 3)] 107)).drew) := (((Q.refl w).alloc _).alloc _).drew
        refine bodyPost_ret (v := .tuple #[.agg #[.int .i64 ks[i][0], .int .i64 ks[i][1], .int .i64 ks[i][2], .slice (some ⟨ad1.block, ad1.off + 3, none⟩) (ks[i].length - 3) (c1 - 3)], .bool true]) (by simp [results, Tryz.f143, go_sem]) rfl (look_some HT.out (by simp) ?_ qW)
        exact drop_ints Hc.out hb1 qW 3
    · have HT := Lib.hid (termAt_short hlt (Nat.lt_of_not_le h3))
      have d3 : decide (ks[i].length < 3) = true := decide_eq_true (by omega)
      have c0' := (q0.cell (p := ad.add i) (by rw [add_block]; exact hb)).trans c0
      clear hk hi c0
      go_enter Tryz.func143, Tryz.ntmps143
      go_wp2_with (go_at_call 164; refine (isPlace_any _ _ _).mono ?_; rintro e w' ⟨rfl, rfl⟩)
      exact bodyPost_ret (v := .tuple #[.agg #[.int .i64 0, .int .i64 0, .int .i64 0, .slice none 0 0], .bool false]) (by simp [results, Tryz.f143, go_sem]) rfl (look_none HT.out q0)
end Go.Proofs.YtjmopbimleoidaaGreat.Tm

namespace Go.Proofs.YtjmopbimleoidaaGreat.Tm
open Go.RowKit Kit Hs

set_option maxRecDepth 100000 in
set_option maxHeartbeats 1000000 in
theorem refOf_any (A S : Option Addr) (n c m d : Nat) (ks : List (List Int)) (id : Int) (w : World) (hn : n = ks.length) (hk : Keys w w.heap.size A ks) :
    Calls Tryz.prog 78 #[.agg #[.slice A n c, .slice S m d], .int .i64 id] w (LookPost ks id w) := by
  subst hn
  have q0 := ((Q.refl w).alloc (Obj.cells #[Value.slice A ks.length c, Value.slice S m d] 26)).alloc (Obj.cells #[.int .i64 0, .int .i64 0, .int .i64 0, .slice none 0 0] 107)
  cases hp : isPl id ks.length
  · have HT := Lib.hid (termAt_out hp)
    have hno := isPl_no hp
    clear hk
    by_cases h0 : id < 0
    · have d0 : decide (id < 0) = true := decide_eq_true h0
      clear hno h0
      go_enter Tryz.func78, Tryz.ntmps78
      go_wp2_with fail
      exact bodyPost_ret (v := .tuple #[.agg #[.int .i64 0, .int .i64 0, .int .i64 0, .slice none 0 0], .bool false]) (by simp [results, Tryz.f78, go_sem]) rfl (look_none HT.out q0)
    · have d0 : decide (id < 0) = false := decide_eq_false h0
      have d1 : decide ((ks.length : Int) ≤ id) = true := decide_eq_true (by omega)
      clear hno h0
      go_enter Tryz.func78, Tryz.ntmps78
      go_wp2_with fail
      exact bodyPost_ret (v := .tuple #[.agg #[.int .i64 0, .int .i64 0, .int .i64 0, .slice none 0 0], .bool false]) (by simp [results, Tryz.f78, go_sem]) rfl (look_none HT.out q0)
  · obtain ⟨h0, h1⟩ := (isPl_iff _ _).1 hp
    obtain ⟨i, rfl⟩ := Int.eq_ofNat_of_zero_le h0
    have hlt : i < ks.length := by omega
    obtain ⟨ad, rfl, hb, a, c1, hle, c0, hi⟩ := hk.at_ hlt
    by_cases h3 : 3 ≤ ks[i].length
    · have HT := Lib.hid (termAt_key hlt h3)
      obtain ⟨ad1, rfl, hb1, hc1⟩ := hi (by omega)
      have k0 := hc1 0 _ (List.getElem?_eq_getElem (show 0 < ks[i].length by omega))
      have k1 := hc1 1 _ (List.getElem?_eq_getElem (show 1 < ks[i].length by omega))
      have k2 := hc1 2 _ (List.getElem?_eq_getElem (show 2 < ks[i].length by omega))
      have hsl := slice_l (some ad1) ks[i].length c1 3 h3
      have d3 : decide (ks[i].length < 3) = false := decide_eq_false (by omega)
      have Hc := Lib.hid hc1
      have c0' := (q0.cell (p := ad.add i) (by rw [add_block]; exact hb)).trans c0
      have k0' : ((w.alloc (Obj.cells #[Value.slice (some ad) ks.length c, Value.slice S m d] 26)).alloc (Obj.cells #[.int .i64 0, .int .i64 0, .int .i64 0, .slice none 0 0] 107)).cell? ad1 = some (.int .i64 ks[i][0]) := (q0.cell (by exact hb1)).trans (by simpa [Addr.add] using k0)
      have k1' : ((w.alloc (Obj.cells #[Value.slice (some ad) ks.length c, Value.slice S m d] 26)).alloc (Obj.cells #[.int .i64 0, .int .i64 0, .int .i64 0, .slice none 0 0] 107)).cell? ⟨ad1.block, ad1.off + 1, none⟩ = some (.int .i64 ks[i][1]) := (q0.cell (by exact hb1)).trans (by simpa [Addr.add] using k1)
      have k2' : ((w.alloc (Obj.cells #[Value.slice (some ad) ks.length c, Value.slice S m d] 26)).alloc (Obj.cells #[.int .i64 0, .int .i64 0, .int .i64 0, .slice none 0 0] 107)).cell? ⟨ad1.block, ad1.off + 2, none⟩ = some (.int .i64 ks[i][2]) := (q0.cell (by exact hb1)).trans (by simpa [Addr.add] using k2)
      clear hk hc1 hi c0 k0 k1 k2
      go_enter Tryz.func78, Tryz.ntmps78
      go_wp2_with fail
      go_region
      all_goals go_wp2_with fail
      · rename_i h
        have qW : Q w (((w.alloc (Obj.cells #[Value.slice (some ad) ks.length c, Value.slice S m d] 26)).alloc (Obj.cells #[.int .i64 ks[i][0], .int .i64 ks[i][1], .int .i64 ks[i][2], .slice (some ad1) (ks[i].length - 3) 0] 107)).drew) := (((Q.refl w).alloc _).alloc _).drew
        refine bodyPost_ret (v := .tuple #[.agg #[.int .i64 ks[i][0], .int .i64 ks[i][1], .int .i64 ks[i][2], .slice (some ad1) (ks[i].length - 3) 0], .bool true]) (by simp [results, Tryz.f78, go_sem]) rfl (look_some HT.out (by simp) (fun h0 => ?_) qW)
        rw [List.length_drop] at h0
        omega
      · have qW : Q w (((w.alloc (Obj.cells #[Value.slice (some ad) ks.length c, Value.slice S m d] 26)).alloc (Obj.cells #[.int .i64 ks[i][0], .int .i64 ks[i][1], .int .i64 ks[i][2], .slice (some ⟨ad1.block, ad1.off + 3, none⟩) (ks[i].length - 3) (c1 - 3)] 107)).drew) := (((Q.refl w).alloc _).alloc _).drew
        refine bodyPost_ret (v := .tuple #[.agg #[.int .i64 ks[i][0], .int .i64 ks[i][1], .int .i64 ks[i][2], .slice (some ⟨ad1.block, ad1.off + 3, none⟩) (ks[i].length - 3) (c1 - 3)], .bool true]) (by simp [results, Tryz.f78, go_sem]) rfl (look_some HT.out (by simp) ?_ qW)
        exact drop_ints Hc.out hb1 qW 3
    · have HT := Lib.hid (termAt_short hlt (Nat.lt_of_not_le h3))
      have d3 : decide (ks[i].length < 3) = true := decide_eq_true (by omega)
      have c0' := (q0.cell (p := ad.add i) (by rw [add_block]; exact hb)).trans c0
      clear hk hi c0
      go_enter Tryz.func78, Tryz.ntmps78
      go_wp2_with fail
      exact bodyPost_ret (v := .tuple #[.agg #[.int .i64 0, .int .i64 0, .int .i64 0, .slice none 0 0], .bool false]) (by simp [results, Tryz.f78, go_sem]) rfl (look_none HT.out q0)

/-- a term in a box -/
structure Box4 (W : World) (B : Nat) (a b c d : Value) : Prop where
  c0 : W.cell? ⟨B, 0, none⟩ = some a
  c1 : W.cell? ⟨B, 1, none⟩ = some b
  c2 : W.cell? ⟨B, 2, none⟩ = some c
  c3 : W.cell? ⟨B, 3, none⟩ = some d
  f0 : W.frozen? ⟨B, 0, none⟩ = false
  f1 : W.frozen? ⟨B, 1, none⟩ = false
  f2 : W.frozen? ⟨B, 2, none⟩ = false
  f3 : W.frozen? ⟨B, 3, none⟩ = false
  lt : B < W.heap.size
theorem Box4.q {W W' : World} {B : Nat} {a b c d : Value} (h : Box4 W B a b c d) (q : Q W W') : Box4 W' B a b c d :=
  ⟨(q.cell (p := ⟨B, 0, none⟩) h.lt).trans h.c0, (q.cell (p := ⟨B, 1, none⟩) h.lt).trans h.c1, (q.cell (p := ⟨B, 2, none⟩) h.lt).trans h.c2, (q.cell (p := ⟨B, 3, none⟩) h.lt).trans h.c3,
   (q.frozen (p := ⟨B, 0, none⟩) h.lt).trans h.f0, (q.frozen (p := ⟨B, 1, none⟩) h.lt).trans h.f1, (q.frozen (p := ⟨B, 2, none⟩) h.lt).trans h.f2, (q.frozen (p := ⟨B, 3, none⟩) h.lt).trans h.f3, Nat.lt_of_lt_of_le h.lt q.size⟩
theorem Box4.new (w : World) (a b c d : Value) (t : TypeId) : Box4 (w.alloc (.cells #[a, b, c, d] t)) w.heap.size a b c d := ⟨by simp, by simp, by simp, by simp, by simp, by simp, by simp, by simp, by simp⟩
theorem Box4.far {W : World} {B : Nat} {a b c d : Value} (h : Box4 W B a b c d) {g i : Nat} (hg : g ≠ B) (v : Value) : Box4 (W.setCell ⟨g, i, none⟩ v) B a b c d :=
  ⟨(World.cell?_setCell_far _ _ _ _ hg).trans h.c0, (World.cell?_setCell_far _ _ _ _ hg).trans h.c1, (World.cell?_setCell_far _ _ _ _ hg).trans h.c2, (World.cell?_setCell_far _ _ _ _ hg).trans h.c3,
   by rw [World.frozen?_setCell]; exact h.f0, by rw [World.frozen?_setCell]; exact h.f1, by rw [World.frozen?_setCell]; exact h.f2, by rw [World.frozen?_setCell]; exact h.f3, by have := h.lt; simpa [World.setCell] using this⟩
theorem setCell_ne {W : World} {B i j : Nat} {v u : Value} (h : i ≠ j) (hc : W.cell? ⟨B, j, none⟩ = some u) : (W.setCell ⟨B, i, none⟩ v).cell? ⟨B, j, none⟩ = some u := by
  have := World.cell?_setCell_other (w := W) (a := ⟨B, i, none⟩) (b := ⟨B, j, none⟩) (v := v) (by intro e; injection e with _ e; exact h e)
  exact this.trans hc
theorem setCell_eq {W : World} {B i : Nat} {v u : Value} (hc : W.cell? ⟨B, i, none⟩ = some u) : (W.setCell ⟨B, i, none⟩ v).cell? ⟨B, i, none⟩ = some v := World.cell?_setCell_same' _ _ _ (by rw [hc]; rfl)
theorem Box4.set3 {W : World} {B : Nat} {a b c d : Value} (h : Box4 W B a b c d) (v : Value) : Box4 (W.setCell ⟨B, 3, none⟩ v) B a b c v :=
  ⟨setCell_ne (by omega) h.c0, setCell_ne (by omega) h.c1, setCell_ne (by omega) h.c2, setCell_eq h.c3, by rw [World.frozen?_setCell]; exact h.f0, by rw [World.frozen?_setCell]; exact h.f1, by rw [World.frozen?_setCell]; exact h.f2, by rw [World.frozen?_setCell]; exact h.f3, by have := h.lt; simpa [World.setCell] using this⟩
theorem Box4.all {W : World} {B : Nat} {a b c d : Value} (h : Box4 W B a b c d) (x y z u : Value) : Box4 ((((W.setCell ⟨B, 0, none⟩ x).setCell ⟨B, 1, none⟩ y).setCell ⟨B, 2, none⟩ z).setCell ⟨B, 3, none⟩ u) B x y z u := by
  have l1 : B < (W.setCell ⟨B, 0, none⟩ x).heap.size := by have := h.lt; simpa [World.setCell] using this
  refine ⟨setCell_ne (by omega) (setCell_ne (by omega) (setCell_ne (by omega) (setCell_eq h.c0))), setCell_ne (by omega) (setCell_ne (by omega) (setCell_eq (setCell_ne (by omega) h.c1))),
    setCell_ne (by omega) (setCell_eq (setCell_ne (by omega) (setCell_ne (by omega) h.c2))), setCell_eq (setCell_ne (by omega) (setCell_ne (by omega) (setCell_ne (by omega) h.c3))), ?_, ?_, ?_, ?_, ?_⟩
  · simp only [World.frozen?_setCell]; exact h.f0
  · simp only [World.frozen?_setCell]; exact h.f1
  · simp only [World.frozen?_setCell]; exact h.f2
  · simp only [World.frozen?_setCell]; exact h.f3
  · have := h.lt; simpa [World.setCell] using this

set_option maxRecDepth 100000 in
set_option maxHeartbeats 1000000 in
theorem of_any (A S : Option Addr) (n c m d : Nat) (ks : List (List Int)) (id : Int) (w : World) (hn : n = ks.length) (hk : Keys w w.heap.size A ks) (hs : ∀ k ∈ ks, k.length ≤ 100000) :
    Calls Tryz.prog 111 #[.agg #[.slice A n c, .slice S m d], .int .i64 id] w (LookPost ks id w) := by
  subst hn
  have q0 := ((Q.refl w).alloc (Obj.cells #[Value.slice A ks.length c, Value.slice S m d] 26)).alloc (Obj.cells #[.int .i64 0, .int .i64 0, .int .i64 0, .slice none 0 0] 107)
  have Hk := Lib.hid ((hk.q (Nat.le_refl _) q0).more q0.size)
  have b4 := Box4.new (w.alloc (Obj.cells #[Value.slice A ks.length c, Value.slice S m d] 26)) (.int .i64 0) (.int .i64 0) (.int .i64 0) (.slice none 0 0) 107
  rw [World.size_alloc] at b4
  have HB := Lib.hid b4
  have HT : Hid (((termAt ks id).getD .none).xs.length ≤ 100000) := by
    unfold Hid termAt
    split
    · rename_i h
      simp only [Bool.and_eq_true, isPl_iff] at h
      have hi : id.toNat < ks.length := by omega
      have := hs _ (List.getElem_mem hi)
      simp [ofKey, hi]
      omega
    · simp [Tm.none]
  clear hk b4 hs
  go_enter Tryz.func111, Tryz.ntmps111
  go_wp2_with fail
  generalize (w.alloc (Obj.cells #[Value.slice A ks.length c, Value.slice S m d] 26)).alloc (Obj.cells #[.int .i64 0, .int .i64 0, .int .i64 0, .slice none 0 0] 107) = W0 at *
  refine (look_any _ _ _ _ _ _ ks id _ rfl Hk.out).mono ?_
  rintro e w1 ⟨A1, n1, c1, rfl, hn1, hA1, q1⟩
  obtain ⟨t, ht⟩ : ∃ t, (termAt ks id).getD .none = t := ⟨_, rfl⟩
  obtain ⟨b, hb⟩ : ∃ b, (termAt ks id).isSome = b := ⟨_, rfl⟩
  have HP : Hid (∀ (A : Option Addr) (n c : Nat) (w' : World), n = t.xs.length → Ints w' w'.heap.size A t.xs → Q w w' → LookPost ks id w (.returned (.tuple #[.agg #[.int .i64 t.k, .int .i64 t.s, .int .i64 t.p, .slice A n c], .bool b])) w') := fun A n c w' h1 h3 h4 => ⟨A, n, c, by rw [ht, hb], by rw [ht]; exact h1, by rw [ht]; exact h3, h4⟩
  rw [ht] at hn1 hA1 HT ⊢
  rw [hb]
  clear ht hb
  have HA := Lib.hid hA1
  have Hn := Lib.hid hn1
  have HB1 := Lib.hid (HB.out.q q1)
  have q12 := (Q.refl w1).alloc (Obj.cells #[.int .i64 t.k, .int .i64 t.s, .int .i64 t.p, .slice A1 n1 c1] 107)
  have HB2 := Lib.hid (HB1.out.q q12)
  have HX := Lib.hid (Box4.new w1 (.int .i64 t.k) (.int .i64 t.s) (.int .i64 t.p) (.slice A1 n1 c1) 107)
  clear hA1 hn1
  go_wp2_with fail
  generalize w1.alloc (Obj.cells #[.int .i64 t.k, .int .i64 t.s, .int .i64 t.p, .slice A1 n1 c1] 107) = W2 at *
  refine (clone_any _ _ _ t.xs _ Hn.out ((HA.out.q (Nat.le_refl _) q12).more q12.size) HT.out).mono ?_
  rintro e w3 ⟨A3, c3, rfl, hA3, q3⟩
  have HA3 := Lib.hid hA3
  have HX3 := Lib.hid (HX.out.q q3)
  have HB3 := Lib.hid (HB2.out.q q3)
  clear hA3
  have x0 := HX3.out.c0
  have x1 := HX3.out.c1
  have x2 := HX3.out.c2
  have x3 := HX3.out.c3
  have y3 := HX3.out.f3
  have r0 := HB3.out.c0
  have r1 := HB3.out.c1
  have r2 := HB3.out.c2
  have r3 := HB3.out.c3
  have f0 := HB3.out.f0
  have f1 := HB3.out.f1
  have f2 := HB3.out.f2
  have f3 := HB3.out.f3
  have hne : w.heap.size + 1 < w1.heap.size := HB1.out.lt
  go_wp2_with fail
  have hb4 := ((HB3.out.far (g := w1.heap.size) (i := 3) (by omega) (.slice A3 t.xs.length c3)).all (.int .i64 t.k) (.int .i64 t.s) (.int .i64 t.p) (.slice A3 t.xs.length c3))
  have g0 := hb4.c0
  have g1 := hb4.c1
  have g2 := hb4.c2
  have g3 := hb4.c3
  have qa := ((q0.trans q1).trans q12).trans q3
  have qW := ((((qa.setCell (p := ⟨w1.heap.size, 3, none⟩) (by show _ ≤ w1.heap.size; omega) (.slice A3 t.xs.length c3)).setCell (p := ⟨w.heap.size + 1, 0, none⟩) (by show _ ≤ w.heap.size + 1; omega) (.int .i64 t.k)).setCell (p := ⟨w.heap.size + 1, 1, none⟩) (by show _ ≤ w.heap.size + 1; omega) (.int .i64 t.s)).setCell (p := ⟨w.heap.size + 1, 2, none⟩) (by show _ ≤ w.heap.size + 1; omega) (.int .i64 t.p)).setCell (p := ⟨w.heap.size + 1, 3, none⟩) (by show _ ≤ w.heap.size + 1; omega) (.slice A3 t.xs.length c3)
  refine bodyPost_ret (v := .tuple #[.agg #[.int .i64 t.k, .int .i64 t.s, .int .i64 t.p, .slice A3 t.xs.length c3], .bool b]) (by simp [results, Tryz.f111, go_sem, g0, g1, g2, g3]) rfl (HP.out _ _ _ _ rfl ?_ qW)
  have h2 := q12.size
  have hl2 : w1.heap.size < W2.heap.size := HX.out.lt
  intro h0
  obtain ⟨g, e, hg, ho⟩ := HA3.out h0
  refine ⟨_, e, by simp only [World.setCell]; have := ho.1; simpa [World.setCell] using this, fun i x hx => ?_⟩
  have hh := (ho.2 i x hx).1
  rw [add_zero_head]
  rw [World.cell?_setCell_far _ _ _ _ (by show w.heap.size + 1 ≠ g; omega), World.cell?_setCell_far _ _ _ _ (by show w.heap.size + 1 ≠ g; omega), World.cell?_setCell_far _ _ _ _ (by show w.heap.size + 1 ≠ g; omega), World.cell?_setCell_far _ _ _ _ (by show w.heap.size + 1 ≠ g; omega), World.cell?_setCell_far _ _ _ _ (by show w1.heap.size ≠ g; omega)]
  exact hh
end Go.Proofs.YtjmopbimleoidaaGreat.Tm

namespace Go.Proofs.YtjmopbimleoidaaGreat.Tm
open Go.RowKit Kit Hs Go.Maps

def isKindB (k : Int) : Bool := (k == 0) || (k == 1) || (k == 2) || (k == 4) || (k == 5) || (k == 6)
def partsN (k : Int) : Int := if k = 4 then 2 else if k = 5 then 2 else if k = 6 then 1 else 0
def D6 : DataW Unit := ((((((.map [] : DataW Unit).put (.int .i64 0) (.lit (.int .i64 0))).put (.int .i64 1) (.lit (.int .i64 0))).put (.int .i64 2) (.lit (.int .i64 0))).put (.int .i64 4) (.lit (.int .i64 2))).put (.int .i64 5) (.lit (.int .i64 2))).put (.int .i64 6) (.lit (.int .i64 1))
end Go.Proofs.YtjmopbimleoidaaGreat.Tm

namespace Go.Proofs.YtjmopbimleoidaaGreat.Tm
open Go.RowKit Kit Hs

/-- how many parts a constructor has -/
def arity (l : List Sg.Sig) (s : Int) : Int := ((l[s.toNat]?.getD (ByteArray.empty, ByteArray.empty)).2.size : Int)
def standB (l : List Sg.Sig) (t : Tm) : Bool :=
  if t.k = 2 then decide (0 ≤ t.s) && (t.p == 0) else if t.k = 3 then isPl t.s l.length && (t.p == 0) else if t.k = 6 then isPl t.s l.length && isPl t.p (arity l t.s) else (t.s == 0) && (t.p == 0)
def hasB (l : List Sg.Sig) (t : Tm) : Bool := if t.k = 3 then ((t.xs.length : Int) == arity l t.s) else isKindB t.k && ((t.xs.length : Int) == partsN t.k)
def allPl (xs : List Int) (many : Nat) : Bool := xs.all fun x => isPl x many
def mayB (l : List Sg.Sig) (many : Nat) (t : Tm) : Bool := standB l t && hasB l t && allPl t.xs many
theorem arity_at {l : List Sg.Sig} {i : Nat} (h : i < l.length) : arity l (i : Int) = (l[i].2.size : Int) := by simp [arity, h]
end Go.Proofs.YtjmopbimleoidaaGreat.Tm

namespace Go.Proofs.YtjmopbimleoidaaGreat.Tm
open Go.RowKit Kit Hs

theorem allPl_at (xs : List Int) (m k : Nat) (h : k < xs.length) : allPl (xs.drop k) m = (isPl xs[k] m && allPl (xs.drop (k + 1)) m) := by
  rw [List.drop_eq_getElem_cons h]; rfl
theorem allPl_end (xs : List Int) (m k : Nat) (h : xs.length ≤ k) : allPl (xs.drop k) m = true := by
  rw [List.drop_eq_nil_of_le h]; rfl

end Go.Proofs.YtjmopbimleoidaaGreat.Tm
