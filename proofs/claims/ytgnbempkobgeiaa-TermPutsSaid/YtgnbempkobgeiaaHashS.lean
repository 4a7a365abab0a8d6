/-
  Contracts of the document's Same, Few, Right and Put; of hash.Put, whole, on right tables.
-/
import Derived.Test.YtgnbempkobgeiaaHashR
namespace Go.Proofs.Ytgnbempkobgeiaa.Hs
open Go.RowKit Kit

theorem Q.of_drewN {w w' : World} (h : ∃ d, w' = w.drewN d) : Q w w' := by obtain ⟨d, rfl⟩ := h; exact (Q.refl w).drewN d

def tabB (ks : List (List Int)) (sl : List Int) (ks' : List (List Int)) (sl' : List Int) : Bool := rowsB ks ks' && eqL sl sl'

set_option maxHeartbeats 1000000 in
theorem refSame_any (A S A' S' : Option Addr) (n c m d n' c' m' d' : Nat) (ks ks' : List (List Int)) (sl sl' : List Int) (w : World) (hn : n = ks.length) (hm : m = sl.length) (hn' : n' = ks'.length) (hm' : m' = sl'.length)
    (hk : Keys w w.heap.size A ks) (hS : Ints w w.heap.size S sl) (hk' : Keys w w.heap.size A' ks') (hS' : Ints w w.heap.size S' sl') (hl : ks.length ≤ maxLen) (hs : ∀ k ∈ ks, k.length ≤ maxLen) (hsl : sl.length ≤ maxLen) :
    Calls Try.prog 13 #[.agg #[.slice A n c, .slice S m d], .agg #[.slice A' n' c', .slice S' m' d']] w fun e w' => e = .returned (.bool (tabB ks sl ks' sl')) ∧ Q w w' := by
  subst hn
  subst hm
  subst hn'
  subst hm'
  have q0 := ((Q.refl w).alloc (Obj.cells #[Value.slice A ks.length c, Value.slice S sl.length d] 26)).alloc (Obj.cells #[Value.slice A' ks'.length c', Value.slice S' sl'.length d'] 26)
  have Hk := Lib.hid ((hk.q (Nat.le_refl _) q0).more q0.size)
  have HS := Lib.hid ((hS.q (Nat.le_refl _) q0).more q0.size)
  have Hk' := Lib.hid ((hk'.q (Nat.le_refl _) q0).more q0.size)
  have HS' := Lib.hid ((hS'.q (Nat.le_refl _) q0).more q0.size)
  have HB := Lib.hid (TwoB.new w (Value.slice A ks.length c) (Value.slice S sl.length d) (Value.slice A' ks'.length c') (Value.slice S' sl'.length d') 26 26)
  have Hs := Lib.hid hs
  clear hk hS hk' hS' hs
  cases hr : rowsB ks ks'
  · have HR : Hid (tabB ks sl ks' sl' = false) := by unfold Hid tabB; rw [hr]; rfl
    have Hr := Lib.hid hr
    clear hr
    go_enter Try.func13, Try.ntmps13
    go_wp2_with fail
    refine (refRows_any _ _ _ _ _ _ ks ks' _ rfl rfl Hk.out Hk'.out hl Hs.out).mono ?_
    rintro e w1 ⟨rfl, hd⟩
    have q1 := Q.of_drewN hd
    rw [Hr.out]
    clear hd
    go_wp2_with fail
    go_ret
    exact ⟨by rw [HR.out]; rfl, q0.trans q1⟩
  · have HR : Hid (tabB ks sl ks' sl' = eqL sl sl') := by unfold Hid tabB; rw [hr]; rfl
    have Hr := Lib.hid hr
    clear hr
    go_enter Try.func13, Try.ntmps13
    go_wp2_with fail
    refine (refRows_any _ _ _ _ _ _ ks ks' _ rfl rfl Hk.out Hk'.out hl Hs.out).mono ?_
    rintro e w1 ⟨rfl, hd⟩
    have q1 := Q.of_drewN hd
    rw [Hr.out]
    have HB1 := Lib.hid (HB.out.q q1)
    have c1 := HB1.out.c1
    have r1 := HB1.out.r1
    clear hd
    go_wp2_with fail
    refine (refInts_any _ _ _ _ _ _ sl sl' _ rfl rfl ((HS.out.q (Nat.le_refl _) q1).more q1.size) ((HS'.out.q (Nat.le_refl _) q1).more q1.size) hsl).mono ?_
    rintro e w2 ⟨rfl, hd⟩
    have q2 := Q.of_drewN hd
    clear hd
    go_wp2_with fail
    go_ret
    exact ⟨by rw [HR.out]; rfl, (q0.trans q1).trans q2⟩

/-! ### few -/
def fewF (n : Nat) : List (List Int) → Nat
  | [] => n
  | k :: l => if n ≤ 2000 then fewF (n + 1 + k.length) l else n
def fewB (ks : List (List Int)) (m : Nat) : Bool := decide (fewF m ks ≤ 2000)
theorem fewF_at (n : Nat) (ks : List (List Int)) (i : Nat) (h : i < ks.length) (hn : n ≤ 2000) : fewF n (ks.drop i) = fewF (n + 1 + ks[i].length) (ks.drop (i + 1)) := by
  rw [List.drop_eq_getElem_cons h, fewF, if_pos hn]
theorem fewF_big (n : Nat) (ks : List (List Int)) (hn : ¬ n ≤ 2000) : fewF n ks = n := by
  cases ks with
  | nil => rfl
  | cons k l => rw [fewF, if_neg hn]
theorem fewF_end (n : Nat) (ks : List (List Int)) (i : Nat) (h : ks.length ≤ i) : fewF n (ks.drop i) = n := by
  rw [List.drop_eq_nil_of_le h]; rfl
theorem fewF_sum : ∀ (ks : List (List Int)) (n : Nat), fewF n ks ≤ 2000 → n + ks.length + ks.flatten.length ≤ 2000
  | [], n, h => by simpa [fewF] using h
  | k :: l, n, h => by
    rw [fewF] at h
    by_cases hn : n ≤ 2000
    · rw [if_pos hn] at h
      have := fewF_sum l _ h
      rw [List.length_cons, List.flatten_cons, List.length_append]; omega
    · rw [if_neg hn] at h; omega
theorem few_sum {ks : List (List Int)} {m : Nat} (h : fewB ks m = true) : m + ks.length + ks.flatten.length ≤ 2000 := fewF_sum ks m (of_decide_eq_true h)

set_option maxHeartbeats 1000000 in
theorem refFew_any (A S : Option Addr) (n c m d : Nat) (ks : List (List Int)) (w : World) (hn : n = ks.length) (hk : Keys w w.heap.size A ks) (hl : ks.length ≤ 1152921504606846976) (hs : ∀ k ∈ ks, k.length ≤ 1152921504606846976) (hm : m ≤ 1152921504606846976) :
    Calls Try.prog 27 #[.agg #[.slice A n c, .slice S m d]] w fun e w' => e = .returned (.bool (fewB ks m)) ∧ Q w w' := by
  subst hn
  have q0 := (Q.refl w).alloc (Obj.cells #[Value.slice A ks.length c, Value.slice S m d] 26)
  have Hk := Lib.hid (hk.q (Nat.le_refl _) q0)
  clear hk
  go_enter Try.func27, Try.ntmps27
  go_wp2_with fail
  have c0 : (w.alloc (Obj.cells #[Value.slice A ks.length c, Value.slice S m d] 26)).cell? ⟨w.heap.size, 0, none⟩ = some (.slice A ks.length c) := by simp
  generalize w.alloc (Obj.cells #[Value.slice A ks.length c, Value.slice S m d] 26) = W at *
  go_loopw [3, 4] (fun s i wr => ∃ (k a : Nat), k ≤ ks.length ∧ i = .int .i64 k ∧ s = .int .i64 a ∧ a ≤ 2305843009213693952 ∧ Hid (fewF m ks = fewF a (ks.drop k)) ∧ W = wr) (fun _ i _ => ks.length - (intOf i).toNat)
  case atStart => exact ⟨0, m, Nat.zero_le _, rfl, rfl, by omega, Lib.hid (by simp), rfl⟩
  case round =>
    obtain ⟨k, a, hk, rfl, rfl, ha, HF, rfl⟩ := hrel
    by_cases hlt : k < ks.length
    · by_cases h2 : a ≤ 2000
      · obtain ⟨ad, rfl, hb, a1, c1, _, k0, _⟩ := Hk.out.at_ hlt
        have HS := Lib.hid (fewF_at a ks k hlt h2)
        have hs1 := hs _ (List.getElem_mem hlt)
        go_wp2_with fail
        go_roundw
        case rel => exact ⟨k + 1, a + 1 + ks[k].length, by omega, by go_num, by go_num, by omega, Lib.hid (HF.out.trans HS.out), trivial⟩
        case measure => simp [intOf]; omega
      · have HS := Lib.hid (fewF_big a (ks.drop k) h2)
        have HR : Hid (fewB ks m = false) := by unfold Hid fewB; rw [HF.out, HS.out]; exact decide_eq_false h2
        go_wp2_with fail
        go_ret
        exact ⟨by rw [HR.out]; simp; omega, q0⟩
    · have HS := Lib.hid (fewF_end a ks k (by omega))
      have HR : Hid (fewB ks m = decide (a ≤ 2000)) := by unfold Hid fewB; rw [HF.out, HS.out]
      go_wp2_with fail
      go_ret
      exact ⟨by rw [HR.out]; simp; omega, q0⟩
end Go.Proofs.Ytgnbempkobgeiaa.Hs
