/-
  Plain facts on tables: what was laid is found; with a key more a table is as laid anew.
-/
import Derived.Test.YtgnbempkobgeiaaHashP
namespace Go.Proofs.Ytgnbempkobgeiaa.Hs
open Go.RowKit Kit

/-- where a key stands in a row, from i on; -1 -/
def atF (key : List Int) : List (List Int) → Nat → Int
  | [], _ => -1
  | k :: l, i => if eqL k key then (i : Int) else atF key l (i + 1)
def atI (ks : List (List Int)) (key : List Int) : Int := atF key ks 0
theorem atF_at (key : List Int) (ks : List (List Int)) (i : Nat) (h : i < ks.length) : atF key (ks.drop i) i = if eqL ks[i] key then (i : Int) else atF key (ks.drop (i + 1)) (i + 1) := by
  rw [List.drop_eq_getElem_cons h]; rfl
theorem atF_end (key : List Int) (ks : List (List Int)) (i : Nat) (h : ks.length ≤ i) : atF key (ks.drop i) i = -1 := by
  rw [List.drop_eq_nil_of_le h]; rfl
theorem atF_spec (key : List Int) : ∀ (ks : List (List Int)) (k : Nat), (atF key ks k = -1 ∧ ∀ (i : Nat) (x : List Int), ks[i]? = some x → x ≠ key) ∨ ∃ i : Nat, ks[i]? = some key ∧ atF key ks k = ((k + i : Nat) : Int) ∧ ∀ (j : Nat) (x : List Int), j < i → ks[j]? = some x → x ≠ key
  | [], _ => .inl ⟨rfl, fun i x h => by simp at h⟩
  | y :: l, k => by
    rw [atF]
    cases he : eqL y key
    · have hne : y ≠ key := fun e => by rw [(eqL_iff y key).2 e] at he; cases he
      simp only [Bool.false_eq_true, if_false]
      rcases atF_spec key l (k + 1) with ⟨h1, h2⟩ | ⟨i, h1, h2, h3⟩
      · refine .inl ⟨h1, fun i x hx => ?_⟩
        cases i with
        | zero => obtain rfl : y = x := by simpa using hx
                  exact hne
        | succ i => exact h2 i x (by simpa using hx)
      · refine .inr ⟨i + 1, by simpa using h1, by rw [h2]; congr 1; omega, fun j x hj hx => ?_⟩
        cases j with
        | zero => obtain rfl : y = x := by simpa using hx
                  exact hne
        | succ j => exact h3 j x (by omega) (by simpa using hx)
    · rw [if_pos rfl]
      exact .inr ⟨0, by simp [(eqL_iff y key).1 he], by simp, fun j x hj => by omega⟩
/-- none of a row's keys is the same as another -/
def Dist (ks : List (List Int)) : Prop := ∀ (i j : Nat) (x : List Int), ks[i]? = some x → ks[j]? = some x → i = j
theorem atI_none {ks : List (List Int)} {key : List Int} (h : ∀ (i : Nat) x, ks[i]? = some x → x ≠ key) : atI ks key = -1 := by
  rcases atF_spec key ks 0 with ⟨h1, _⟩ | ⟨i, h1, _⟩
  · exact h1
  · exact absurd rfl (h i key h1)
theorem atI_some {ks : List (List Int)} {key : List Int} {i : Nat} (hd : Dist ks) (h : ks[i]? = some key) : atI ks key = i := by
  rcases atF_spec key ks 0 with ⟨_, h2⟩ | ⟨j, h1, h2, _⟩
  · exact absurd rfl (h2 i key h)
  · unfold atI; rw [h2, hd i j key h h1]; omega
theorem atI_cases (ks : List (List Int)) (key : List Int) : (atI ks key = -1 ∧ ∀ (i : Nat) (x : List Int), ks[i]? = some x → x ≠ key) ∨ ∃ i : Nat, ks[i]? = some key ∧ atI ks key = i := by
  rcases atF_spec key ks 0 with h | ⟨i, h1, h2, _⟩
  · exact .inl h
  · exact .inr ⟨i, h1, by unfold atI; rw [h2]; omega⟩

/-! ### which keys a place's key is the same as -/
theorem sameP_nat (ks : List (List Int)) (key : List Int) (i : Nat) : sameP ks key (i : Int) = true ↔ ks[i]? = some key := by
  unfold sameP
  by_cases h : i < ks.length
  · simp only [Int.natCast_nonneg, decide_true, Int.toNat_natCast, Bool.true_and, show ((i : Int) < (ks.length : Int)) = True by simp [h], List.getElem?_eq_getElem h, Option.getD_some, eqL_iff, Option.some.injEq]
  · rw [List.getElem?_eq_none (by omega)]
    simp [h]
theorem sameP_none {ks : List (List Int)} {key : List Int} (h : ∀ (i : Nat) x, ks[i]? = some x → x ≠ key) : sameP ks key = nv := by
  funext x
  cases he : sameP ks key x
  · rfl
  · have h0 : 0 ≤ x := by unfold sameP at he; simp only [Bool.and_eq_true, decide_eq_true_eq] at he; exact he.1.1
    obtain ⟨i, rfl⟩ := Int.eq_ofNat_of_zero_le h0
    exact absurd rfl (h i key ((sameP_nat ks key i).1 he))
theorem seekL_congr {p q : Int → Bool} : ∀ {l : List (Nat × Int)}, (∀ x ∈ l, stepOf p x = stepOf q x) → seekL p l = seekL q l
  | [], _ => rfl
  | x :: l, h => by rw [seekL, seekL, h x (List.mem_cons_self ..), seekL_congr fun y hy => h y (List.mem_cons_of_mem _ hy)]

/-! ### what is laid -/
structure Inv (ks : List (List Int)) (n : Nat) (sl : List Int) : Prop where
  range : ∀ (s : Nat) (v : Int), sl[s]? = some v → 0 ≤ v ∧ v ≤ n
  path : ∀ (i : Nat) (k : List Int), i < n → ks[i]? = some k → ∃ J, J < sl.length ∧ sl[(hashN k + J) % sl.length]? = some ((i : Int) + 1) ∧ ∀ j, j < J → sl[(hashN k + j) % sl.length]? ≠ some 0
  few : nz sl ≤ n
theorem Inv.start (ks : List (List Int)) (N : Nat) : Inv ks 0 (List.replicate N 0) :=
  ⟨fun s v h => by rw [List.getElem?_replicate] at h; split at h <;> simp at h; omega, fun i k h => by omega, by rw [nz_replicate]; omega⟩
theorem Inv.step {ks : List (List Int)} {n : Nat} {sl : List Int} {key : List Int} (h : Inv ks n sl) (hn : n < sl.length) (hk : ks[n]? = some key) : Inv ks (n + 1) (putSlot sl key n) := by
  obtain ⟨J, hJ, hz, hb, hs⟩ := free_way (hashN key) (Nat.lt_of_le_of_lt h.few hn)
  have hsl : (hashN key + J) % sl.length < sl.length := Nat.mod_lt _ (by omega)
  have e : putSlot sl key n = sl.set ((hashN key + J) % sl.length) ((n : Int) + 1) := by unfold putSlot slotOf; rw [hs]; rfl
  rw [e]
  obtain ⟨s, hse⟩ : ∃ s, (hashN key + J) % sl.length = s := ⟨_, rfl⟩
  rw [hse] at hz hsl ⊢
  have other : ∀ (t : Nat) (v : Int), sl[t]? = some v → v ≠ 0 → (sl.set s ((n : Int) + 1))[t]? = some v := fun t v ht hv => by
    rw [List.getElem?_set_ne (fun e => by subst e; rw [ht] at hz; injection hz with hz; exact hv hz)]; exact ht
  have nzero : ∀ t : Nat, sl[t]? ≠ some (0 : Int) → (sl.set s ((n : Int) + 1))[t]? ≠ some (0 : Int) := fun t ht => by
    by_cases e : s = t
    · subst e; rw [List.getElem?_set_self hsl]; intro h; injection h with h; omega
    · rw [List.getElem?_set_ne e]; exact ht
  refine ⟨fun t v ht => ?_, fun i k hi hk' => ?_, Nat.le_trans (nz_set _ _ _) (Nat.succ_le_succ h.few)⟩
  · by_cases e : s = t
    · subst e; rw [List.getElem?_set_self hsl] at ht; injection ht with ht; omega
    · rw [List.getElem?_set_ne e] at ht; have := h.range t v ht; omega
  · rw [List.length_set]
    by_cases hin : i < n
    · obtain ⟨J', h1, h2, h3⟩ := h.path i k hin hk'
      exact ⟨J', h1, other _ _ h2 (by omega), fun j hj => nzero _ (h3 j hj)⟩
    · obtain rfl : i = n := by omega
      rw [hk] at hk'
      obtain rfl : key = k := by simpa using hk'
      exact ⟨J, hJ, by rw [hse, List.getElem?_set_self hsl], fun j hj => nzero _ (hb j hj)⟩
theorem layF_inv (ks : List (List Int)) : ∀ (m i : Nat) (sl : List Int), m = ks.length - i → Inv ks i sl → i ≤ ks.length → ks.length < sl.length → Inv ks ks.length (layF (ks.drop i) i sl)
  | 0, i, sl, hm, h, hi, _ => by
    rw [layF_end ks i sl (by omega), show ks.length = i by omega]; exact h
  | m + 1, i, sl, hm, h, hi, hl => by
    have hlt : i < ks.length := by omega
    rw [layF_at ks i sl hlt]
    exact layF_inv ks m (i + 1) _ (by omega) (h.step (by omega) (List.getElem?_eq_getElem hlt)) (by omega) (by rw [putSlot_length]; exact hl)
theorem lay_inv (ks : List (List Int)) : Inv ks ks.length (layI ks) := by
  have := layF_inv ks _ 0 _ rfl (Inv.start ks (sizeN ks.length)) (Nat.zero_le _) (by rw [List.length_replicate]; exact sizeN_gt _)
  simpa [layI] using this

theorem wrap_pred {v : Int} (h : 0 ≤ v ∧ v ≤ 1000000) : wrap64 (v - 1) = v - 1 := by unfold wrap64; omega

/-- a key that is there is found at its place -/
theorem find_there {ks : List (List Int)} {key : List Int} {i : Nat} {sl : List Int} (hi : Inv ks ks.length sl) (hd : Dist ks) (hl : ks.length ≤ 100000) (h : ks[i]? = some key) : ∃ s : Nat, s < sl.length ∧ seekI (sameP ks key) sl (hashN key) = ((s : Int), (i : Int)) := by
  have hin := (List.getElem?_eq_some_iff.1 h).1
  obtain ⟨J, hJ, h2, h3⟩ := hi.path i key hin h
  obtain ⟨J', h1', h2', h3'⟩ := least_of (P := fun j => sl[(hashN key + j) % sl.length]? = some ((i : Int) + 1)) (J + 1) ⟨J, by omega, h2⟩
  have hm : ∀ j, (hashN key + j) % sl.length < sl.length := fun j => Nat.mod_lt _ (by omega)
  refine ⟨(hashN key + J') % sl.length, hm J', seekI_at (J := J') (by omega) (fun j hj => ?_) ?_⟩
  · have hv := List.getElem?_eq_getElem (hm j)
    have r := hi.range _ _ hv
    have n0 := h3 j (by omega)
    have n1 := h3' j hj
    rw [hv] at n0 n1
    obtain ⟨v, hve⟩ : ∃ v, sl[(hashN key + j) % sl.length]'(hm j) = v := ⟨_, rfl⟩
    rw [hve] at hv n0 n1 r
    have n0' : v ≠ 0 := fun e => n0 (by rw [e])
    have n1' : v ≠ (i : Int) + 1 := fun e => n1 (by rw [e])
    simp only [stepOf, visit, hv, Option.getD_some]
    rw [if_neg (by simpa using n0'), wrap_pred (by omega)]
    obtain ⟨t, ht⟩ := Int.eq_ofNat_of_zero_le (show 0 ≤ v - 1 by omega)
    rw [ht]
    have hf : sameP ks key (t : Int) = false := by
      cases hs : sameP ks key (t : Int)
      · rfl
      · have := hd i t key h ((sameP_nat ks key t).1 hs)
        omega
    rw [hf]
    rfl
  · simp only [stepOf, visit, h2', Option.getD_some]
    rw [if_neg (by simp; omega), wrap_pred (by omega), show (i : Int) + 1 - 1 = i by omega, (sameP_nat ks key i).2 h]
    rfl
/-- one that isn't there comes to the first free slot of its way -/
theorem find_not {ks : List (List Int)} {key : List Int} {sl : List Int} (hi : Inv ks ks.length sl) (hl : ks.length < sl.length) (h : ∀ (i : Nat) x, ks[i]? = some x → x ≠ key) : slotOf sl key < sl.length ∧ seekI (sameP ks key) sl (hashN key) = ((slotOf sl key : Int), -1) := by
  obtain ⟨J, hJ, _, _, hs⟩ := free_way (hashN key) (Nat.lt_of_le_of_lt hi.few hl)
  have hm : (hashN key + J) % sl.length < sl.length := Nat.mod_lt _ (by omega)
  rw [sameP_none h]
  unfold slotOf
  rw [hs]
  exact ⟨hm, rfl⟩

/-! ### with a key more -/
theorem layF_snoc (key : List Int) : ∀ (ks : List (List Int)) (i : Nat) (sl : List Int), layF (ks ++ [key]) i sl = putSlot (layF ks i sl) key (i + ks.length)
  | [], i, sl => rfl
  | k :: ks, i, sl => by rw [List.cons_append, layF, layF, layF_snoc key ks, List.length_cons]; congr 1; omega
theorem lay_snoc {ks : List (List Int)} {key : List Int} (h : sizeN (ks.length + 1) = sizeN ks.length) : layI (ks ++ [key]) = (layI ks).set (slotOf (layI ks) key) ((ks.length : Int) + 1) := by
  unfold layI
  rw [List.length_append, List.length_singleton, h, layF_snoc, Nat.zero_add]
  rfl
theorem Dist.snoc {ks : List (List Int)} {key : List Int} (hd : Dist ks) (h : ∀ (i : Nat) x, ks[i]? = some x → x ≠ key) : Dist (ks ++ [key]) := fun i j x hi hj => by
  rw [List.getElem?_append] at hi hj
  split at hi <;> split at hj
  · exact hd i j x hi hj
  · rename_i h1 h2
    have hx : x = key := by
      have := List.mem_of_getElem? hj
      simpa using this
    exact absurd hx (h i x hi)
  · rename_i h1 h2
    have hx : x = key := by
      have := List.mem_of_getElem? hi
      simpa using this
    exact absurd hx (h j x hj)
  · rename_i h1 h2
    have e1 := (List.getElem?_eq_some_iff.1 hi).1
    have e2 := (List.getElem?_eq_some_iff.1 hj).1
    simp at e1 e2
    omega

/-! ### what the table with a key is -/
def putL (ks : List (List Int)) (key : List Int) : List (List Int) := if atI ks key < 0 then ks ++ [key] else ks
def placeI (ks : List (List Int)) (key : List Int) : Int := if atI ks key < 0 then (ks.length : Int) else atI ks key
def newB (ks : List (List Int)) (key : List Int) : Bool := decide (atI ks key < 0)
theorem putL_dist {ks : List (List Int)} {key : List Int} (hd : Dist ks) : Dist (putL ks key) := by
  unfold putL
  rcases atI_cases ks key with ⟨h1, h2⟩ | ⟨i, h1, h2⟩
  · rw [if_pos (by omega)]; exact hd.snoc h2
  · rw [if_neg (by omega)]; exact hd
theorem putL_at {ks : List (List Int)} {key : List Int} (hd : Dist ks) : atI (putL ks key) key = placeI ks key := by
  unfold putL placeI
  rcases atI_cases ks key with ⟨h1, h2⟩ | ⟨i, h1, h2⟩
  · rw [if_pos (by omega), if_pos (by omega)]
    exact atI_some (hd.snoc h2) (by rw [List.getElem?_append_right (Nat.le_refl _)]; simp)
  · rw [if_neg (by omega), if_neg (by omega)]
theorem putL_old {ks : List (List Int)} {key x : List Int} {i : Nat} (hd : Dist ks) (h : ks[i]? = some x) : atI (putL ks key) x = i := by
  refine atI_some (putL_dist hd) ?_
  unfold putL
  split
  · rw [List.getElem?_append_left (List.getElem?_eq_some_iff.1 h).1]; exact h
  · exact h
theorem placeI_nonneg {ks : List (List Int)} {key : List Int} : 0 ≤ placeI ks key := by
  unfold placeI
  split <;> omega
theorem putL_again {ks : List (List Int)} {key : List Int} (hd : Dist ks) : putL (putL ks key) key = putL ks key := by
  have h := putL_at (key := key) hd
  have := @placeI_nonneg ks key
  rw [putL, if_neg (by omega)]
end Go.Proofs.Ytgnbempkobgeiaa.Hs
