/-
  Plain: what the laws of layer 8 say of sides and of what may not be.
-/
import Derived.Test.YtmohedkhbjeapaaRef8G
namespace Go.Proofs.Ytmohedkhbjeapaa.Ex
open Go.RowKit Kit Rw
open Go.Proofs.Ytmohedkhbjeapaa.Sg (Sig findI)

/-! ### on both sides, and on the other one -/
theorem turn_B (v : UInt8) : turnB 66 v = 66 := by
  unfold turnB
  rw [if_neg (show ¬ (v = 45 ∧ (66 : UInt8) = 76) by simp), if_neg (show ¬ (v = 45 ∧ (66 : UInt8) = 82) by simp)]
  split <;> rfl
mutual
theorem sides_B (L : List Sig) : ∀ e : Ex, e.sides L 66 = List.replicate e.size 66
  | .mk n ks => by
    simp only [Ex.sides]
    rw [sidesL_B L n 0 ks, show (Ex.mk n ks).size = (nodesL ks).length + 1 by simp [Ex.size, Ex.nodes], List.replicate_succ']
theorem sidesL_B (L : List Sig) (n : Tg) : ∀ (k : Nat) (ks : List Ex), sidesL L n 66 k ks = List.replicate (nodesL ks).length 66
  | k, [] => rfl
  | k, e :: r => by
    simp only [sidesL, turn_B, sides_B L e, sidesL_B L n (k + 1) r, nodesL, List.length_append, Ex.size, List.replicate_append_replicate]
end
/-- the other side -/
def dualB (b : UInt8) : UInt8 := if b = 76 then 82 else if b = 82 then 76 else b
def IsSide (b : UInt8) : Prop := b = 76 ∨ b = 82 ∨ b = 66
theorem side0_is (s : UInt8) : IsSide (side0 s) := by
  unfold side0
  split
  · next h => rcases h with h | h
              · exact .inl h
              · exact .inr (.inl h)
  · exact .inr (.inr rfl)
theorem turn_is {s : UInt8} (h : IsSide s) (v : UInt8) : IsSide (turnB s v) := by
  unfold turnB
  split
  · exact h
  · split
    · exact .inr (.inl rfl)
    · split
      · exact .inl rfl
      · exact .inr (.inr rfl)
theorem turn_dual {s : UInt8} (h : IsSide s) (v : UInt8) : turnB (dualB s) v = dualB (turnB s v) := by
  by_cases h43 : v = 43
  · unfold turnB; rw [if_pos h43, if_pos h43]
  · by_cases h45 : v = 45
    · subst h45
      rcases h with rfl | rfl | rfl <;> decide
    · unfold turnB
      rw [if_neg h43, if_neg h43, if_neg (fun h => h45 h.1), if_neg (fun h => h45 h.1), if_neg (fun h => h45 h.1), if_neg (fun h => h45 h.1)]
      rfl
mutual
theorem sides_dual (L : List Sig) : ∀ (s : UInt8) (e : Ex), IsSide s → e.sides L (dualB s) = (e.sides L s).map dualB
  | s, .mk n ks, h => by
    simp only [Ex.sides, List.map_append, List.map_cons, List.map_nil]
    rw [sidesL_dual L n s 0 ks h]
theorem sidesL_dual (L : List Sig) (n : Tg) (s : UInt8) : ∀ (k : Nat) (ks : List Ex), IsSide s → sidesL L n (dualB s) k ks = (sidesL L n s k ks).map dualB
  | k, [], _ => rfl
  | k, e :: r, h => by
    simp only [sidesL, List.map_append]
    rw [turn_dual h, sides_dual L _ e (turn_is h _), sidesL_dual L n s (k + 1) r h]
end
mutual
theorem sides_is (L : List Sig) : ∀ (s : UInt8) (e : Ex), IsSide s → ∀ b ∈ e.sides L s, IsSide b
  | s, .mk n ks, h => by
    intro b hb
    simp only [Ex.sides, List.mem_append, List.mem_cons, List.not_mem_nil, or_false] at hb
    rcases hb with hb | rfl
    · exact sidesL_is L n s 0 ks h b hb
    · exact h
theorem sidesL_is (L : List Sig) (n : Tg) (s : UInt8) : ∀ (k : Nat) (ks : List Ex), IsSide s → ∀ b ∈ sidesL L n s k ks, IsSide b
  | k, [], _ => by intro b hb; cases hb
  | k, e :: r, h => by
    intro b hb
    simp only [sidesL, List.mem_append] at hb
    rcases hb with hb | hb
    · exact sides_is L _ e (turn_is h _) b hb
    · exact sidesL_is L n s (k + 1) r h b hb
end

/-! ### a part's sides -/
theorem sides_part (L : List Sig) {l : List Tg} {x : Ex} (h : runS [] l = some [x]) (s : UInt8) {i : Nat} (hi : i < l.length) {c : Ex} (hc : treeAt l i = some c) :
    ∃ t, (x.sides L s)[i]? = some t ∧ ((x.sides L s).take (i + 1)).drop (startOf l i) = c.sides L t ∧ c.size ≤ i + 1 ∧ startOf l i = i + 1 - c.size := by
  obtain ⟨sk1, S, h1, h2, h3⟩ := fs_all L h s (l.length - (i + 1)) (i + 1) (by omega)
  unfold treeAt at hc
  rw [h1] at hc
  cases sk1 with
  | nil => cases hc
  | cons c' r =>
    injection hc with hc
    subst hc
    cases S with
    | nil => simp at h2
    | cons t T =>
      have hlr : T.length = r.length := by simpa using h2
      have hsum := run_sum h1 (by omega)
      simp only [sumS] at hsum
      have hfl := fs_len L r T hlr
      have hst : startOf l i = i + 1 - c'.size := start_of h1
      have hsz : c'.size ≤ i + 1 := by omega
      have hcp := size_pos c'
      refine ⟨t, ?_, ?_, hsz, hst⟩
      · rw [h3]
        simp only [fs]
        rw [List.append_assoc, List.getElem?_append_right (by omega), List.getElem?_append_left (by rw [sides_len]; omega), hfl, show i - sumS r = c'.size - 1 by omega]
        exact sides_last L t c'
      · have hlen : (fs L (c' :: r) (t :: T)).length = i + 1 := by rw [fs_len L _ _ h2]; simp only [sumS]; omega
        rw [h3, List.take_left' hlen]
        simp only [fs]
        rw [hst, List.drop_left' (by rw [hfl]; omega)]

/-! ### what may not be -/
theorem checkF_ok (L : List Sig) : ∀ (l : List Tg) (F : List UInt8) (i : Nat), F.length = l.length → ((checkF L l F i).2 = 0 ↔ ∀ (j : Nat) (h : j < l.length) (h' : j < F.length), badN L l[j] F[j] = 0)
  | [], [], i, _ => by simp [checkF]
  | [], _ :: _, _, h => by simp at h
  | _ :: _, [], _, h => by simp at h
  | n :: r, t :: T, i, h => by
    have h' : T.length = r.length := by simpa using h
    unfold checkF
    by_cases hb : badN L n t = 0
    · rw [if_pos hb, checkF_ok L r T (i + 1) h']
      constructor
      · intro hh j hj hj'
        cases j with
        | zero => exact hb
        | succ j => exact hh j (by simpa using hj) (by simpa using hj')
      · intro hh j hj hj'
        exact hh (j + 1) (by simpa using hj) (by simpa using hj')
    · rw [if_neg hb]
      constructor
      · intro hh; exact absurd hh hb
      · intro hh; exact absurd (hh 0 (by simp) (by simp)) hb
theorem checkF_first (L : List Sig) : ∀ (l : List Tg) (F : List UInt8) (i : Nat), F.length = l.length → ((checkF L l F i = (0, 0) ∧ ∀ (j : Nat) (h : j < l.length) (h' : j < F.length), badN L l[j] F[j] = 0) ∨
      ∃ (k : Nat) (h : k < l.length) (h' : k < F.length), checkF L l F i = (((i + k : Nat) : Int), badN L l[k] F[k]) ∧ badN L l[k] F[k] ≠ 0 ∧ ∀ (j : Nat) (hj : j < k), badN L (l[j]'(by omega)) (F[j]'(by omega)) = 0)
  | [], [], i, _ => .inl ⟨rfl, fun j h => absurd h (by simp)⟩
  | [], _ :: _, _, h => by simp at h
  | _ :: _, [], _, h => by simp at h
  | n :: r, t :: T, i, h => by
    have h' : T.length = r.length := by simpa using h
    unfold checkF
    by_cases hb : badN L n t = 0
    · rw [if_pos hb]
      rcases checkF_first L r T (i + 1) h' with ⟨h1, h2⟩ | ⟨k, hk, hk', h1, h2, h3⟩
      · refine .inl ⟨h1, fun j hj hj' => ?_⟩
        cases j with
        | zero => exact hb
        | succ j => exact h2 j (by simpa using hj) (by simpa using hj')
      · refine .inr ⟨k + 1, by simpa using hk, by simpa using hk', ?_, h2, fun j hj => ?_⟩
        · rw [h1, show i + 1 + k = i + (k + 1) by omega]
          rfl
        · cases j with
          | zero => exact hb
          | succ j => exact h3 j (by omega)
    · rw [if_neg hb]
      exact .inr ⟨0, by simp, by simp, rfl, hb, fun j hj => absurd hj (Nat.not_lt_zero _)⟩
/-- what may be on both sides may be on each -/
theorem bad_both {L : List Sig} {n : Tg} (h : badN L n 66 = 0) : ¬ (n.1 = 4 ∨ n.1 = 5 ∨ n.1 = 6) ∧ ∀ t, badN L n t = 0 := by
  unfold badN at h ⊢
  split at h
  · cases h
  · next h1 =>
    split at h
    · cases h
    · next h2 =>
      split at h
      · cases h
      · next h3 =>
        have h4 : ¬ (n.1 = 4 ∨ n.1 = 5 ∨ n.1 = 6) := by
          rintro (e | e | e)
          · exact h3 (.inl ⟨e, by decide⟩)
          · exact h3 (.inr ⟨.inl e, by decide⟩)
          · exact h3 (.inr ⟨.inr e, by decide⟩)
        refine ⟨h4, fun t => ?_⟩
        rw [if_neg h1, if_neg h2, if_neg]
        rintro (⟨e, _⟩ | ⟨e | e, _⟩)
        · exact h4 (.inl e)
        · exact h4 (.inr (.inl e))
        · exact h4 (.inr (.inr e))
theorem bad_leaf {L : List Sig} {n : Tg} (h : n.1 = 0 ∨ n.1 = 1 ∨ n.1 = 2) (t : UInt8) : badN L n t = 0 := by
  unfold badN
  rw [if_neg (by omega), if_neg (by omega), if_neg (by omega)]
theorem bad_values (L : List Sig) (n : Tg) (t : UInt8) : badN L n t = 0 ∨ ((n.1 = 3 ∨ n.1 = 6) ∧ (badN L n t = 3 ∨ badN L n t = 5)) ∨ ((n.1 = 4 ∨ n.1 = 5 ∨ n.1 = 6) ∧ badN L n t = 6) := by
  unfold badN
  split
  · next h => exact .inr (.inl ⟨h.1, .inl rfl⟩)
  · split
    · next h => exact .inr (.inl ⟨h.1, .inr rfl⟩)
    · split
      · next h =>
        refine .inr (.inr ⟨?_, rfl⟩)
        rcases h with ⟨h, _⟩ | ⟨h | h, _⟩
        · exact .inl h
        · exact .inr (.inl h)
        · exact .inr (.inr h)
      · exact .inl rfl
/-- without constructors each of them is unknown -/
theorem bad_none {n : Tg} (h : n.1 = 3 ∨ n.1 = 6) (t : UInt8) : badN [] n t = 3 := by
  unfold badN
  rw [if_pos ⟨h, by show (-1 : Int) < 0; decide⟩]
end Go.Proofs.Ytmohedkhbjeapaa.Ex
