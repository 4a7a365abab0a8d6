/-
  Plain facts on slots: a free one is found, and the first one on the way; keys are laid one by one.
-/
import Derived.Test.YtgnbempkobgeiaaHashC
namespace Go.Proofs.Ytgnbempkobgeiaa.Hs
open Go.RowKit Kit

theorem least_of {P : Nat → Prop} [DecidablePred P] : ∀ (N : Nat), (∃ n, n < N ∧ P n) → ∃ n, n < N ∧ P n ∧ ∀ m, m < n → ¬ P m
  | 0, ⟨n, h, _⟩ => absurd h (Nat.not_lt_zero n)
  | N + 1, ⟨n, h, hp⟩ => by
    by_cases hx : ∃ n, n < N ∧ P n
    · obtain ⟨m, h1, h2, h3⟩ := least_of N hx
      exact ⟨m, by omega, h2, h3⟩
    · refine ⟨n, h, hp, fun m hm hq => hx ⟨m, by omega, hq⟩⟩

theorem reach (N h j : Nat) (hj : j < N) : ∃ J, J < N ∧ (h + J) % N = j := by
  have e := Nat.div_add_mod h N
  have hr : h % N < N := Nat.mod_lt _ (by omega)
  by_cases hle : h % N ≤ j
  · refine ⟨j - h % N, by omega, ?_⟩
    rw [show h + (j - h % N) = N * (h / N) + j by omega, Nat.mul_add_mod, Nat.mod_eq_of_lt hj]
  · refine ⟨j + N - h % N, by omega, ?_⟩
    rw [show h + (j + N - h % N) = N * (h / N + 1) + j by rw [Nat.mul_add]; omega, Nat.mul_add_mod, Nat.mod_eq_of_lt hj]

/-! ### the hash as a number -/
def hashN (l : List Int) : Nat := (hashI l).toNat
theorem mixN_range {h : Int} (h0 : 0 ≤ h ∧ h < 4294967296) (m : Int) (k : Nat) : 0 ≤ mixN h m k ∧ mixN h m k < 4294967296 := by
  induction k generalizing h m with
  | zero => exact h0
  | succ k ih => rw [mixN]; exact ih (by unfold mixB; omega) _
theorem hashF_range {h : Int} (h0 : 0 ≤ h ∧ h < 4294967296) (l : List Int) : 0 ≤ hashF h l ∧ hashF h l < 4294967296 := by
  induction l generalizing h with
  | nil => exact h0
  | cons x l ih => rw [hashF]; exact ih (mixN_range h0 _ _)
theorem hashN_eq (l : List Int) : hashI l = (hashN l : Int) := by
  have := hashF_range (h := 2166136261) (by omega) l
  unfold hashN hashI; omega
theorem hashN_lt (l : List Int) : hashN l < 4294967296 := by
  have := hashF_range (h := 2166136261) (by omega) l
  unfold hashN hashI; omega

/-! ### the way of a key ends at the first slot that stops it -/
abbrev nv : Int → Bool := fun _ => false
theorem visits_get (sl : List Int) (h k : Nat) (y : Nat × Int) (hy : y ∈ visits sl h k) : ∃ i, i < k ∧ y = visit sl h i := by
  unfold visits at hy
  rw [List.mem_map] at hy
  obtain ⟨i, hi, rfl⟩ := hy
  exact ⟨i, by simpa using hi, rfl⟩
theorem seekI_at {p : Int → Bool} {sl : List Int} {h J : Nat} {r : Int × Int} (hJ : J < sl.length) (hb : ∀ i, i < J → stepOf p (visit sl h i) = none) (hr : stepOf p (visit sl h J) = some r) : seekI p sl h = r :=
  seekI_stop (k := J + 1) hJ (visits_succ sl h J).symm (fun y hy => by obtain ⟨i, hi, rfl⟩ := visits_get sl h J y hy; exact hb i hi) hr
theorem seekI_free {p : Int → Bool} {sl : List Int} {h J : Nat} (hJ : J < sl.length) (hb : ∀ i, i < J → stepOf p (visit sl h i) = none) (hz : sl[(h + J) % sl.length]? = some 0) : seekI p sl h = ((((h + J) % sl.length : Nat) : Int), -1) :=
  seekI_at hJ hb (by simp [stepOf, visit, hz])

/-- how many slots are taken -/
def nz (sl : List Int) : Nat := sl.countP (· != 0)
theorem nz_set (sl : List Int) (s : Nat) (v : Int) : nz (sl.set s v) ≤ nz sl + 1 := by
  induction sl generalizing s with
  | nil => simp [nz]
  | cons x l ih =>
    cases s with
    | zero => simp only [List.set_cons_zero, nz, List.countP_cons]; split <;> split <;> omega
    | succ s => have := ih s; simp only [List.set_cons_succ, nz, List.countP_cons] at this ⊢; omega
theorem nz_free {sl : List Int} (h : nz sl < sl.length) : ∃ j, j < sl.length ∧ sl[j]? = some 0 := by
  induction sl with
  | nil => simp at h
  | cons x l ih =>
    by_cases hx : x = 0
    · subst hx; exact ⟨0, by simp, rfl⟩
    · have : nz l < l.length := by
        simp only [nz, List.countP_cons, List.length_cons] at h ⊢
        rw [if_pos (by simpa using hx)] at h
        omega
      obtain ⟨j, h1, h2⟩ := ih this
      exact ⟨j + 1, by simp; omega, by simpa using h2⟩
theorem nz_replicate (n : Nat) : nz (List.replicate n 0) = 0 := by simp [nz, List.countP_replicate]

/-- a free slot is found: the first one on the way -/
theorem free_way {sl : List Int} (h : Nat) (hf : nz sl < sl.length) : ∃ J, J < sl.length ∧ sl[(h + J) % sl.length]? = some 0 ∧ (∀ i, i < J → sl[(h + i) % sl.length]? ≠ some 0) ∧ seekI nv sl h = ((((h + J) % sl.length : Nat) : Int), -1) := by
  obtain ⟨j, hj, hz⟩ := nz_free hf
  obtain ⟨J0, hJ0, e0⟩ := reach sl.length h j hj
  obtain ⟨J, hJ, hz', hb⟩ := least_of (P := fun J => sl[(h + J) % sl.length]? = some 0) sl.length ⟨J0, hJ0, by rw [e0]; exact hz⟩
  refine ⟨J, hJ, hz', hb, seekI_free hJ (fun i hi => ?_) hz'⟩
  have hlt : (h + i) % sl.length < sl.length := Nat.mod_lt _ (by omega)
  have := hb i hi
  rw [List.getElem?_eq_getElem hlt] at this
  simp only [stepOf, visit, List.getElem?_eq_getElem hlt, Option.getD_some]
  rw [if_neg (by simpa using this)]
  rfl

/-! ### keys are laid -/
def slotOf (sl : List Int) (key : List Int) : Nat := (seekI nv sl (hashN key)).1.toNat
def putSlot (sl : List Int) (key : List Int) (i : Nat) : List Int := sl.set (slotOf sl key) ((i : Int) + 1)
def layF : List (List Int) → Nat → List Int → List Int
  | [], _, sl => sl
  | k :: ks, i, sl => layF ks (i + 1) (putSlot sl k i)
def layI (ks : List (List Int)) : List Int := layF ks 0 (List.replicate (sizeN ks.length) 0)
theorem layF_at (ks : List (List Int)) (i : Nat) (sl : List Int) (h : i < ks.length) : layF (ks.drop i) i sl = layF (ks.drop (i + 1)) (i + 1) (putSlot sl ks[i] i) := by
  rw [List.drop_eq_getElem_cons h]; rfl
theorem layF_end (ks : List (List Int)) (i : Nat) (sl : List Int) (h : ks.length ≤ i) : layF (ks.drop i) i sl = sl := by
  rw [List.drop_eq_nil_of_le h]; rfl
theorem putSlot_length (sl : List Int) (key : List Int) (i : Nat) : (putSlot sl key i).length = sl.length := by simp [putSlot]
theorem layF_length (ks : List (List Int)) (i : Nat) (sl : List Int) : (layF ks i sl).length = sl.length := by
  induction ks generalizing i sl with
  | nil => rfl
  | cons k ks ih => rw [layF, ih, putSlot_length]
theorem layI_length (ks : List (List Int)) : (layI ks).length = sizeN ks.length := by rw [layI, layF_length, List.length_replicate]
theorem putSlot_nz (sl : List Int) (key : List Int) (i : Nat) : nz (putSlot sl key i) ≤ nz sl + 1 := nz_set _ _ _

/-! ### sizes -/
theorem sizeG_spec (n : Nat) : ∀ (f p : Nat), n - p ≤ f → 0 < p → ∃ k, sizeG n p = 8 * (p * 2 ^ k) ∧ n ≤ 6 * (p * 2 ^ k) ∧ (k = 0 ∨ 3 * (p * 2 ^ k) < n)
  | f, p, hf, hp => by
    by_cases h : 6 * p < n
    · rw [sizeG_lt h hp]
      cases f with
      | zero => omega
      | succ f =>
        obtain ⟨k, e1, e2, e3⟩ := sizeG_spec n f (2 * p) (by omega) (by omega)
        have e : p * 2 ^ (k + 1) = 2 * p * 2 ^ k := by rw [Nat.pow_succ, Nat.mul_comm 2 p, Nat.mul_assoc, Nat.mul_comm (2 ^ k)]
        refine ⟨k + 1, by rw [e, e1], by rw [e]; exact e2, .inr ?_⟩
        rw [e]
        rcases e3 with rfl | e3
        · simp; omega
        · exact e3
    · exact ⟨0, by rw [sizeG_ge (by omega)]; simp, by simp; omega, .inl rfl⟩
theorem sizeN_spec (n : Nat) : ∃ k, sizeN n = 8 * 2 ^ k ∧ n ≤ 6 * 2 ^ k ∧ (k = 0 ∨ 3 * 2 ^ k < n) := by
  have := sizeG_spec n _ 1 (Nat.le_refl _) (by omega)
  simpa [sizeN] using this
theorem pow_pos2 (k : Nat) : 0 < 2 ^ k := Nat.pow_pos (by omega)
theorem sizeN_gt (n : Nat) : n < sizeN n := by
  obtain ⟨k, e, h, _⟩ := sizeN_spec n
  have := pow_pos2 k
  omega
theorem sizeN_le (n : Nat) : sizeN n ≤ 8 * (n + 1) := by
  obtain ⟨k, e, _, h⟩ := sizeN_spec n
  rcases h with rfl | h
  · simp at e; omega
  · omega
end Go.Proofs.Ytgnbempkobgeiaa.Hs
