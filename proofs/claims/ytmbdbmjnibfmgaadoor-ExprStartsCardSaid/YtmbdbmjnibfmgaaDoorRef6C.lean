/-
  Plain: a text from a place on; how far its token goes; numbers.
-/
import Derived.Test.YtmbdbmjnibfmgaaDoorRef6B
import Derived.Lib.Bytealg
import Derived.Lib.Strings
namespace Go.Proofs.YtmbdbmjnibfmgaaDoor.Lx
open Go.RowKit Kit

/-- a text's bytes, from a place on -/
def from_ (s : ByteArray) (k : Nat) : List UInt8 := s.data.toList.drop k
theorem from_at (s : ByteArray) (k : Nat) (h : k < s.size) : from_ s k = s[k] :: from_ s (k + 1) := List.drop_eq_getElem_cons (by simpa using h)
theorem from_end (s : ByteArray) (k : Nat) (h : s.size ≤ k) : from_ s k = [] := List.drop_eq_nil_of_le (by simpa using h)
theorem from_len (s : ByteArray) (k : Nat) : (from_ s k).length = s.size - k := by simp [from_]
def run_ (f : UInt8 → Bool) (s : ByteArray) (k : Nat) : Nat := ((from_ s k).takeWhile f).length
theorem run_yes {f : UInt8 → Bool} {s : ByteArray} {k : Nat} (h : k < s.size) (hf : f s[k] = true) : run_ f s k = run_ f s (k + 1) + 1 := by
  unfold run_; rw [from_at s k h]; simp [hf]
theorem run_no {f : UInt8 → Bool} {s : ByteArray} {k : Nat} (h : k < s.size) (hf : f s[k] = false) : run_ f s k = 0 := by
  unfold run_; rw [from_at s k h]; simp [hf]
theorem run_end {f : UInt8 → Bool} {s : ByteArray} {k : Nat} (h : s.size ≤ k) : run_ f s k = 0 := by
  unfold run_; rw [from_end s k h]; rfl
theorem run_le (f : UInt8 → Bool) (s : ByteArray) (k : Nat) : run_ f s k ≤ s.size - k := by
  unfold run_
  have := takeWhile_le (f := f) (from_ s k)
  rw [from_len] at this
  exact this

/-- how far a number goes from a place on; 0: it may not be -/
def numE (s : ByteArray) (p : Nat) : Nat := if 9 < run_ fig s p ∨ (1 < run_ fig s p ∧ (from_ s p).head? = some 48) then 0 else run_ fig s p
theorem u8_eq (a b : UInt8) : a = b ↔ (a.toNat : Int) = b.toNat := by
  rw [← UInt8.toNat_inj]; omega

def pre (p l : List UInt8) : Bool := Lib.hasPrefix l p
/-- how far a sign goes from a place on; 0: there is none -/
def signE (l : List UInt8) : Nat := if pre [60, 61] l = true ∨ pre [58, 61] l = true then 2 else if 0 ≤ Lib.indexByte signs (l.headD 0) then 1 else 0
def signsS : ByteArray := ⟨#[40, 41, 44, 124, 38, 126, 43, 45, 61, 42, 123, 125, 59, 58]⟩

/-! ### which kind, and what tells how far -/
def kindC (c : UInt8) : Int := if ltr c = true then 1 else if fig c = true then 2 else 3
/-! ### the same, plainly -/
theorem ltr_goes {c : UInt8} (h : ltr c = true) : goes c = true := by unfold goes goesI; unfold ltr at h; rw [h]; rfl
theorem name_len (s : ByteArray) (p : Nat) (hp : p < s.size) (h : ltr s[p] = true) : tk s[p] (from_ s (p + 1)) = some (1, run_ goes s (p + 1)) ∧ run_ goes s p = run_ goes s (p + 1) + 1 :=
  ⟨by unfold tk; rw [if_pos h]; rfl, run_yes hp (ltr_goes h)⟩
theorem number_len (s : ByteArray) (p : Nat) (hp : p < s.size) (h : fig s[p] = true) : numLen s[p] (from_ s (p + 1)) = if numE s p = 0 then none else some (numE s p - 1) := by
  have e := run_yes hp h
  have e2 : (from_ s p).head? = some s[p] := by rw [from_at s p hp]; rfl
  have e3 : ((from_ s (p + 1)).takeWhile fig).length = run_ fig s (p + 1) := rfl
  unfold numE numLen
  rw [e, e2, e3]
  generalize run_ fig s (p + 1) = n
  have hA : (9 < n + 1 ∨ (1 < n + 1 ∧ some s[p] = some 48)) ↔ (9 ≤ n ∨ (1 ≤ n ∧ s[p] = 48)) := by
    rw [Option.some.injEq]
    constructor
    · rintro (h | ⟨h, h'⟩)
      · exact .inl (by omega)
      · exact .inr ⟨by omega, h'⟩
    · rintro (h | ⟨h, h'⟩)
      · exact .inl (by omega)
      · exact .inr ⟨by omega, h'⟩
  simp only [hA]
  split <;> simp
theorem index_mem (c : UInt8) : ∀ l : List UInt8, 0 ≤ Lib.indexByte l c ↔ c ∈ l
  | [] => by simp [Lib.indexByte]
  | b :: l => by
    have ih := index_mem c l
    have hg := Lib.indexByte_ge l c
    unfold Lib.indexByte
    by_cases hb : b = c
    · subst hb; simp
    · have hb' : (b == c) = false := by simpa using hb
      have hb2 : ¬ c = b := fun e => hb e.symm
      rw [hb']
      simp only [Bool.false_eq_true, if_false, List.mem_cons, hb2, false_or]
      rw [← ih]
      by_cases h1 : Lib.indexByte l c = -1
      · simp [h1]
      · have : (Lib.indexByte l c == -1) = false := by simpa using h1
        rw [this]; simp; omega
theorem pre_two (a c : UInt8) (r : List UInt8) : pre [a, 61] (c :: r) = true ↔ c = a ∧ r.head? = some 61 := by
  cases r with
  | nil => simp [pre, Lib.hasPrefix]
  | cons d r =>
    show (a == c && (61 == d && true)) = true ↔ _
    simp only [Bool.and_true, Bool.and_eq_true, beq_iff_eq, List.head?_cons, Option.some.injEq]
    constructor <;> rintro ⟨h, h'⟩ <;> exact ⟨h.symm, h'.symm⟩
theorem sign_len (c : UInt8) (r : List UInt8) : signLen c r = if signE (c :: r) = 0 then none else some (signE (c :: r) - 1) := by
  have h1 : pre [60, 61] (c :: r) = true ↔ c = 60 ∧ r.head? = some 61 := pre_two 60 c r
  have h2 : pre [58, 61] (c :: r) = true ↔ c = 58 ∧ r.head? = some 61 := pre_two 58 c r
  unfold signLen signE
  by_cases h3 : (c = 60 ∨ c = 58) ∧ r.head? = some 61
  · have h4 : pre [60, 61] (c :: r) = true ∨ pre [58, 61] (c :: r) = true := by rw [h1, h2]; rcases h3 with ⟨h | h, h'⟩ <;> simp [h, h']
    simp [if_pos h3, if_pos h4]
  · have h4 : ¬ (pre [60, 61] (c :: r) = true ∨ pre [58, 61] (c :: r) = true) := by
      rw [h1, h2]; rintro (⟨h, h'⟩ | ⟨h, h'⟩) <;> exact h3 (by simp [h, h'])
    rw [if_neg h3, if_neg h4]
    have h5 := index_mem c signs
    simp only [List.headD_cons]
    by_cases h6 : c ∈ signs
    · simp [h6, h5.2 h6]
    · have h7 : ¬ 0 ≤ Lib.indexByte signs c := fun h => h6 (h5.1 h)
      simp [h6, h7]
/-- how far the token at a place goes; 0: there is none -/
def goE (s : ByteArray) (p : Nat) (c : UInt8) : Nat := if ltr c = true then run_ goes s p else if fig c = true then numE s p else signE (from_ s p)
theorem tk_go (s : ByteArray) (p : Nat) (hp : p < s.size) : tk s[p] (from_ s (p + 1)) = if goE s p s[p] = 0 then none else some ((kindC s[p]).toNat, goE s p s[p] - 1) := by
  unfold goE kindC
  cases hl : ltr s[p]
  · cases hf : fig s[p]
    · unfold tk; simp only [hl, hf, Bool.false_eq_true, if_false]; rw [sign_len, ← from_at s p hp]; split <;> rfl
    · unfold tk; simp only [hl, hf, Bool.false_eq_true, if_false, if_true]; rw [number_len s p hp hf]; split <;> rfl
  · obtain ⟨h1, h2⟩ := name_len s p hp hl
    simp [h1, h2]
def valL (a : Nat) : List UInt8 → Nat
  | [] => a
  | b :: r => valL (a * 10 + (b.toNat - 48)) r
theorem fig_iff (b : UInt8) : fig b = true ↔ 48 ≤ b.toNat ∧ b.toNat ≤ 57 := by
  simp only [fig, figI, Bool.and_eq_true, decide_eq_true_eq]; omega
/-- the number that a text is, if it is one -/
def numOf (l : List UInt8) : Option Nat := if l = [] ∨ 9 < l.length ∨ (l.head? = some 48 ∧ 1 < l.length) ∨ l.all fig = false then none else some (valL 0 l)
theorem take_all {f : UInt8 → Bool} : ∀ l : List UInt8, (l.takeWhile f).length = l.length ↔ l.all f = true
  | [] => by simp
  | a :: l => by
    have ih := take_all (f := f) l
    have hle := takeWhile_le (f := f) l
    cases h : f a
    · simp [h]
    · simp only [List.takeWhile_cons, h, if_true, List.length_cons, List.all_cons, Bool.true_and]
      rw [← ih]; omega
theorem from_zero (s : ByteArray) : from_ s 0 = s.data.toList := rfl
theorem num_end (s : ByteArray) (h : 0 < s.size) : numE s 0 = s.size ↔ (numOf s.data.toList).isSome = true := by
  have hl : s.data.toList.length = s.size := by simp
  have hne : s.data.toList ≠ [] := fun e => by rw [e] at hl; simp at hl; omega
  have ht := take_all (f := fig) s.data.toList
  have hle := takeWhile_le (f := fig) s.data.toList
  unfold numE numOf run_
  rw [from_zero]
  generalize (s.data.toList.takeWhile fig).length = n at *
  generalize s.data.toList = l at *
  rw [hl] at ht hle
  constructor
  · intro e
    by_cases h1 : 9 < n ∨ (1 < n ∧ l.head? = some 48)
    · rw [if_pos h1] at e; omega
    · rw [if_neg h1] at e
      rw [if_neg]
      · rfl
      · rintro (h2 | h2 | ⟨h2, h3⟩ | h2)
        · exact hne h2
        · exact h1 (.inl (by omega))
        · exact h1 (.inr ⟨by omega, h2⟩)
        · rw [ht.1 e] at h2; cases h2
  · intro e
    split at e
    · cases e
    · rename_i h1
      have h2 : l.all fig = true := by
        cases h2 : l.all fig
        · exact absurd (.inr (.inr (.inr h2))) h1
        · rfl
      have h3 := ht.2 h2
      rw [if_neg]
      · exact h3
      · rintro (h4 | ⟨h4, h5⟩)
        · exact h1 (.inr (.inl (by omega)))
        · exact h1 (.inr (.inr (.inl ⟨h5, by omega⟩)))
theorem numOf_some {l : List UInt8} {v : Nat} (h : numOf l = some v) : l ≠ [] ∧ l.length ≤ 9 ∧ l.all fig = true ∧ v = valL 0 l := by
  unfold numOf at h
  split at h
  · cases h
  · rename_i h1
    refine ⟨fun e => h1 (.inl e), ?_, ?_, by injection h with h; exact h.symm⟩
    · rcases Nat.lt_or_ge 9 l.length with h2 | h2
      · exact absurd (.inr (.inl h2)) h1
      · exact h2
    · cases h2 : l.all fig
      · exact absurd (.inr (.inr (.inr h2))) h1
      · rfl
theorem valL_snoc (b : UInt8) (l : List UInt8) : ∀ a : Nat, valL a (l ++ [b]) = valL a l * 10 + (b.toNat - 48) := by
  induction l with
  | nil => intro a; rfl
  | cons x l ih => intro a; exact ih _
theorem take_snoc (s : ByteArray) (k : Nat) (h : k < s.size) : s.data.toList.take (k + 1) = s.data.toList.take k ++ [s[k]] := by
  rw [List.take_succ_eq_append_getElem (by simpa using h)]; rfl

theorem ext_take (s : ByteArray) (p n : Nat) : (s.extract p (p + n)).data.toList = (from_ s p).take n := by
  simp [from_, List.take_drop]
theorem takeWhile_take {f : UInt8 → Bool} : ∀ l : List UInt8, l.take (l.takeWhile f).length = l.takeWhile f
  | [] => rfl
  | a :: l => by
    cases h : f a
    · simp [h]
    · simp [h, takeWhile_take l]
theorem takeWhile_all {f : UInt8 → Bool} : ∀ l : List UInt8, (l.takeWhile f).all f = true
  | [] => rfl
  | a :: l => by
    cases h : f a
    · simp [h]
    · simp only [List.takeWhile_cons, h, if_true, List.all_cons, Bool.true_and]; exact takeWhile_all l
/-- the figures at a place, as a text, are a number just if the document says so -/
theorem num_at (s : ByteArray) (p : Nat) (hp : p < s.size) (hf : fig s[p] = true) : (numOf (s.extract p (p + run_ fig s p)).data.toList).isSome = decide (numE s p ≠ 0) := by
  have e := run_yes hp hf
  have h2 : (from_ s p).head? = some s[p] := by rw [from_at s p hp]; rfl
  have hall : ((from_ s p).take (run_ fig s p)).all fig = true := by
    unfold run_; rw [takeWhile_take]; exact takeWhile_all _
  have hle := run_le fig s p
  have hl : ((from_ s p).take (run_ fig s p)).length = run_ fig s p := by rw [List.length_take, from_len]; omega
  have hh : ((from_ s p).take (run_ fig s p)).head? = some s[p] := by
    rw [from_at s p hp, e]; rfl
  have hne : (from_ s p).take (run_ fig s p) ≠ [] := fun h => by rw [h] at hl; simp at hl; omega
  rw [ext_take]
  unfold numOf numE
  rw [hl, hh, h2, hall]
  by_cases h : 9 < run_ fig s p ∨ (1 < run_ fig s p ∧ some s[p] = some 48)
  · rw [if_pos h]
    rw [if_pos (by rcases h with h | ⟨h, h'⟩
                   · exact .inr (.inl h)
                   · exact .inr (.inr (.inl ⟨h', h⟩)))]
    rfl
  · rw [if_neg h, if_neg]
    · simp; omega
    · rintro (h3 | h3 | ⟨h3, h4⟩ | h3)
      · exact hne h3
      · exact h (.inl h3)
      · exact h (.inr ⟨h4, h3⟩)
      · cases h3
theorem numE_run (s : ByteArray) (p : Nat) (h : numE s p ≠ 0) : numE s p = run_ fig s p := by
  unfold numE at h ⊢
  split
  · rename_i h2; rw [if_pos h2] at h; exact absurd rfl h
  · rfl
theorem step_tk (s : ByteArray) (k : Nat) (hk : k < s.size) (n m : Nat) (ht : tk s[k] (from_ s (k + 1)) = some (n, m)) (hb : blank s[k] = false) :
    lx (from_ s k) k = (⟨n, (s.extract k (k + m + 1)).data.toList, k⟩ :: (lx (from_ s (k + m + 1)) (k + m + 1)).1, (lx (from_ s (k + m + 1)) (k + m + 1)).2) ∧ k + m + 1 ≤ s.size := by
  have hle := tk_le ht
  rw [from_len] at hle
  have e1 : (from_ s (k + 1)).drop m = from_ s (k + m + 1) := by
    unfold from_; rw [List.drop_drop]; congr 1; omega
  have e2 : (s.extract k (k + m + 1)).data.toList = s[k] :: (from_ s (k + 1)).take m := by
    rw [show k + m + 1 = k + (m + 1) by omega, ext_take, from_at s k hk]; rfl
  refine ⟨?_, by omega⟩
  rw [from_at s k hk, lx_some hb ht, e1, e2]
theorem step_tk_no (s : ByteArray) (k : Nat) (hk : k < s.size) (ht : tk s[k] (from_ s (k + 1)) = none) (hb : blank s[k] = false) : lx (from_ s k) k = ([], some k) := by
  rw [from_at s k hk, lx_none hb ht]
theorem tk_kind {c : UInt8} {r : List UInt8} {k m : Nat} (h : tk c r = some (k, m)) : 1 ≤ k ∧ k ≤ 3 := by
  unfold tk at h
  split at h
  · simp at h; omega
  · split at h
    · cases hn : numLen c r with
      | none => rw [hn] at h; simp at h
      | some x => rw [hn] at h; simp at h; omega
    · cases hn : signLen c r with
      | none => rw [hn] at h; simp at h
      | some x => rw [hn] at h; simp at h; omega
theorem blank_ways (c : UInt8) : blank c = true ↔ (c.toNat : Int) = 32 ∨ (c.toNat : Int) = 9 ∨ (c.toNat : Int) = 10 := by
  simp only [blank, blankI, Bool.or_eq_true, beq_iff_eq]; omega

theorem step_blank (s : ByteArray) (k : Nat) (hk : k < s.size) (hb : blank s[k] = true) : lx (from_ s k) k = lx (from_ s (k + 1)) (k + 1) := by rw [from_at s k hk, lx_blank hb]

/-- the midst of a reading -/
structure Mid (s : ByteArray) (l : List Tk) (o : Option Nat) (k : Nat) (n : List Tk) : Prop where
  e : ∃ m, lx (from_ s k) k = (m, o) ∧ l = n ++ m
  few : n.length ≤ k

end Go.Proofs.YtmbdbmjnibfmgaaDoor.Lx
