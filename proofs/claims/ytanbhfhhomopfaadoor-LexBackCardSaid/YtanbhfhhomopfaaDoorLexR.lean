/-
  Plain: a text between blanks; two texts with a blank between; the text of tokens.
-/
import Derived.Test.YtanbhfhhomopfaaDoorLexN
namespace Go.Proofs.YtanbhfhhomopfaaDoor.Lx
open Go.RowKit Kit Rw

theorem lx_only (b : List UInt8) (p : Nat) (h : ∀ c ∈ b, blank c = true) : lx b p = ([], none) := by
  have := lx_blanks b [] p h
  rw [List.append_nil, lx_nil] at this
  exact this
theorem lx_between (b s : List UInt8) (h : ∀ c ∈ b, blank c = true) : lx (b ++ s ++ b) 0 = ((lx s 0).1.map (Tk.shift b.length), (lx s 0).2.map (· + b.length)) := by
  rw [List.append_assoc, lx_blanks b (s ++ b) 0 h, Nat.zero_add, ← lx_from]
  cases b with
  | nil => simp
  | cons d z =>
    have hd := h d (List.mem_cons_self ..)
    have hz := fun p => lx_only z p (fun c hc => h c (List.mem_cons_of_mem _ hc))
    cases ho : (lx s (d :: z).length).2 with
    | none => rw [lx_app_none hd s z _ ho, hz]; simp [← ho]
    | some q => rw [lx_app_some hd s z _ q ho, ← ho]

/-- the blanks ahead: blank, tabulator, end of line, and so on -/
def blk (i : Nat) : UInt8 := if i % 3 = 0 then 32 else if i % 3 = 1 then 9 else 10
def blks : Nat → List UInt8
  | 0 => []
  | n + 1 => blks n ++ [blk n]
theorem blks_len (n : Nat) : (blks n).length = n := by
  induction n with
  | zero => rfl
  | succ n ih => simp [blks, ih]
theorem blk_blank (i : Nat) : blank (blk i) = true := by
  unfold blk
  split
  · decide
  · split <;> decide
theorem blks_blank (n : Nat) : ∀ c ∈ blks n, blank c = true := by
  induction n with
  | zero => intro c hc; cases hc
  | succ n ih =>
    intro c hc
    rcases List.mem_append.1 hc with hc | hc
    · exact ih c hc
    · rw [List.mem_singleton.1 hc]; exact blk_blank n

/-- two texts with a blank between -/
theorem lx_two (a b : List UInt8) : lx (a ++ [32] ++ b) 0 = match (lx a 0).2 with
    | some q => ((lx a 0).1, some q)
    | none => ((lx a 0).1 ++ (lx b 0).1.map (Tk.shift (a.length + 1)), (lx b 0).2.map (· + (a.length + 1))) := by
  have e : a ++ [32] ++ b = a ++ 32 :: b := by simp
  have hd : blank 32 = true := by decide
  rw [e]
  cases ho : (lx a 0).2 with
  | some q => rw [lx_app_some hd a b 0 q ho]
  | none => rw [lx_app_none hd a b 0 ho, Nat.zero_add, lx_from b (a.length + 1)]

/-! ### the text of tokens has them again -/

theorem takeWhile_all2 (f : UInt8 → Bool) (l : List UInt8) : (l.takeWhile f).all f = true := takeWhile_all l
theorem tk_alone {c : UInt8} {r : List UInt8} {k m : Nat} (h : tk c r = some (k, m)) : tk c (r.take m) = some (k, m) := by
  have hm := tk_le h
  have hlen : (r.take m).length = m := by rw [List.length_take]; omega
  have tw : ∀ (f : UInt8 → Bool), (r.takeWhile f).length = m → ((r.take m).takeWhile f).length = m := fun f hf => by
    rw [← hf, takeWhile_take]
    have := (take_all (f := f) (r.takeWhile f)).2 (by have := takeWhile_all2 f r; exact this)
    exact this
  unfold tk at h ⊢
  cases hl : ltr c
  · rw [hl] at h
    simp only [Bool.false_eq_true, if_false] at h ⊢
    cases hf : fig c
    · rw [hf] at h
      simp only [Bool.false_eq_true, if_false] at h ⊢
      unfold signLen at h ⊢
      split at h
      · rename_i hc
        simp at h
        obtain ⟨rfl, rfl⟩ := h
        have : (r.take 1).head? = some 61 := by
          cases r with
          | nil => simp at hc
          | cons a r => simpa using hc.2
        rw [if_pos ⟨hc.1, this⟩]; rfl
      · split at h
        · rename_i hc
          simp at h
          obtain ⟨rfl, rfl⟩ := h
          rw [if_neg (by simp), if_pos hc]; rfl
        · simp at h
    · rw [hf] at h
      simp only [if_true] at h ⊢
      unfold numLen at h ⊢
      split at h
      · simp at h
      · rename_i hc
        simp at h
        obtain ⟨rfl, hh⟩ := h
        rw [tw fig hh]
        rw [hh] at hc
        rw [if_neg hc]
        rfl
  · rw [hl] at h
    simp only [if_true, Option.some.injEq, Prod.mk.injEq] at h ⊢
    exact ⟨h.1, tw goes h.2⟩
end Go.Proofs.YtanbhfhhomopfaaDoor.Lx
