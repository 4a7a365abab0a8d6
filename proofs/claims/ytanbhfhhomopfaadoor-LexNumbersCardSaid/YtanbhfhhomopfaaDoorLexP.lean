/-
  Plain: the figures of a number.
-/
import Derived.Test.YtanbhfhhomopfaaDoorLexN
namespace Go.Proofs.YtanbhfhhomopfaaDoor.Lx
open Go.RowKit Kit Rw

def dig (m : Nat) : UInt8 := UInt8.ofNat (48 + m % 10)
/-- the figures of a number, ahead of a row; of nought: none -/
def decL (m : Nat) (acc : List UInt8) : List UInt8 := if m = 0 then acc else decL (m / 10) (dig m :: acc)
termination_by m
decreasing_by omega
theorem decL_zero (acc : List UInt8) : decL 0 acc = acc := by rw [decL, if_pos rfl]
theorem decL_step {m : Nat} (h : m ≠ 0) (acc : List UInt8) : decL m acc = decL (m / 10) (dig m :: acc) := by rw [decL, if_neg h]
theorem dig_nat (m : Nat) : (dig m).toNat = 48 + m % 10 := by
  unfold dig
  rw [UInt8.toNat_ofNat']
  omega
theorem dig_fig (m : Nat) : fig (dig m) = true := (fig_iff _).2 (by rw [dig_nat]; omega)
theorem decL_val (m : Nat) : ∀ acc : List UInt8, valL 0 (decL m acc) = valL m acc := by
  induction m using Nat.strongRecOn with
  | ind m ih =>
    intro acc
    by_cases h : m = 0
    · subst h; rw [decL_zero]
    · rw [decL_step h, ih (m / 10) (by omega)]
      show valL (m / 10 * 10 + ((dig m).toNat - 48)) acc = _
      rw [dig_nat, show m / 10 * 10 + (48 + m % 10 - 48) = m by omega]
theorem decL_fig (m : Nat) : ∀ acc : List UInt8, (decL m acc).all fig = acc.all fig := by
  induction m using Nat.strongRecOn with
  | ind m ih =>
    intro acc
    by_cases h : m = 0
    · subst h; rw [decL_zero]
    · rw [decL_step h, ih (m / 10) (by omega)]
      simp [dig_fig]
theorem decL_len (j : Nat) : ∀ (m : Nat) (acc : List UInt8), m < 10 ^ j → (decL m acc).length ≤ j + acc.length := by
  induction j with
  | zero => intro m acc h; obtain rfl : m = 0 := by simpa using h
            rw [decL_zero]; omega
  | succ j ih =>
    intro m acc h
    by_cases h0 : m = 0
    · subst h0; rw [decL_zero]; omega
    · rw [decL_step h0]
      have := ih (m / 10) (dig m :: acc) (by rw [Nat.pow_succ] at h; omega)
      simp at this
      omega
theorem decL_pos (m : Nat) : ∀ acc : List UInt8, acc.length ≤ (decL m acc).length ∧ (m ≠ 0 → acc.length < (decL m acc).length) := by
  induction m using Nat.strongRecOn with
  | ind m ih =>
    intro acc
    by_cases h : m = 0
    · subst h; rw [decL_zero]; exact ⟨Nat.le_refl _, fun h => absurd rfl h⟩
    · have := (ih (m / 10) (by omega) (dig m :: acc)).1
      rw [decL_step h]
      simp at this
      exact ⟨by omega, fun _ => by omega⟩
theorem decL_head (m : Nat) : ∀ acc : List UInt8, m ≠ 0 → (decL m acc).head? ≠ some 48 := by
  induction m using Nat.strongRecOn with
  | ind m ih =>
    intro acc h
    rw [decL_step h]
    by_cases h1 : m / 10 = 0
    · rw [h1, decL_zero]
      intro e
      injection e with e
      have := dig_nat m
      rw [e] at this
      have h48 : (48 : UInt8).toNat = 48 := rfl
      omega
    · exact ih (m / 10) (by omega) _ h1
/-- a number's text -/
def numText (k : Nat) : List UInt8 := if k = 0 then [48] else decL k []
theorem text_num (k : Nat) (h : k < 1000000000) : numOf (numText k) = some k := by
  unfold numText
  by_cases h0 : k = 0
  · subst h0; decide
  · rw [if_neg h0]
    have h1 := decL_len 9 k [] (by simpa using h)
    have h2 := (decL_pos k []).2 h0
    have h3 := decL_fig k []
    have h4 := decL_val k []
    have h5 := decL_head k [] h0
    simp at h1 h2
    unfold numOf
    rw [if_neg, h4]
    · rfl
    · rintro (h6 | h6 | ⟨h6, _⟩ | h6)
      · rw [h6] at h2; simp at h2
      · omega
      · exact h5 h6
      · rw [h3] at h6; simp at h6
theorem text_pos (k : Nat) : 0 < (numText k).length := by
  unfold numText
  by_cases h0 : k = 0
  · rw [if_pos h0]; simp
  · rw [if_neg h0]
    have h2 := (decL_pos k []).2 h0
    simpa using h2
theorem text_len (k : Nat) (h : k < 1000000000) : (numText k).length ≤ 9 := (numOf_some (text_num k h)).2.1
theorem text_zero (k : Nat) : numOf (48 :: numText k) = none := by
  have := text_pos k
  unfold numOf
  rw [if_pos (.inr (.inr (.inl ⟨rfl, by simp; omega⟩)))]
theorem text_long (k : Nat) (z : List UInt8) (h : 9 ≤ z.length) : numOf (numText k ++ z) = none := by
  have := text_pos k
  unfold numOf
  rw [if_pos (.inr (.inl (by simp; omega)))]
theorem NumPost_some {l : List UInt8} {k : Nat} (h : numOf l = some k) : NumPost l = fun w e w' => e = .returned (.tuple #[.int .i64 (k : Int), .bool true]) ∧ Q w w' := by
  funext w e w'; unfold NumPost; rw [h]; rfl
theorem NumPost_none {l : List UInt8} (h : numOf l = none) : NumPost l = fun w e w' => e = .returned (.tuple #[.int .i64 0, .bool false]) ∧ Q w w' := by
  funext w e w'; unfold NumPost; rw [h]; rfl
end Go.Proofs.YtanbhfhhomopfaaDoor.Lx
