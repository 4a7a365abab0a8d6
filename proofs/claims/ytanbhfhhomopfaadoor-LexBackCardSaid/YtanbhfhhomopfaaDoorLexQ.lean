/-
  Plain: what each token of a text has.
-/
import Derived.Test.YtanbhfhhomopfaaDoorLexN
namespace Go.Proofs.YtanbhfhhomopfaaDoor.Lx
open Go.RowKit Kit Rw

/-- each token stands where it says, and begins as its kind says -/
theorem lx_mem : ∀ (n : Nat) (l : List UInt8) (p : Nat) (t : Tk), l.length ≤ n → t ∈ (lx l p).1 →
    ∃ (c : UInt8) (r : List UInt8) (m : Nat), blank c = false ∧ tk c r = some (t.kind, m) ∧ t.text = c :: r.take m ∧ p ≤ t.pos ∧ l.drop (t.pos - p) = c :: r
  | 0, [], p, t, _, h => by simp [lx_nil] at h
  | 0, _ :: _, _, _, h, _ => by simp at h
  | n + 1, [], p, t, _, h => by simp [lx_nil] at h
  | n + 1, c :: r, p, t, hl, h => by
    have hl : r.length ≤ n := by simpa using hl
    cases hb : blank c
    · cases ht : tk c r with
      | none => rw [lx_none hb ht] at h; simp at h
      | some km =>
        obtain ⟨k, m⟩ := km
        rw [lx_some hb ht] at h
        rcases List.mem_cons.1 h with h | h
        · subst h
          exact ⟨c, r, m, hb, ht, rfl, Nat.le_refl _, by simp⟩
        · obtain ⟨c', r', m', h1, h2, h3, h4, h5⟩ := lx_mem n (r.drop m) (p + m + 1) t (by simp; omega) h
          refine ⟨c', r', m', h1, h2, h3, by omega, ?_⟩
          rw [← h5, List.drop_drop, show t.pos - p = (m + (t.pos - (p + m + 1))) + 1 by omega, List.drop_succ_cons]
    · rw [lx_blank hb] at h
      obtain ⟨c', r', m', h1, h2, h3, h4, h5⟩ := lx_mem n r (p + 1) t hl h
      refine ⟨c', r', m', h1, h2, h3, by omega, ?_⟩
      rw [← h5, show t.pos - p = (t.pos - (p + 1)) + 1 by omega, List.drop_succ_cons]
theorem takeWhile_head {f : UInt8 → Bool} : ∀ (r : List UInt8) (d : UInt8), (r.drop (r.takeWhile f).length).head? = some d → f d = false
  | [], d, h => by simp at h
  | a :: r, d, h => by
    cases ha : f a
    · simp [ha] at h; subst h; exact ha
    · simp only [List.takeWhile_cons, ha, if_true, List.length_cons, List.drop_succ_cons] at h
      exact takeWhile_head r d h
/-- kinds, by the first byte; and what is behind -/
theorem tk_facts {c : UInt8} {r : List UInt8} {k m : Nat} (h : tk c r = some (k, m)) :
    (ltr c = true ∧ k = 1 ∧ ∀ d, (r.drop m).head? = some d → goes d = false) ∨ (ltr c = false ∧ fig c = true ∧ k = 2 ∧ ∀ d, (r.drop m).head? = some d → fig d = false) ∨
      (ltr c = false ∧ fig c = false ∧ k = 3 ∧ m ≤ 1) := by
  unfold tk at h
  cases hl : ltr c
  · rw [hl] at h
    cases hf : fig c
    · rw [hf] at h
      simp only [Bool.false_eq_true, if_false] at h
      refine .inr (.inr ⟨rfl, rfl, ?_⟩)
      unfold signLen at h
      split at h
      · simp at h; omega
      · split at h
        · simp at h; omega
        · simp at h
    · rw [hf] at h
      simp only [Bool.false_eq_true, if_false, if_true] at h
      refine .inr (.inl ⟨rfl, rfl, ?_⟩)
      unfold numLen at h
      split at h
      · simp at h
      · simp at h
        obtain ⟨rfl, rfl⟩ := h
        exact ⟨rfl, takeWhile_head r⟩
  · rw [hl] at h
    simp only [if_true, Option.some.injEq, Prod.mk.injEq] at h
    obtain ⟨rfl, rfl⟩ := h
    exact .inl ⟨rfl, rfl, takeWhile_head r⟩

/-- one token of a text, in numbers -/
structure OneTok (s : ByteArray) (t : Tk) (C : Nat) (o : Option Nat) : Prop where
  size : 0 < (bs t.text).size
  first : ∀ u : World, (Instr.index 9 (.string (bs t.text)) (.int .i64 0)).run Tryd.prog u = .ok (.int .u8 (C : Int)) u
  fits : t.pos + (bs t.text).size ≤ s.size
  next : ∀ D, o = some D → t.pos + (bs t.text).size < s.size ∧ ∀ u : World, (Instr.index 9 (.string s) (.int .i64 ((t.pos : Int) + ((bs t.text).size : Int)))).run Tryd.prog u = .ok (.int .u8 (D : Int)) u
  last : o = none → t.pos + (bs t.text).size = s.size
  kinds : (t.kind = 1 ∧ ((97 ≤ C ∧ C ≤ 122) ∨ (65 ≤ C ∧ C ≤ 90)) ∧ ∀ D, o = some D → ¬ ((97 ≤ D ∧ D ≤ 122) ∨ (65 ≤ D ∧ D ≤ 90)) ∧ ¬ (48 ≤ D ∧ D ≤ 57) ∧ D ≠ 95) ∨
    (t.kind = 2 ∧ (48 ≤ C ∧ C ≤ 57) ∧ ∀ D, o = some D → ¬ (48 ≤ D ∧ D ≤ 57)) ∨
    (t.kind = 3 ∧ ¬ ((97 ≤ C ∧ C ≤ 122) ∨ (65 ≤ C ∧ C ≤ 90)) ∧ ¬ (48 ≤ C ∧ C ≤ 57) ∧ (bs t.text).size ≤ 2)
theorem ltr_iff (b : UInt8) : ltr b = true ↔ (97 ≤ b.toNat ∧ b.toNat ≤ 122) ∨ (65 ≤ b.toNat ∧ b.toNat ≤ 90) := by
  simp only [ltr, ltrI, Bool.or_eq_true, Bool.and_eq_true, decide_eq_true_eq]; omega
theorem ltr_not (b : UInt8) (h : ltr b = false) : ¬ ((97 ≤ b.toNat ∧ b.toNat ≤ 122) ∨ (65 ≤ b.toNat ∧ b.toNat ≤ 90)) := fun x => by rw [(ltr_iff b).2 x] at h; cases h
theorem fig_not (b : UInt8) (h : fig b = false) : ¬ (48 ≤ b.toNat ∧ b.toNat ≤ 57) := fun x => by rw [(fig_iff b).2 x] at h; cases h
theorem goes_not (b : UInt8) (h : goes b = false) : ltr b = false ∧ fig b = false ∧ b.toNat ≠ 95 := by
  have e := goes_or b
  rw [h] at e
  simp only [Bool.false_eq, Bool.or_eq_false_iff, beq_eq_false_iff_ne] at e
  exact ⟨e.1.1, e.1.2, fun x => e.2 (by omega)⟩
theorem idx (s : ByteArray) (k : Nat) (i : Int) (hi : i = k) (b : UInt8) (r : List UInt8) (h : from_ s k = b :: r) (u : World) : (Instr.index 9 (.string s) (.int .i64 i)).run Tryd.prog u = .ok (.int .u8 (b.toNat : Int)) u := by
  subst hi
  have hk : k < s.size := by
    rcases Nat.lt_or_ge k s.size with hk | hk
    · exact hk
    · rw [from_end s k hk] at h; cases h
  rw [from_at s k hk] at h
  injection h with h _
  rw [run_index_string (P := Tryd.prog) u 9 _ .i64 (k : Int) Tryd.underlying9, dif_pos ⟨by omega, by omega⟩, ← h]
  rfl
theorem one_tok (s : ByteArray) (l : List Tk) (e : Option Nat) (h : lx s.data.toList 0 = (l, e)) (t : Tk) (ht : t ∈ l) : ∃ C o, OneTok s t C o := by
  obtain ⟨c, r, m, h1, h2, h3, _, h5⟩ := lx_mem s.data.toList.length s.data.toList 0 t (Nat.le_refl _) (by rw [h]; exact ht)
  have hm := tk_le h2
  have hd : from_ s t.pos = c :: r := by simpa [from_] using h5
  have hsz : (bs t.text).size = m + 1 := by rw [bs_size, h3]; simp; omega
  have hlen := from_len s t.pos
  rw [hd] at hlen
  simp at hlen
  have hnx : from_ s (t.pos + (m + 1)) = r.drop m := by
    have : from_ s (t.pos + (m + 1)) = (from_ s t.pos).drop (m + 1) := by unfold from_; rw [List.drop_drop]
    rw [this, hd]; rfl
  have hkinds := tk_facts h2
  refine ⟨c.toNat, ((r.drop m).head?).map (·.toNat), by omega, fun u => ?_, by omega, fun D hD => ?_, fun hD => ?_, ?_⟩
  · have : from_ (bs t.text) 0 = c :: r.take m := by rw [from_zero, bs_list, h3]
    exact idx (bs t.text) 0 0 rfl c _ this u
  · cases hr : r.drop m with
    | nil => rw [hr] at hD; cases hD
    | cons d z =>
      rw [hr] at hD
      simp at hD
      rw [hr] at hnx
      have := congrArg List.length hr
      simp at this
      refine ⟨by omega, fun u => ?_⟩
      rw [← hD]
      exact idx s (t.pos + (m + 1)) _ (by rw [hsz]; omega) d z hnx u
  · cases hr : r.drop m with
    | cons d z => rw [hr] at hD; cases hD
    | nil =>
      have := congrArg List.length hr
      simp at this
      omega
  · have hh : ∀ D, ((r.drop m).head?).map (·.toNat) = some D → ∃ d, (r.drop m).head? = some d ∧ D = d.toNat := fun D hD => by
      cases hr : (r.drop m).head? with
      | none => rw [hr] at hD; cases hD
      | some d => rw [hr] at hD; exact ⟨d, rfl, by simpa using hD.symm⟩
    rcases hkinds with ⟨x1, x2, x3⟩ | ⟨x1, x2, x3, x4⟩ | ⟨x1, x2, x3, x4⟩
    · refine .inl ⟨x2, (ltr_iff c).1 x1, fun D hD => ?_⟩
      obtain ⟨d, hd, rfl⟩ := hh D hD
      obtain ⟨y1, y2, y3⟩ := goes_not d (x3 d hd)
      exact ⟨ltr_not d y1, fig_not d y2, y3⟩
    · refine .inr (.inl ⟨x3, (fig_iff c).1 x2, fun D hD => ?_⟩)
      obtain ⟨d, hd, rfl⟩ := hh D hD
      exact fig_not d (x4 d hd)
    · exact .inr (.inr ⟨x3, ltr_not c x1, fig_not c x2, by omega⟩)
end Go.Proofs.YtanbhfhhomopfaaDoor.Lx
