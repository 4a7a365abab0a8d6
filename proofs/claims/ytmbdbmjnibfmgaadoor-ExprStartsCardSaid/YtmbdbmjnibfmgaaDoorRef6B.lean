/-
  Plain: texts as tokens, by one function over bytes; what it has of a text with a blank behind it.
-/
import Derived.Test.YtmbdbmjnibfmgaaDoorRef6A
namespace Go.Proofs.YtmbdbmjnibfmgaaDoor.Lx
open Go.RowKit Kit

def fig (b : UInt8) : Bool := figI b.toNat
def ltr (b : UInt8) : Bool := ltrI b.toNat
def goes (b : UInt8) : Bool := goesI b.toNat
def blank (b : UInt8) : Bool := blankI b.toNat
def signs : List UInt8 := [40, 41, 44, 124, 38, 126, 43, 45, 61, 42, 123, 125, 59, 58]
/-- how far a number goes behind its first byte; none: it may not be -/
def numLen (c : UInt8) (r : List UInt8) : Option Nat :=
  if 9 ≤ (r.takeWhile fig).length ∨ (1 ≤ (r.takeWhile fig).length ∧ c = 48) then none else some (r.takeWhile fig).length
def signLen (c : UInt8) (r : List UInt8) : Option Nat :=
  if (c = 60 ∨ c = 58) ∧ r.head? = some 61 then some 1 else if c ∈ signs then some 0 else none
/-- the kind of the token that begins with that byte, and how many bytes it has behind it -/
def tk (c : UInt8) (r : List UInt8) : Option (Nat × Nat) :=
  if ltr c = true then some (1, (r.takeWhile goes).length)
  else if fig c = true then (numLen c r).map fun m => (2, m)
  else (signLen c r).map fun m => (3, m)

/-- a token: its kind, its bytes, where it begins -/
structure Tk where
  kind : Nat
  text : List UInt8
  pos : Nat
deriving DecidableEq

/-- a text's tokens, and where it is none -/
def lx : List UInt8 → Nat → List Tk × Option Nat
  | [], _ => ([], none)
  | c :: r, p =>
    if blank c = true then lx r (p + 1) else
      match tk c r with
      | none => ([], some p)
      | some (k, m) => (⟨k, c :: r.take m, p⟩ :: (lx (r.drop m) (p + m + 1)).1, (lx (r.drop m) (p + m + 1)).2)
termination_by l => l.length
decreasing_by all_goals simp; try omega

theorem lx_nil (p : Nat) : lx [] p = ([], none) := by rw [lx]
theorem lx_blank {c : UInt8} (h : blank c = true) (r : List UInt8) (p : Nat) : lx (c :: r) p = lx r (p + 1) := by rw [lx, if_pos h]
theorem lx_none {c : UInt8} (h : blank c = false) {r : List UInt8} (ht : tk c r = none) (p : Nat) : lx (c :: r) p = ([], some p) := by
  rw [lx, if_neg (by simp [h]), ht]
theorem lx_some {c : UInt8} (h : blank c = false) {r : List UInt8} {k m : Nat} (ht : tk c r = some (k, m)) (p : Nat) :
    lx (c :: r) p = (⟨k, c :: r.take m, p⟩ :: (lx (r.drop m) (p + m + 1)).1, (lx (r.drop m) (p + m + 1)).2) := by
  rw [lx, if_neg (by simp [h]), ht]

/-! ### bytes and classes -/
theorem takeWhile_app {f : UInt8 → Bool} {d : UInt8} (hd : f d = false) (z : List UInt8) : ∀ r : List UInt8, (r ++ d :: z).takeWhile f = r.takeWhile f
  | [] => by simp [hd]
  | a :: r => by
    show List.takeWhile f (a :: (r ++ d :: z)) = _
    cases h : f a
    · simp [h]
    · simp only [List.takeWhile_cons, h, if_true, takeWhile_app hd z r]
theorem takeWhile_le {f : UInt8 → Bool} : ∀ r : List UInt8, (r.takeWhile f).length ≤ r.length
  | [] => by simp
  | a :: r => by
    have := takeWhile_le (f := f) r
    cases h : f a <;> simp [h]
    omega
theorem blank_not {d : UInt8} (h : blank d = true) : fig d = false ∧ goes d = false ∧ ltr d = false ∧ d ≠ 61 := by
  have hn : d.toNat = 32 ∨ d.toNat = 9 ∨ d.toNat = 10 := by
    simp only [blank, blankI, Bool.or_eq_true, beq_iff_eq] at h
    omega
  have e : d = UInt8.ofNat d.toNat := by simp
  rcases hn with hn | hn | hn <;> rw [hn] at e <;> subst e <;> decide
theorem head_app {d : UInt8} (hd : d ≠ 61) (r z : List UInt8) : ((r ++ d :: z).head? = some 61) = (r.head? = some 61) := by
  cases r with
  | nil => simp [hd]
  | cons a r => simp

theorem tk_app {d : UInt8} (h : blank d = true) (c : UInt8) (r z : List UInt8) : tk c (r ++ d :: z) = tk c r := by
  obtain ⟨h1, h2, _, h4⟩ := blank_not h
  unfold tk numLen signLen
  rw [takeWhile_app h2, takeWhile_app h1]
  simp only [head_app h4]
theorem tk_le {c : UInt8} {r : List UInt8} {k m : Nat} (h : tk c r = some (k, m)) : m ≤ r.length := by
  unfold tk numLen signLen at h
  split at h
  · simp at h
    have := takeWhile_le (f := goes) r
    omega
  · split at h
    · split at h
      · simp at h
      · simp at h
        have := takeWhile_le (f := fig) r
        omega
    · split at h
      · rename_i hc
        simp at h
        cases r with
        | nil => simp at hc
        | cons a r => simp; omega
      · split at h <;> simp at h
        omega

/-! ### a text with a blank, and more, behind it -/
theorem lx_app {d : UInt8} (hd : blank d = true) (z : List UInt8) : ∀ (n : Nat) (a : List UInt8) (p : Nat), a.length ≤ n →
    lx (a ++ d :: z) p = match (lx a p).2 with
      | some q => ((lx a p).1, some q)
      | none => ((lx a p).1 ++ (lx z (p + a.length + 1)).1, (lx z (p + a.length + 1)).2)
  | 0, [], p, _ => by rw [lx_nil]; simp [lx_blank hd]
  | 0, _ :: _, _, h => by simp at h
  | n + 1, [], p, _ => by rw [lx_nil]; simp [lx_blank hd]
  | n + 1, c :: r, p, h => by
    have hl : r.length ≤ n := by simpa using h
    cases hb : blank c
    · cases ht : tk c r with
      | none => rw [List.cons_append, lx_none hb ht, lx_none hb (by rw [tk_app hd, ht])]
      | some km =>
        obtain ⟨k, m⟩ := km
        have hm := tk_le ht
        rw [List.cons_append, lx_some hb ht, lx_some hb (by rw [tk_app hd]; exact ht)]
        have e1 : (r ++ d :: z).take m = r.take m := by rw [List.take_append_of_le_length hm]
        have e2 : (r ++ d :: z).drop m = r.drop m ++ d :: z := by rw [List.drop_append_of_le_length hm]
        have ih := lx_app hd z n (r.drop m) (p + m + 1) (by simp; omega)
        have e3 : p + m + 1 + (r.drop m).length + 1 = p + (c :: r).length + 1 := by simp; omega
        rw [e1, e2, ih, e3]
        cases hx : (lx (r.drop m) (p + m + 1)).2 <;> simp
    · rw [List.cons_append, lx_blank hb, lx_blank hb, lx_app hd z n r (p + 1) hl]
      have e3 : p + 1 + r.length + 1 = p + (c :: r).length + 1 := by simp; omega
      rw [e3]
theorem lx_app_none {d : UInt8} (hd : blank d = true) (a z : List UInt8) (p : Nat) (h : (lx a p).2 = none) :
    lx (a ++ d :: z) p = ((lx a p).1 ++ (lx z (p + a.length + 1)).1, (lx z (p + a.length + 1)).2) := by rw [lx_app hd z a.length a p (Nat.le_refl _), h]
theorem lx_app_some {d : UInt8} (hd : blank d = true) (a z : List UInt8) (p q : Nat) (h : (lx a p).2 = some q) :
    lx (a ++ d :: z) p = ((lx a p).1, some q) := by rw [lx_app hd z a.length a p (Nat.le_refl _), h]

/-! ### the same text elsewhere -/
def Tk.shift (d : Nat) (t : Tk) : Tk := ⟨t.kind, t.text, t.pos + d⟩
theorem lx_shift (d : Nat) : ∀ (n : Nat) (l : List UInt8) (p : Nat), l.length ≤ n → lx l (p + d) = ((lx l p).1.map (Tk.shift d), (lx l p).2.map (· + d))
  | 0, [], p, _ => by simp [lx_nil]
  | 0, _ :: _, _, h => by simp at h
  | n + 1, [], p, _ => by simp [lx_nil]
  | n + 1, c :: r, p, h => by
    have hl : r.length ≤ n := by simpa using h
    cases hb : blank c
    · cases ht : tk c r with
      | none => rw [lx_none hb ht, lx_none hb ht]; rfl
      | some km =>
        obtain ⟨k, m⟩ := km
        rw [lx_some hb ht, lx_some hb ht]
        have e : p + d + m + 1 = p + m + 1 + d := by omega
        rw [e, lx_shift d n (r.drop m) (p + m + 1) (by simp; omega)]
        rfl
    · rw [lx_blank hb, lx_blank hb]
      have e : p + d + 1 = p + 1 + d := by omega
      rw [e, lx_shift d n r (p + 1) hl]
theorem lx_from (l : List UInt8) (p : Nat) : lx l p = ((lx l 0).1.map (Tk.shift p), (lx l 0).2.map (· + p)) := by
  have := lx_shift p l.length l 0 (Nat.le_refl _)
  simpa using this

/-! ### where a text is none; blanks -/
theorem lx_err : ∀ (n : Nat) (l : List UInt8) (p q : Nat), l.length ≤ n → (lx l p).2 = some q → p ≤ q ∧ q < p + l.length
  | 0, [], p, q, _, h => by simp [lx_nil] at h
  | 0, _ :: _, _, _, h, _ => by simp at h
  | n + 1, [], p, q, _, h => by simp [lx_nil] at h
  | n + 1, c :: r, p, q, hl, h => by
    have hl : r.length ≤ n := by simpa using hl
    cases hb : blank c
    · cases ht : tk c r with
      | none =>
        rw [lx_none hb ht] at h
        simp at h
        simp; omega
      | some km =>
        obtain ⟨k, m⟩ := km
        rw [lx_some hb ht] at h
        have := lx_err n (r.drop m) (p + m + 1) q (by simp; omega) h
        have hm := tk_le ht
        simp at this
        simp; omega
    · rw [lx_blank hb] at h
      have := lx_err n r (p + 1) q hl h
      simp; omega
theorem lx_blanks : ∀ (b l : List UInt8) (p : Nat), (∀ c ∈ b, blank c = true) → lx (b ++ l) p = lx l (p + b.length)
  | [], l, p, _ => rfl
  | c :: b, l, p, h => by
    rw [List.cons_append, lx_blank (h c (List.mem_cons_self ..)), lx_blanks b l (p + 1) (fun x hx => h x (List.mem_cons_of_mem _ hx))]
    have e : p + 1 + b.length = p + (c :: b).length := by simp; omega
    rw [e]

/-! ### the first token of a text -/
/-- behind some blanks the token's text stands, and what is behind it has the other tokens -/
theorem lx_cons : ∀ (n : Nat) (l : List UInt8) (p : Nat) (t : Tk) (ts : List Tk) (e : Option Nat), l.length ≤ n → lx l p = (t :: ts, e) →
    ∃ (b : List UInt8) (c : UInt8) (r : List UInt8) (m : Nat), l = b ++ c :: r ∧ (∀ x ∈ b, blank x = true) ∧ blank c = false ∧ tk c r = some (t.kind, m) ∧ t.text = c :: r.take m ∧ m ≤ r.length ∧
      t.pos = p + b.length ∧ lx (r.drop m) (t.pos + m + 1) = (ts, e)
  | 0, [], p, t, ts, e, _, h => by simp [lx_nil] at h
  | 0, _ :: _, _, _, _, _, h, _ => by simp at h
  | n + 1, [], p, t, ts, e, _, h => by simp [lx_nil] at h
  | n + 1, c :: r, p, t, ts, e, hl, h => by
    have hl : r.length ≤ n := by simpa using hl
    cases hb : blank c
    · cases ht : tk c r with
      | none => rw [lx_none hb ht] at h; simp at h
      | some km =>
        obtain ⟨k, m⟩ := km
        rw [lx_some hb ht] at h
        simp only [Prod.mk.injEq, List.cons.injEq] at h
        obtain ⟨⟨rfl, rfl⟩, rfl⟩ := h
        exact ⟨[], c, r, m, rfl, (fun x hx => by cases hx), hb, ht, rfl, tk_le ht, rfl, rfl⟩
    · rw [lx_blank hb] at h
      obtain ⟨b, c', r', m, rfl, h1, h2, h3, h4, h5, h6, h7⟩ := lx_cons n r (p + 1) t ts e hl h
      refine ⟨c :: b, c', r', m, rfl, ?_, h2, h3, h4, h5, ?_, h7⟩
      · intro x hx
        rcases List.mem_cons.1 hx with rfl | hx
        · exact hb
        · exact h1 x hx
      · rw [h6]; simp; omega
theorem lx_end : ∀ (n : Nat) (l : List UInt8) (p : Nat), l.length ≤ n → lx l p = ([], none) → ∀ x ∈ l, blank x = true
  | 0, [], p, _, _ => fun x hx => by cases hx
  | 0, _ :: _, _, h, _ => by simp at h
  | n + 1, [], p, _, _ => fun x hx => by cases hx
  | n + 1, c :: r, p, hl, h => by
    have hl : r.length ≤ n := by simpa using hl
    cases hb : blank c
    · cases ht : tk c r with
      | none => rw [lx_none hb ht] at h; simp at h
      | some km =>
        obtain ⟨k, m⟩ := km
        rw [lx_some hb ht] at h
        simp at h
    · rw [lx_blank hb] at h
      have := lx_end n r (p + 1) hl h
      intro x hx
      rcases List.mem_cons.1 hx with rfl | hx
      · exact hb
      · exact this x hx
end Go.Proofs.YtmbdbmjnibfmgaaDoor.Lx
