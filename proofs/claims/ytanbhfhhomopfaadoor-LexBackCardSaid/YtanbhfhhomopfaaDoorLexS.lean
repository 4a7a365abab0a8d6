/-
  Plain: the text of tokens has them again; how long it is; where one token stands behind another.
-/
import Derived.Test.YtanbhfhhomopfaaDoorLexQ
import Derived.Test.YtanbhfhhomopfaaDoorLexR
namespace Go.Proofs.YtanbhfhhomopfaaDoor.Lx
open Go.RowKit Kit Rw

def kt (t : Tk) : Nat × List UInt8 := (t.kind, t.text)
def textsT (l : List Tk) : List UInt8 := Lib.join (l.map (·.text)) [32]
theorem joinT_texts (l : List Tk) : joinT (l.map tg) = textsT l := by
  unfold joinT textsT
  rw [List.map_map]
  congr 1
theorem texts_cons (t u : Tk) (l : List Tk) : textsT (t :: u :: l) = t.text ++ 32 :: textsT (u :: l) := by
  unfold textsT
  simp only [List.map_cons]
  rw [Lib.join_cons, Lib.join_cons]
  simp [Lib.joinTail]
theorem texts_one (t : Tk) : textsT [t] = t.text := Lib.join_one _ _
/-- a token whose text, alone, is it -/
def Sole (t : Tk) : Prop := ∃ c x, t.text = c :: x ∧ blank c = false ∧ tk c x = some (t.kind, x.length)
theorem sole_lx {t : Tk} (h : Sole t) (p : Nat) : lx t.text p = ([⟨t.kind, t.text, p⟩], none) := by
  obtain ⟨c, x, e, hb, ht⟩ := h
  rw [e, lx_some hb ht]
  simp [lx_nil]
theorem lx_texts : ∀ (l : List Tk) (p : Nat), (∀ t ∈ l, Sole t) → ∃ l', lx (textsT l) p = (l', none) ∧ l'.map kt = l.map kt
  | [], p, _ => ⟨[], by rw [textsT, List.map_nil, Lib.join_nil, lx_nil], rfl⟩
  | [t], p, h => ⟨[⟨t.kind, t.text, p⟩], by rw [texts_one, sole_lx (h t (List.mem_cons_self ..))], rfl⟩
  | t :: u :: l, p, h => by
    have hs := sole_lx (h t (List.mem_cons_self ..)) p
    obtain ⟨l', h1, h2⟩ := lx_texts (u :: l) (p + t.text.length + 1) (fun x hx => h x (List.mem_cons_of_mem _ hx))
    refine ⟨_, by rw [texts_cons, lx_app_none (by decide) _ _ _ (by rw [hs]), hs, h1], ?_⟩
    simp only [List.map_append, List.map_cons, List.map_nil, h2]
    rfl
theorem lx_sole (l : List UInt8) (p : Nat) (t : Tk) (h : t ∈ (lx l p).1) : Sole t := by
  obtain ⟨c, r, m, h1, h2, h3, _, _⟩ := lx_mem l.length l p t (Nat.le_refl _) h
  have hm := tk_le h2
  exact ⟨c, r.take m, h3, h1, by rw [List.length_take, Nat.min_eq_left hm]; exact tk_alone h2⟩

def sumT : List Tk → Nat
  | [] => 0
  | t :: l => t.text.length + sumT l
theorem lx_sum : ∀ (n : Nat) (l : List UInt8) (p : Nat), l.length ≤ n → sumT (lx l p).1 ≤ l.length
  | 0, [], p, _ => by simp [lx_nil, sumT]
  | 0, _ :: _, _, h => by simp at h
  | n + 1, [], p, _ => by simp [lx_nil, sumT]
  | n + 1, c :: r, p, hl => by
    have hl : r.length ≤ n := by simpa using hl
    cases hb : blank c
    · cases ht : tk c r with
      | none => rw [lx_none hb ht]; simp [sumT]
      | some km =>
        obtain ⟨k, m⟩ := km
        have hm := tk_le ht
        rw [lx_some hb ht]
        have := lx_sum n (r.drop m) (p + m + 1) (by simp; omega)
        simp [sumT] at this ⊢
        omega
    · rw [lx_blank hb]
      have := lx_sum n r (p + 1) hl
      simp; omega
theorem total_sum (l : List Tk) : total (l.map tg) = l.length + sumT l := by
  induction l with
  | nil => rfl
  | cons t l ih =>
    simp only [List.map_cons, total, sumT, ih, List.length_cons, tg]
    rw [bs_size]
    omega
theorem text_short (s : ByteArray) (l : List Tk) (o : Option Nat) (h : lx s.data.toList 0 = (l, o)) : total (l.map tg) ≤ 2 * s.size := by
  have h1 := lx_few s.data.toList.length s.data.toList 0 (Nat.le_refl _)
  have h2 := lx_sum s.data.toList.length s.data.toList 0 (Nat.le_refl _)
  rw [h] at h1 h2
  have h1 : l.length ≤ s.data.toList.length := h1
  have h2 : sumT l ≤ s.data.toList.length := h2
  have e : s.data.toList.length = s.size := by simp
  rw [total_sum]
  omega

/-- one token behind a place -/
structure Behind (s : ByteArray) (E : Nat) (t : Tk) (ts : List Tk) : Prop where
  at_ : E ≤ t.pos
  size : 0 < (bs t.text).size
  fits : t.pos + (bs t.text).size ≤ s.size
  text : s.extract t.pos (t.pos + (bs t.text).size) = bs t.text
  gap : ∀ j (h : j < s.size), E ≤ j → j < t.pos → blank s[j] = true
  more : lx (from_ s (t.pos + (bs t.text).size)) (t.pos + (bs t.text).size) = (ts, none)
theorem behind_of {s : ByteArray} {E : Nat} {t : Tk} {ts : List Tk} (h : lx (from_ s E) E = (t :: ts, none)) : Behind s E t ts := by
  obtain ⟨b, c, r, m, h1, h2, h3, h4, h5, h6, h7, h8⟩ := lx_cons (from_ s E).length (from_ s E) E t ts none (Nat.le_refl _) h
  have hsz : (bs t.text).size = m + 1 := by rw [bs_size, h5]; simp; omega
  have hlen := from_len s E
  rw [h1] at hlen
  simp at hlen
  have hp : from_ s t.pos = c :: r := by
    have : from_ s t.pos = (from_ s E).drop b.length := by unfold from_; rw [List.drop_drop, h7]
    rw [this, h1, List.drop_append_of_le_length (Nat.le_refl _)]; simp
  have hn : from_ s (t.pos + (m + 1)) = r.drop m := by
    have : from_ s (t.pos + (m + 1)) = (from_ s t.pos).drop (m + 1) := by unfold from_; rw [List.drop_drop]
    rw [this, hp]; rfl
  refine ⟨by omega, by omega, by omega, ?_, fun j hj hE hjp => ?_, ?_⟩
  · have : (s.extract t.pos (t.pos + (m + 1))).data.toList = t.text := by rw [ext_take, hp, h5]; rfl
    rw [hsz, ← this, bs_back]
  · have hx : s[j] = b[j - E]'(by omega) := by
      have e1 := from_at s j hj
      have e2 : from_ s j = (from_ s E).drop (j - E) := by unfold from_; rw [List.drop_drop]; congr 1; omega
      have hjb : j - E < b.length := by omega
      rw [e2, h1, List.drop_append_of_le_length (by omega), List.drop_eq_getElem_cons hjb] at e1
      injection e1 with e1 _
      exact e1.symm
    rw [hx]
    exact h2 _ (List.getElem_mem _)
  · rw [hsz, hn]
    have e : t.pos + (m + 1) = t.pos + m + 1 := by omega
    rw [e]
    exact h8
end Go.Proofs.YtanbhfhhomopfaaDoor.Lx
