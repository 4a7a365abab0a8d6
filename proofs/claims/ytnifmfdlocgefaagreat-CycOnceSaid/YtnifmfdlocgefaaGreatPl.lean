/-
  What the proofs lean on, part 12 of 20.
-/
import Derived.Test.YtnifmfdlocgefaaGreatPa
import Derived.Test.YtnifmfdlocgefaaGreatPc
import Derived.Test.YtnifmfdlocgefaaGreatPd
import Derived.Test.YtnifmfdlocgefaaGreatPe
import Derived.Test.YtnifmfdlocgefaaGreatPf
import Derived.Test.YtnifmfdlocgefaaGreatPh
import Derived.Test.YtnifmfdlocgefaaGreatPj
import Derived.RangeFuncNested
import Derived.RangeFuncBound
import Derived.RangeFuncCalls
import Derived.RangeFuncLeaves
import Derived.Shelf.Abstract
import Derived.Shelf.RegionOpen
import Derived.WalkKit
import Derived.OwnWalkIn
import Derived.TacticsInMore
import Derived.LoopNIn
import Derived.LoopIn
import Derived.Laws.EntriesVeiled
namespace Go.Proofs.YtnifmfdlocgefaaGreat.Cy
open Uf

/-- how many steps each is away, k rounds having been gone; -1: not reached yet -/
def dl (N : Nat) (e : Nat → Nat → Bool) (s : Nat) : Nat → Nat → Int
  | 0, v => if v = s then 0 else -1
  | k + 1, v => if dl N e s k v < 0 ∧ (List.range N).any (fun u => decide (dl N e s k u = (k : Int)) && e u v) = true then ((k + 1 : Nat) : Int) else dl N e s k v

section
variable {N : Nat} {e : Nat → Nat → Bool} {s : Nat}
theorem dl_succ (k v : Nat) : dl N e s (k + 1) v = if dl N e s k v < 0 ∧ (List.range N).any (fun u => decide (dl N e s k u = (k : Int)) && e u v) = true then ((k + 1 : Nat) : Int) else dl N e s k v := rfl
theorem any_iff (k v : Nat) : (List.range N).any (fun u => decide (dl N e s k u = (k : Int)) && e u v) = true ↔ ∃ u, u < N ∧ dl N e s k u = (k : Int) ∧ e u v = true := by
  simp [List.any_eq_true]
theorem dl_bound (k v : Nat) : -1 ≤ dl N e s k v ∧ dl N e s k v ≤ (k : Int) := by
  induction k with
  | zero => unfold dl; by_cases h : v = s <;> simp [h]
  | succ k ih =>
    rw [dl_succ]
    by_cases h : dl N e s k v < 0 ∧ (List.range N).any (fun u => decide (dl N e s k u = (k : Int)) && e u v) = true
    · rw [if_pos h]; omega
    · rw [if_neg h]; omega
theorem dl_stay {k v : Nat} (h : 0 ≤ dl N e s k v) : ∀ m, dl N e s (k + m) v = dl N e s k v := fun m => by
  induction m with
  | zero => rfl
  | succ m ih =>
    show dl N e s (k + m + 1) v = _
    rw [dl_succ, if_neg (fun hc => by rw [ih] at hc; omega), ih]
theorem dl_from {k v d : Nat} (h : dl N e s k v = (d : Int)) : ∀ {j}, d ≤ j → j ≤ k → dl N e s j v = (d : Int) := by
  induction k with
  | zero => intro j h1 h2; rw [show j = 0 by omega]; exact h
  | succ k ih =>
    intro j h1 h2
    by_cases hj : j = k + 1
    · rw [hj]; exact h
    · rw [dl_succ] at h
      by_cases hc : dl N e s k v < 0 ∧ (List.range N).any (fun u => decide (dl N e s k u = (k : Int)) && e u v) = true
      · rw [if_pos hc] at h; omega
      · rw [if_neg hc] at h
        exact ih h h1 (by omega)
/-- at any later round the same ones are so far -/
theorem dl_same {j m v d : Nat} (h1 : d ≤ j) (h2 : j ≤ m) : dl N e s j v = (d : Int) ↔ dl N e s m v = (d : Int) := by
  constructor
  · intro h
    have := dl_stay (m := m - j) (by omega : 0 ≤ dl N e s j v)
    rw [show j + (m - j) = m by omega] at this
    rw [this]; exact h
  · intro h
    exact dl_from h h1 h2
theorem dl_self (k : Nat) : dl N e s k s = 0 := by
  have := dl_stay (N := N) (e := e) (s := s) (k := 0) (v := s) (by simp [dl]) k
  rw [Nat.zero_add] at this
  rw [this]; simp [dl]
theorem dl_zero {k v : Nat} (h : dl N e s k v = 0) : v = s := by
  have := dl_from (d := 0) h (Nat.zero_le 0) (Nat.zero_le k)
  by_cases hv : v = s
  · exact hv
  · simp [dl, hv] at this
theorem dl_back {k v d : Nat} (h : dl N e s k v = ((d + 1 : Nat) : Int)) : ∃ u, u < N ∧ dl N e s k u = (d : Int) ∧ e u v = true := by
  induction k with
  | zero => unfold dl at h; by_cases hv : v = s <;> simp [hv] at h <;> omega
  | succ k ih =>
    rw [dl_succ] at h
    by_cases hc : dl N e s k v < 0 ∧ (List.range N).any (fun u => decide (dl N e s k u = (k : Int)) && e u v) = true
    · rw [if_pos hc] at h
      obtain ⟨u, hu, h1, h2⟩ := (any_iff k v).1 hc.2
      have hd : d = k := by omega
      subst hd
      exact ⟨u, hu, (dl_same (Nat.le_refl _) (by omega)).1 h1, h2⟩
    · rw [if_neg hc] at h
      obtain ⟨u, hu, h1, h2⟩ := ih h
      refine ⟨u, hu, ?_, h2⟩
      have hb := (dl_bound (N := N) (e := e) (s := s) k u).2
      exact (dl_same (j := k) (by omega) (by omega)).1 h1
theorem dl_end {k : Nat} (h : ∀ u, u < N → dl N e s k u ≠ (k : Int)) (m v : Nat) : dl N e s (k + m) v = dl N e s k v := by
  have key : ∀ m, (∀ v, dl N e s (k + m) v = dl N e s k v) := by
    intro m
    induction m with
    | zero => intro v; rfl
    | succ m ih =>
      intro v
      show dl N e s (k + m + 1) v = _
      rw [dl_succ, if_neg, ih v]
      rintro ⟨_, hc⟩
      obtain ⟨u, hu, h1, _⟩ := (any_iff (k + m) v).1 hc
      rw [ih u] at h1
      have := (dl_bound (N := N) (e := e) (s := s) k u).2
      exact h u hu (by omega)
  exact key m v

theorem countP_lt {α : Type} {p q : α → Bool} : ∀ {l : List α}, (∀ x ∈ l, p x = true → q x = true) → (∃ x ∈ l, q x = true ∧ p x = false) → l.countP p < l.countP q
  | [], _, ⟨x, hx, _⟩ => by cases hx
  | y :: l, h, ⟨x, hx, h1, h2⟩ => by
    have hle : l.countP p ≤ l.countP q := List.countP_mono_left fun z hz => h z (List.mem_cons_of_mem _ hz)
    rw [List.countP_cons, List.countP_cons]
    rcases List.mem_cons.1 hx with rfl | hx
    · rw [h1, h2]; simp; omega
    · have := countP_lt (fun z hz => h z (List.mem_cons_of_mem _ hz)) ⟨x, hx, h1, h2⟩
      have hy := h y (List.mem_cons_self ..)
      by_cases hp : p y = true
      · rw [hp, hy hp]; simp; omega
      · rw [if_neg hp]; omega
theorem dl_count {k : Nat} (h : ∃ u, u < N ∧ dl N e s k u = (k : Int)) : k + 1 ≤ (List.range N).countP (fun u => decide (0 ≤ dl N e s k u)) := by
  induction k with
  | zero =>
    obtain ⟨u, hu, h⟩ := h
    have : 0 < (List.range N).countP (fun u => decide (0 ≤ dl N e s 0 u)) := List.countP_pos_iff.2 ⟨u, List.mem_range.2 hu, by simp [h]⟩
    omega
  | succ k ih =>
    obtain ⟨u, hu, h⟩ := h
    obtain ⟨x, hx, h1, _⟩ := dl_back h
    have h2 := (dl_same (j := k) (Nat.le_refl _) (by omega)).2 h1
    have := ih ⟨x, hx, h2⟩
    have hlt : (List.range N).countP (fun u => decide (0 ≤ dl N e s k u)) < (List.range N).countP (fun u => decide (0 ≤ dl N e s (k + 1) u)) := by
      refine countP_lt (fun z _ hz => ?_) ⟨u, List.mem_range.2 hu, by simp [h]; omega, ?_⟩
      · have hz := of_decide_eq_true hz
        have := dl_stay hz 1
        exact decide_eq_true (by rw [this]; exact hz)
      · refine decide_eq_false (fun hz => ?_)
        have := dl_stay hz 1
        have hb := (dl_bound (N := N) (e := e) (s := s) k u).2
        rw [this] at h
        omega
    omega
theorem dl_many {k : Nat} (h : ∃ u, u < N ∧ dl N e s k u = (k : Int)) : k < N := by
  have h1 := dl_count h
  have h2 := List.countP_le_length (p := fun u => decide (0 ≤ dl N e s k u)) (l := List.range N)
  rw [List.length_range] at h2
  omega
theorem dl_all {j : Nat} (h : N ≤ j) (v : Nat) : dl N e s j v = dl N e s N v := by
  have := dl_end (N := N) (e := e) (s := s) (k := N) (fun u hu hc => by have := dl_many ⟨u, hu, hc⟩; omega) (j - N) v
  rw [show N + (j - N) = j by omega] at this
  exact this

/-- who reaches v: the least of those a step nearer -/
def prev (N : Nat) (e : Nat → Nat → Bool) (D : Nat → Int) (k v : Nat) : Nat := ((List.range N).find? (fun u => decide (D u = (k : Int)) && e u v)).getD 0
theorem prev_of {D : Nat → Int} {k v : Nat} (h : ∃ u, u < N ∧ D u = (k : Int) ∧ e u v = true) : prev N e D k v < N ∧ D (prev N e D k v) = (k : Int) ∧ e (prev N e D k v) v = true := by
  unfold prev
  cases hf : (List.range N).find? (fun u => decide (D u = (k : Int)) && e u v) with
  | none =>
    obtain ⟨u, hu, h1, h2⟩ := h
    have := List.find?_eq_none.1 hf u (List.mem_range.2 hu)
    simp [h1, h2] at this
  | some u =>
    have h1 := List.find?_some hf
    have h2 := List.mem_of_find?_eq_some hf
    simp at h1 h2
    exact ⟨h2, h1.1, h1.2⟩
theorem prev_congr {D D' : Nat → Int} {k v : Nat} (h : ∀ u, u < N → (D u = (k : Int) ↔ D' u = (k : Int))) : prev N e D k v = prev N e D' k v := by
  unfold prev
  congr 1
  have : ∀ l : List Nat, (∀ u ∈ l, u < N) → l.find? (fun u => decide (D u = (k : Int)) && e u v) = l.find? (fun u => decide (D' u = (k : Int)) && e u v) := by
    intro l
    induction l with
    | nil => intro _; rfl
    | cons x l ih =>
      intro hl
      rw [List.find?_cons, List.find?_cons, decide_eq_decide.2 (h x (hl x (List.mem_cons_self ..))), ih fun u hu => hl u (List.mem_cons_of_mem _ hu)]
  exact this _ fun u hu => List.mem_range.1 hu
/-- the way back, in order -/
def back (N : Nat) (e : Nat → Nat → Bool) (D : Nat → Int) : Nat → Nat → List Nat
  | 0, v => [v]
  | k + 1, v => back N e D k (prev N e D k v) ++ [v]
theorem back_len (D : Nat → Int) (k v : Nat) : (back N e D k v).length = k + 1 := by
  induction k generalizing v with
  | zero => rfl
  | succ k ih => rw [back, List.length_append, ih]; rfl
theorem back_last (D : Nat → Int) (k v : Nat) : (back N e D k v)[k]? = some v := by
  cases k with
  | zero => rfl
  | succ k => rw [back, List.getElem?_append_right (by rw [back_len]; omega), back_len]; simp
theorem back_congr {D D' : Nat → Int} {k : Nat} (h : ∀ j u, j < k → u < N → (D u = (j : Int) ↔ D' u = (j : Int))) : ∀ v, back N e D k v = back N e D' k v := by
  induction k with
  | zero => intro v; rfl
  | succ k ih =>
    intro v
    rw [back, back, prev_congr (fun u hu => h k u (by omega) hu), ih (fun j u hj hu => h j u (by omega) hu)]
/-- each on it is so far; each step is one -/
theorem back_far {m k v : Nat} (h : dl N e s m v = (k : Int)) (hv : v < N) : ∀ i, i ≤ k → ∃ u, (back N e (dl N e s m) k v)[i]? = some u ∧ u < N ∧ dl N e s m u = (i : Int) ∧ (0 < i → ∃ x, (back N e (dl N e s m) k v)[i - 1]? = some x ∧ e x u = true) := by
  induction k generalizing v with
  | zero => intro i hi; rw [show i = 0 by omega]; exact ⟨v, rfl, hv, h, fun h => by omega⟩
  | succ k ih =>
    intro i hi
    obtain ⟨p1, p2, p3⟩ := prev_of (dl_back h)
    have IH := ih p2 p1
    have hl : (back N e (dl N e s m) k (prev N e (dl N e s m) k v)).length = k + 1 := back_len _ _ _
    rw [back]
    by_cases hik : i = k + 1
    · subst hik
      refine ⟨v, by rw [List.getElem?_append_right (by omega), hl]; simp, hv, h, fun _ => ⟨prev N e (dl N e s m) k v, ?_, p3⟩⟩
      rw [Nat.add_sub_cancel, List.getElem?_append_left (by omega)]
      exact back_last _ _ _
    · obtain ⟨u, h1, h2, h3, h4⟩ := IH i (by omega)
      refine ⟨u, by rw [List.getElem?_append_left (by omega)]; exact h1, h2, h3, fun h0 => ?_⟩
      obtain ⟨x, h5, h6⟩ := h4 h0
      exact ⟨x, by rw [List.getElem?_append_left (by omega)]; exact h5, h6⟩
/-- P13.2 -/
def pathN (N : Nat) (e : Nat → Nat → Bool) (s t : Nat) (depth : Int) : List Nat :=
  if 0 ≤ dl N e s N t ∧ dl N e s N t ≤ max depth 0 then back N e (dl N e s N) (dl N e s N t).toNat t else []
/-- what a search that stopped at j says -/
theorem path_stop {t j : Nat} {depth : Int} (hj : (j : Int) ≤ max depth 0) (hs : (j : Int) = max depth 0 ∨ (∀ u, u < N → dl N e s j u ≠ (j : Int)) ∨ 0 ≤ dl N e s j t) :
    pathN N e s t depth = if 0 ≤ dl N e s j t then back N e (dl N e s j) (dl N e s j t).toNat t else [] := by
  have hm : ∀ (d : Nat) (u : Nat), d ≤ j → (dl N e s j u = (d : Int) ↔ dl N e s N u = (d : Int)) := fun d u hd => by
    by_cases h : j ≤ N
    · exact dl_same hd h
    · rw [dl_all (by omega) u]
  unfold pathN
  by_cases h : 0 ≤ dl N e s j t
  · obtain ⟨d, hd⟩ := Int.eq_ofNat_of_zero_le h
    have hb := (dl_bound (N := N) (e := e) (s := s) j t).2
    have h2 := (hm d t (by omega)).1 hd
    rw [if_pos h, h2, hd, if_pos ⟨by omega, by omega⟩]
    simp only [Int.toNat_natCast]
    exact (back_congr (fun i u hi _ => hm i u (by omega)) t).symm
  · rw [if_neg h]
    refine if_neg fun hc => ?_
    obtain ⟨d, hd⟩ := Int.eq_ofNat_of_zero_le hc.1
    have hd : dl N e s N t = (d : Int) := hd
    rcases hs with hs | hs | hs
    · have := (hm d t (by omega)).2 hd; omega
    · by_cases hjN : j ≤ N
      · have := dl_end hs (N - j) t
        rw [show j + (N - j) = N by omega] at this
        omega
      · have := dl_all (N := N) (e := e) (s := s) (j := j) (by omega) t
        omega
    · exact h hs
end
end Go.Proofs.YtnifmfdlocgefaaGreat.Cy

namespace Go.Proofs.YtnifmfdlocgefaaGreat.Cy
open Uf Ig Tr

/-- the first one for a term's variable; -1: there is none -/
def firstV (ks : List (List Int)) (V : List Int) (id : Int) : Int := if numV ks V.length id < 0 then -1 else (fst V (numV ks V.length id).toNat : Int)
/-- what is told of a row of v's -/
def toldN (ks : List (List Int)) (V : List Int) (row : List Int) (v : Nat) : List Nat := ((row.map (firstV ks V)).filter (fun f => decide (f ≠ -1) && decide (f ≠ (v : Int)))).map Int.toNat
def firstsN (V : List Int) : List Nat := (List.range V.length).filter fun m => par V m == m
def edgesAt (ks : List (List Int)) (V : List Int) (P T : List (List Int)) (v : Nat) : List (Nat × Nat) := (toldN ks V (rowG T v) v).map (fun w => (v, w)) ++ (toldN ks V (rowG P v) v).map (fun w => (w, v))
def edgesN (ks : List (List Int)) (V : List Int) (P T : List (List Int)) : List (Nat × Nat) := (firstsN V).flatMap (edgesAt ks V P T)
/-- is w next to v, as rows have it? -/
def edgeB (ks : List (List Int)) (V : List Int) (P T : List (List Int)) (v w : Nat) : Bool := !(v == w) && ((rowG T v).any (fun id => decide (firstV ks V id = (w : Int))) || (rowG P w).any (fun id => decide (firstV ks V id = (v : Int))))
/-- is w next to v, both first ones? -/
def eB (ks : List (List Int)) (V : List Int) (P T : List (List Int)) (v w : Nat) : Bool := decide (v < V.length) && (par V v == v) && (decide (w < V.length) && (par V w == w)) && edgeB ks V P T v w
def nextL (ks : List (List Int)) (V : List Int) (P T : List (List Int)) (v : Nat) : List Int := those V.length fun w => eB ks V P T v w

section
variable {ks : List (List Int)} {R V : List Int} {P T : List (List Int)}
theorem firstV_at {id : Int} {f : Nat} (hC : Cl R V) (h : firstV ks V id = (f : Int)) : f < V.length ∧ par V f = f := by
  unfold firstV at h
  by_cases c : numV ks V.length id < 0
  · rw [if_pos c] at h; omega
  · rw [if_neg c] at h
    have := hC.fst_in _ (numV_lt c)
    rw [show f = fst V (numV ks V.length id).toNat by omega]
    exact ⟨this.1, this.2.1⟩
theorem firstV_or (id : Int) : firstV ks V id = -1 ∨ ∃ f : Nat, firstV ks V id = (f : Int) := by
  unfold firstV
  by_cases c : numV ks V.length id < 0
  · rw [if_pos c]; exact .inl rfl
  · rw [if_neg c]; exact .inr ⟨_, rfl⟩
theorem mem_told {row : List Int} {v w : Nat} : w ∈ toldN ks V row v ↔ w ≠ v ∧ ∃ id ∈ row, firstV ks V id = (w : Int) := by
  unfold toldN
  simp only [List.mem_map, List.mem_filter, Bool.and_eq_true, decide_eq_true_eq]
  constructor
  · rintro ⟨f, ⟨⟨id, hid, rfl⟩, h1, h2⟩, rfl⟩
    rcases firstV_or (ks := ks) (V := V) id with h | ⟨f, h⟩
    · exact absurd h h1
    · rw [h] at h2 ⊢
      exact ⟨fun e => h2 (by simp at e; omega), id, hid, by simp [h]⟩
  · rintro ⟨hne, id, hid, h⟩
    exact ⟨(w : Int), ⟨⟨id, hid, h⟩, by omega, by omega⟩, by simp⟩
theorem mem_firsts {v : Nat} : v ∈ firstsN V ↔ v < V.length ∧ par V v = v := by
  unfold firstsN
  simp
theorem mem_edges (hC : Cl R V) {a b : Nat} : (a, b) ∈ edgesN ks V P T ↔ eB ks V P T a b = true := by
  unfold edgesN edgesAt eB edgeB
  simp only [List.mem_flatMap, List.mem_append, List.mem_map, Prod.mk.injEq, mem_firsts, mem_told, Bool.and_eq_true, Bool.or_eq_true, decide_eq_true_eq, beq_iff_eq, Bool.not_eq_true', beq_eq_false_iff_ne, List.any_eq_true]
  constructor
  · rintro ⟨v, ⟨hv, pv⟩, ⟨w, ⟨hne, id, hid, h⟩, rfl, rfl⟩ | ⟨w, ⟨hne, id, hid, h⟩, rfl, rfl⟩⟩
    · exact ⟨⟨⟨hv, pv⟩, firstV_at hC h⟩, fun e => hne e.symm, .inl ⟨id, hid, h⟩⟩
    · exact ⟨⟨firstV_at hC h, ⟨hv, pv⟩⟩, hne, .inr ⟨id, hid, h⟩⟩
  · rintro ⟨⟨h1, h2⟩, hne, ⟨id, hid, h⟩ | ⟨id, hid, h⟩⟩
    · exact ⟨a, h1, .inl ⟨b, ⟨fun e => hne e.symm, id, hid, h⟩, rfl, rfl⟩⟩
    · exact ⟨b, h2, .inr ⟨a, ⟨hne, id, hid, h⟩, rfl, rfl⟩⟩
theorem eB_of {a b : Nat} (h : eB ks V P T a b = true) : (a < V.length ∧ par V a = a) ∧ (b < V.length ∧ par V b = b) ∧ a ≠ b := by
  unfold eB edgeB at h
  simp only [Bool.and_eq_true, decide_eq_true_eq, beq_iff_eq, Bool.not_eq_true', beq_eq_false_iff_ne] at h
  exact ⟨h.1.1, h.1.2, h.2.1⟩

/-- rising rows of the same members are one -/
theorem rising_eq : ∀ {l m : List Int}, l.Pairwise (· < ·) → m.Pairwise (· < ·) → (∀ x, x ∈ l ↔ x ∈ m) → l = m
  | [], [], _, _, _ => rfl
  | [], y :: m, _, _, h => by have := (h y).2 (List.mem_cons_self ..); cases this
  | x :: l, [], _, _, h => by have := (h x).1 (List.mem_cons_self ..); cases this
  | x :: l, y :: m, hl, hm, h => by
    have hl' := List.pairwise_cons.1 hl
    have hm' := List.pairwise_cons.1 hm
    have hxy : x = y := by
      have h1 := (h x).1 (List.mem_cons_self ..)
      have h2 := (h y).2 (List.mem_cons_self ..)
      rcases List.mem_cons.1 h1 with e | h1
      · exact e
      · rcases List.mem_cons.1 h2 with e | h2
        · exact e.symm
        · have a := hm'.1 x h1
          have b := hl'.1 y h2
          omega
    subst hxy
    rw [rising_eq hl'.2 hm'.2 (fun z => ?_)]
    constructor
    · intro hz
      rcases List.mem_cons.1 ((h z).1 (List.mem_cons_of_mem _ hz)) with e | h1
      · have := hl'.1 z hz; omega
      · exact h1
    · intro hz
      rcases List.mem_cons.1 ((h z).2 (List.mem_cons_of_mem _ hz)) with e | h1
      · have := hm'.1 z hz; omega
      · exact h1
theorem those_rising (L : Nat) (p : Nat → Bool) : (those L p).Pairwise (· < ·) := by
  unfold those
  rw [List.pairwise_map]
  refine (List.Pairwise.filter p (List.pairwise_lt_range (n := L))).imp ?_
  intro a b h
  exact Int.ofNat_lt.2 h
theorem mem_those {L : Nat} {p : Nat → Bool} {x : Int} : x ∈ those L p ↔ ∃ n : Nat, n < L ∧ p n = true ∧ x = (n : Int) := by
  unfold those
  simp only [List.mem_map, List.mem_filter, List.mem_range]
  constructor
  · rintro ⟨n, ⟨h1, h2⟩, rfl⟩; exact ⟨n, h1, h2, rfl⟩
  · rintro ⟨n, h1, h2, rfl⟩; exact ⟨n, ⟨h1, h2⟩, rfl⟩
theorem those_is {L : Nat} {p : Nat → Bool} {l : List Int} (h : l.Pairwise (· < ·)) (hm : ∀ x, x ∈ l ↔ ∃ n : Nat, n < L ∧ p n = true ∧ x = (n : Int)) : l = those L p :=
  rising_eq h (those_rising L p) fun x => (hm x).trans mem_those.symm
/-- what is sorted, none twice -/
theorem sorted_rising {l : List Int} (h : l.Pairwise (· ≤ ·)) (hn : l.Nodup) : l.Pairwise (· < ·) := by
  refine List.Pairwise.imp₂ ?_ h hn
  intro a b h1 h2
  omega
def sortI (l : List Int) : List Int := l.mergeSort fun x y => decide (x ≤ y)
theorem sortI_perm (l : List Int) : (sortI l).Perm l := List.mergeSort_perm _ _
theorem sortI_len (l : List Int) : (sortI l).length = l.length := (sortI_perm l).length_eq
theorem sortI_sorted (l : List Int) : (sortI l).Pairwise (· ≤ ·) := by
  have := List.pairwise_mergeSort (le := fun x y : Int => decide (x ≤ y)) (fun x y z h1 h2 => by simp only [decide_eq_true_eq] at *; omega) (fun x y => by simp only [Bool.or_eq_true, decide_eq_true_eq]; omega) l
  refine this.imp ?_
  intro x y h
  simpa using h
theorem sort_those {l : List Int} {L : Nat} {p : Nat → Bool} (hn : l.Nodup) (hm : ∀ x, x ∈ l ↔ ∃ n : Nat, n < L ∧ p n = true ∧ x = (n : Int)) : sortI l = those L p :=
  those_is (sorted_rising (sortI_sorted l) ((sortI_perm l).nodup_iff.2 hn)) fun x => ((sortI_perm l).mem_iff).trans (hm x)
end
end Go.Proofs.YtnifmfdlocgefaaGreat.Cy

namespace Go.Proofs.YtnifmfdlocgefaaGreat.Cy
open Go Go.RowKit Kit

/-- blocks of M alone were turned -/
structure Fr (M : Nat → Prop) (W W' : World) : Prop where
  os : W'.os = W.os
  tape : W'.tape = W.tape
  output : W'.output = W.output
  size : W.heap.size ≤ W'.heap.size
  block : ∀ k, k < W.heap.size → ¬ M k → W'.heap[k]? = W.heap[k]?
/-- what is new of M is new at all -/
def Gr (M M' : Nat → Prop) (W : World) : Prop := ∀ k, M' k → M k ∨ W.heap.size ≤ k
theorem Fr.refl (M : Nat → Prop) (W : World) : Fr M W W := ⟨rfl, rfl, rfl, Nat.le_refl _, fun _ _ _ => rfl⟩
theorem Gr.refl (M : Nat → Prop) (W : World) : Gr M M W := fun _ h => .inl h
theorem Fr.trans {M M' : Nat → Prop} {A B C : World} (h : Fr M A B) (g : Gr M M' A) (k : Fr M' B C) : Fr M A C :=
  ⟨k.os.trans h.os, k.tape.trans h.tape, k.output.trans h.output, Nat.le_trans h.size k.size, fun i hi hM => (k.block i (Nat.lt_of_lt_of_le hi h.size) (fun hM' => (g i hM').elim hM (fun hle => by omega))).trans (h.block i hi hM)⟩
theorem Gr.trans {M M' M'' : Nat → Prop} {A B : World} (h : Gr M M' A) (hs : A.heap.size ≤ B.heap.size) (k : Gr M' M'' B) : Gr M M'' A := fun i hi =>
  (k i hi).elim (h i) (fun hle => .inr (Nat.le_trans hs hle))
theorem Fr.of_q {M : Nat → Prop} {A B : World} (q : Q A B) : Fr M A B := ⟨q.os, q.tape, q.output, q.size, fun k hk _ => q.block k hk⟩
theorem Fr.of_grown {M : Nat → Prop} {A B : World} {r : Nat} (g : A.grownBy B (some r)) (h : M r) : Fr M A B := ⟨g.os, g.tape, g.output, g.size, fun k hk hM => g.block k hk (fun e => by injection e with e; subst e; exact hM h)⟩
theorem Fr.mono {M M' : Nat → Prop} {A B : World} (h : Fr M A B) (hM : ∀ k, k < A.heap.size → M k → M' k) : Fr M' A B := ⟨h.os, h.tape, h.output, h.size, fun k hk hn => h.block k hk (fun hm => hn (hM k hk hm))⟩
theorem Fr.cell {M : Nat → Prop} {A B : World} (h : Fr M A B) {p : Addr} (hp : p.block < A.heap.size) (hM : ¬ M p.block) : B.cell? p = A.cell? p := World.cell?_of_block (h.block _ hp hM)
/-- what a loop's rounds keep: it minds no other blocks than those of M, from base on -/
structure Mind {α : Type} (base : Nat) (J : List α → (Nat → Prop) → World → Prop) : Prop where
  own : ∀ pre M W W' row, J pre M W → W.grownBy W' row → (∀ r, row = some r → base ≤ r ∧ ¬ M r) → J pre M W'
  lt : ∀ pre M W, J pre M W → ∀ k, M k → k < W.heap.size
theorem Mind.q {α : Type} {base : Nat} {J : List α → (Nat → Prop) → World → Prop} (h : Mind base J) {pre : List α} {M : Nat → Prop} {W W' : World} (hj : J pre M W) (q : Q W W') : J pre M W' :=
  h.own pre M W W' none hj ⟨q.os, q.tape, q.output, q.size, fun k hk _ => q.block k hk⟩ (fun r e => by cases e)
/-- the iterator g hands out all of xs, in whichever world behind w, if no round's block is one that it reads (K) -/
def Gives {α : Type} (P : Program) (g : Nat) (lb : Array Value) (encs : α → Array Value) (xs : List α) (K : Nat → Prop) (w : World) : Prop :=
  ∀ (l : Nat) (J : List α → (Nat → Prop) → World → Prop) (M : Nat → Prop) (W : World), Q w W → Mind W.heap.size J → (∀ k, K k → ¬ M k) → J [] M W →
    (∀ pre x M1 W1, J pre M1 W1 → (∃ post, pre ++ x :: post = xs) → YieldAt Fence.wide 4 P l (encs x) W1 fun e W' => e = .returned (.bool true) ∧ ∃ M', J (pre ++ [x]) M' W' ∧ Gr M1 M' W1 ∧ Fr M1 W1 W') →
    Calls P g (#[.func (.yield l) #[] #[]] ++ lb) W fun e W' => (∃ v, e = .returned v) ∧ ∃ M', J xs M' W'
theorem roundIn_any {P : Program} {m m' l : Nat} {f : FuncId} {tmps : Array Value} {assign body : Code} {w : World} {R : Ending → World → Prop} (h : RoundIn Fence.wide m P l f tmps assign body w R) : RoundIn Fence.wide m' P l f tmps assign body w R :=
  ⟨h.1, fun c cs _ => h.2 c cs (fun d hd => by cases hd)⟩
/-- how a round's body ends -/
def giveP {α : Type} (I : List α → (Nat → Prop) → World → Prop) (xs : List α) (M : Nat → Prop) (W : World) : Exit → Act → World → Prop
  | .normal, _, W' => ∃ M', I xs M' W' ∧ Gr M M' W ∧ Fr M W W'
  | _, _, _ => False

/-- THE LAW -/
theorem range_gives {α : Type} {P : Program} {g : Operand} {ps : Array Tmp} {assign body : Code} {R : Exit → Act → World → Prop} {a : Act} {w : World}
    {gf : Nat} {lb : Array Value} (hg : a.eval g = .func (.func gf) #[] lb) (eg : ∀ args w, (callFunc gf args).run P w = .ok (.enter gf args) w)
    {encs : α → Array Value} {xs : List α} {K : Nat → Prop} {w0 : World} (hseq : Gives P gf lb encs xs K w0) (hb0 : Q w0 w) (hps : ∀ x, (encs x).size = ps.size)
    (I : List α → (Nat → Prop) → World → Prop) (hI : Mind w.heap.size I) (M0 : Nat → Prop) (hK : ∀ k, K k → ¬ M0 k) (h0 : I [] M0 w) (a₁ : α → Act)
    (hassign : ∀ (l : Nat) (x : α) (W : World) (K' : Act → World → Prop), K' (a₁ x) W → assign.wpIn (Fence.wide.inRound l) 4 P (Exit.then K' (fun _ _ _ => False)) { tmps := (ps.zip (encs x)).foldl (fun t (p, v) => t.setIfInBounds p v) a.tmps, defers := [] } W)
    (hbody : ∀ (l : Nat) (pre : List α) (x : α) (M : Nat → Prop) (W : World), I pre M W → (∃ post, pre ++ x :: post = xs) → body.wpIn (Fence.wide.inRound l) 4 P (giveP I (pre ++ [x]) M W) (a₁ x) W)
    (hdone : ∀ (D : Nat) (M : Nat → Prop) (W : World), I xs M W → w.heap.size ≤ D → ¬ M D → W.heap[D]? = some (.deferred (some [])) → R .normal { a with defers := { target := .collected D, args := #[] } :: a.defers } W) :
    (Code.rangeFunc g ps assign body).wpIn Fence.wide 5 P R a w := by
  refine wpIn_rangeFunc fun fn hfn => ?_
  obtain ⟨D, hD⟩ : ∃ D, D = w.heap.size := ⟨_, rfl⟩
  obtain ⟨l, hl⟩ : ∃ l, l = w.heap.size + 1 := ⟨_, rfl⟩
  obtain ⟨Lp, hLp⟩ : ∃ Lp : LoopState → Loop, Lp = fun st => { state := st, pending := none, fn, tmps := a.tmps, params := ps, assign, body, defers := D } := ⟨_, rfl⟩
  obtain ⟨W1, hW1⟩ : ∃ W1, W1 = (w.alloc (.deferred (some []))).alloc (.loop (Lp .ready)) := ⟨_, rfl⟩
  have hs1 : W1.heap.size = w.heap.size + 2 := by rw [hW1]; simp
  have q1 : Q w W1 := by rw [hW1]; exact ((Q.refl w).alloc _).alloc _
  have hWl : W1.heap[l]? = some (.loop (Lp .ready)) := by
    have := World.alloc_heap_new (w.alloc (.deferred (some []))) (.loop (Lp .ready))
    rw [World.size_alloc, ← hW1, ← hl] at this
    exact this
  have hWD : W1.heap[D]? = some (.deferred (some [])) := by
    have := World.alloc_heap_new w (.deferred (some []))
    rw [hW1, hD]
    exact (Below.heap_alloc _ _ _ (by simp)).trans this
  have hM0 := hI.lt _ _ _ h0
  refine ⟨l, [{ target := .collected D, args := #[] }], W1, { target := .fn (.func gf) lb, args := #[.func (.yield l) #[] #[]] }, W1, gf, #[.func (.yield l) #[] #[]] ++ lb, W1, ?_, ?_, ?_, ?_, fun _ => by omega, ?_⟩
  · have := run_enterLoop_outer (P := P) (w := w) fn a.tmps ps assign body
    rw [← hl, ← hD] at this
    rw [hW1, hLp]
    exact this
  · simp only [resolve, hg]
    simp [go_sem]
  · intro f' _; trivial
  · simp [invoke, go_sem, eg]
  refine callsIn_wide.2 ?_
  refine (hseq l (fun pre M W => I pre M W ∧ W.heap[l]? = some (.loop (Lp .ready)) ∧ W.heap[D]? = some (.deferred (some [])) ∧ ¬ M l ∧ ¬ M D) M0 W1 (hb0.trans q1) ?_ hK ?_ ?_).mono ?_
  · refine ⟨fun pre M W W' row hj hgr hrow => ?_, fun pre M W hj => hI.lt _ _ _ hj.1⟩
    obtain ⟨hi, h1, h2, h3, h4⟩ := hj
    have lt1 := (Array.getElem?_eq_some_iff.1 h1).1
    have lt2 := (Array.getElem?_eq_some_iff.1 h2).1
    refine ⟨hI.own _ _ _ _ row hi hgr (fun r e => ⟨by have := (hrow r e).1; omega, (hrow r e).2⟩), (hgr.block l lt1 (fun e => ?_)).trans h1, (hgr.block D lt2 (fun e => ?_)).trans h2, h3, h4⟩
    · have := (hrow l e.symm).1; omega
    · have := (hrow D e.symm).1; omega
  · exact ⟨hI.q h0 q1, hWl, hWD, fun h => by have := hM0 l h; omega, fun h => by have := hM0 D h; omega⟩
  · rintro pre x M1 U ⟨hi, h1, h2, h3, h4⟩ hx
    have lt1 := (Array.getElem?_eq_some_iff.1 h1).1
    have hy := run_yield (P := P) (args := encs x) h1 (by rw [hLp]; exact hps x)
    rw [hLp] at hy
    refine ⟨fn, _, assign, body, hy, roundIn_of_wpIn hfn (hassign l x U _ ?_)⟩
    refine ⟨_, run_beginRound h1 (by rw [hLp]), ?_⟩
    have hb1 : (U.putObj l (.loop { Lp .ready with state := .busy })).heap[l]? = some (.loop { Lp .ready with state := .busy }) := World.putObj_heap_same lt1
    have gU := grownBy_putObj' U l (.loop { Lp .ready with state := .busy })
    have hi2 := hI.own _ _ _ _ _ hi gU (fun r e => by injection e with e; subst e; exact ⟨by omega, h3⟩)
    have h22 : (U.putObj l (.loop { Lp .ready with state := .busy })).heap[D]? = some (.deferred (some [])) := (World.putObj_heap_other (by omega)).trans h2
    refine wpIn_mono (hbody l pre x M1 _ hi2 hx) ?_
    intro e a3 W3 hp
    cases e with
    | normal =>
      obtain ⟨M', hi3, hgr, hfr⟩ := hp
      have hsz : (U.putObj l (.loop { Lp .ready with state := .busy })).heap.size = U.heap.size := World.putObj_size
      have lt2 := (Array.getElem?_eq_some_iff.1 h22).1
      have hl3 := (hfr.block l (by rw [hsz]; exact lt1) h3).trans hb1
      have hD3 := (hfr.block D lt2 h4).trans h22
      have lt3 := (Array.getElem?_eq_some_iff.1 hl3).1
      have nl : ¬ M' l := fun h => (hgr l h).elim h3 (fun hle => by rw [hsz] at hle; omega)
      have nD : ¬ M' D := fun h => (hgr D h).elim h4 (fun hle => by rw [hsz] at hle; omega)
      have hend := run_endRound (P := P) none hl3
      have g3 := grownBy_putObj' W3 l (.loop (Lp .ready))
      refine ⟨_, W3.putObj l (.loop (Lp .ready)), ?_, rfl, M', ⟨hI.own _ _ _ _ _ hi3 g3 (fun r e => by injection e with e; subst e; exact ⟨by omega, nl⟩), World.putObj_heap_same lt3, (World.putObj_heap_other (by omega)).trans hD3, nl, nD⟩, fun k hk => ?_, ?_⟩
      · rw [hend]
        simp [hLp]
      · have := hgr k hk
        rwa [hsz] at this
      · refine ⟨hfr.os.trans gU.os, hfr.tape.trans gU.tape, hfr.output.trans gU.output, ?_, fun k hk hM => ?_⟩
        · rw [World.putObj_size]; have := hfr.size; rw [hsz] at this; exact this
        · by_cases e : k = l
          · subst e
            rw [World.putObj_heap_same lt3]; exact h1.symm
          · rw [World.putObj_heap_other e, hfr.block k (by rw [hsz]; exact hk) hM, World.putObj_heap_other e]
    | ret => exact hp.elim
    | exit id => exact hp.elim
    | goto t => exact hp.elim
    | panic ch => exact hp.elim
    | outgrown => exact hp.elim
  · rintro e W2 ⟨⟨v, rfl⟩, M', hi, h1, h2, h3, h4⟩
    have lt1 := (Array.getElem?_eq_some_iff.1 h1).1
    have hend := run_endLoop (P := P) h1 (by rw [hLp]; simp)
    rw [hLp] at hend
    refine ⟨none, _, hend, ?_⟩
    refine hdone D M' _ (hI.own _ _ _ _ _ hi (grownBy_putObj' W2 l _) (fun r e => by injection e with e; subst e; exact ⟨by omega, h3⟩)) (by omega) h4 ((World.putObj_heap_other (by omega)).trans h2)
end Go.Proofs.YtnifmfdlocgefaaGreat.Cy

namespace Go.Proofs.YtnifmfdlocgefaaGreat.Cy
open Go Go.RowKit Go.Shelf Kit Uf Ig Tr
open Go.Proofs.YtnifmfdlocgefaaGreat.Hs (Keys Ints KeysP IntsP)
attribute [local go_sem] Oper.semAt_some

theorem place13 (a m : Int) (w : World) : Calls Tryz.prog 140 #[.int .i64 a, .int .i64 m] w fun e w' => e = .returned (.bool (decide (0 ≤ a) && decide (a < m))) ∧ w = w' := by
  have H : (0 ≤ a ∧ a < m) ∨ ¬ 0 ≤ a ∨ (0 ≤ a ∧ ¬ a < m) := by omega
  rcases H with ⟨h1, h2⟩ | h1 | ⟨h1, h2⟩
  · have d1 := decide_eq_true h1
    have d2 := decide_eq_true h2
    clear h1 h2
    go_enter Tryz.func140, Tryz.ntmps140
    go_wp2_with fail
    go_ret
    exact ⟨by rw [d1, d2]; rfl, rfl⟩
  · have d1 := decide_eq_false h1
    clear h1
    go_enter Tryz.func140, Tryz.ntmps140
    go_wp2_with fail
    go_ret
    exact ⟨by rw [d1]; rfl, rfl⟩
  · have d1 := decide_eq_true h1
    have d2 := decide_eq_false h2
    clear h1 h2
    go_enter Tryz.func140, Tryz.ntmps140
    go_wp2_with fail
    go_ret
    exact ⟨by rw [d1, d2]; rfl, rfl⟩
/-- the world behind told's call: three boxes -/
def toldW (w : World) (rv vv fv : Value) : World := ((w.alloc (.cells #[rv] 23)).alloc (.cells #[vv] 3)).alloc (.cells #[fv] 24)
theorem told_any (Ra Fa : Option Addr) (nr cr nf cf : Nat) (v : Int) (w : World) :
    Calls Tryz.prog 136 #[.slice Ra nr cr, .int .i64 v, .slice Fa nf cf] w fun e w' => e = .returned (.func (.func 195) #[] #[.pointer (some ⟨w.heap.size + 1, 0, none⟩), .pointer (some ⟨w.heap.size, 0, none⟩), .pointer (some ⟨w.heap.size + 2, 0, none⟩)]) ∧ w' = toldW w (.slice Ra nr cr) (.int .i64 v) (.slice Fa nf cf) := by
  go_enter Tryz.func136, Tryz.ntmps136
  go_wp2_with fail
  go_ret
  exact ⟨rfl, rfl⟩
/-- blocks of K below w are as they were, and no round's -/
structure Kp (K : Nat → Prop) (w : World) (M : Nat → Prop) (U : World) : Prop where
  size : w.heap.size ≤ U.heap.size
  block : ∀ k, k < w.heap.size → K k → U.heap[k]? = w.heap[k]?
  off : ∀ k, k < w.heap.size → K k → ¬ M k
theorem Kp.cell {K : Nat → Prop} {w U : World} {M : Nat → Prop} (h : Kp K w M U) {p : Addr} (hp : p.block < w.heap.size) (hK : K p.block) : U.cell? p = w.cell? p := World.cell?_of_block (h.block _ hp hK)
theorem Kp.fr {K : Nat → Prop} {w U U' : World} {M M' : Nat → Prop} (h : Kp K w M U) (f : Fr M U U') (g : Gr M M' U) : Kp K w M' U' :=
  ⟨Nat.le_trans h.size f.size, fun k hk hK => (f.block k (Nat.lt_of_lt_of_le hk h.size) (h.off k hk hK)).trans (h.block k hk hK), fun k hk hK hM => (g k hM).elim (h.off k hk hK) (fun hle => by have := h.size; omega)⟩
theorem Kp.q {K : Nat → Prop} {w U U' : World} {M : Nat → Prop} (h : Kp K w M U) (q : Q U U') : Kp K w M U' := h.fr (Fr.of_q q) (Gr.refl _ _)
theorem told_take {ks : List (List Int)} {V : List Int} {row : List Int} {v k : Nat} (hk : k < row.length) : toldN ks V (row.take (k + 1)) v = toldN ks V (row.take k) v ++ (if firstV ks V row[k] = -1 ∨ firstV ks V row[k] = (v : Int) then [] else [(firstV ks V row[k]).toNat]) := by
  unfold toldN
  rw [List.take_succ_eq_append_getElem hk, List.map_append, List.filter_append, List.map_append]
  congr 1
  by_cases h1 : firstV ks V row[k] = -1
  · simp [h1]
  · by_cases h2 : firstV ks V row[k] = (v : Int)
    · simp [h2]
    · simp [h1, h2]
theorem told_split {ks : List (List Int)} {V : List Int} {row : List Int} {v k : Nat} (hk : k < row.length) (h : ¬ (firstV ks V row[k] = -1 ∨ firstV ks V row[k] = (v : Int))) : ∃ post, toldN ks V (row.take k) v ++ (firstV ks V row[k]).toNat :: post = toldN ks V row v := by
  refine ⟨toldN ks V (row.drop (k + 1)) v, ?_⟩
  have h1 := told_take (ks := ks) (V := V) (v := v) hk
  rw [if_neg h] at h1
  have h2 : toldN ks V row v = toldN ks V (row.take (k + 1)) v ++ toldN ks V (row.drop (k + 1)) v := by
    unfold toldN
    rw [← List.map_append, ← List.filter_append, ← List.map_append, List.take_append_drop]
  rw [h2, h1, List.append_assoc]
  rfl
def firstsRow (ks : List (List Int)) (V : List Int) : List Int := (List.range ks.length).map fun (i : Nat) => firstV ks V (i : Int)
theorem firstsRow_len (ks : List (List Int)) (V : List Int) : (firstsRow ks V).length = ks.length := by simp [firstsRow]
theorem firstsRow_at {ks : List (List Int)} {V : List Int} {i : Nat} (hi : i < ks.length) : (firstsRow ks V)[i]'(by rw [firstsRow_len]; exact hi) = firstV ks V (i : Int) := by simp [firstsRow]
theorem firstV_out {ks : List (List Int)} {V : List Int} {id : Int} (h : (decide (0 ≤ id) && decide (id < (ks.length : Int))) = false) : firstV ks V id = -1 := by
  have hp : Tm.isPl id ks.length = false := by
    cases hh : Tm.isPl id ks.length with
    | false => rfl
    | true =>
      have := (Tm.isPl_iff _ _).1 hh
      simp at h
      omega
  have : numV ks V.length id < 0 := by
    unfold numV
    rw [Tm.termAt_out hp]
    simp
  unfold firstV
  rw [if_pos this]

set_option maxRecDepth 100000 in
set_option maxHeartbeats 4000000 in
theorem told_gives (ks rows : List (List Int)) (V : List Int) (v : Nat) (Ra Fa : Option Addr) (cr nf cf Bv Br Bf : Nat) (K : Nat → Prop) (w : World) (hv : v < rows.length)
    (bv : w.cell? ⟨Bv, 0, none⟩ = some (.int .i64 (v : Int))) (br : w.cell? ⟨Br, 0, none⟩ = some (.slice Ra rows.length cr)) (bf : w.cell? ⟨Bf, 0, none⟩ = some (.slice Fa nf cf)) (kv : K Bv ∧ Bv < w.heap.size) (kr : K Br ∧ Br < w.heap.size) (kf : K Bf ∧ Bf < w.heap.size)
    (hR : KeysP w K Ra rows) (hF : RdsP w K Fa (cellsI (firstsRow ks V))) (hnf : nf = ks.length) (hl : rows.length ≤ 1000000) (hrl : (rowG rows v).length ≤ 1000000) :
    Gives Tryz.prog 195 #[.pointer (some ⟨Bv, 0, none⟩), .pointer (some ⟨Br, 0, none⟩), .pointer (some ⟨Bf, 0, none⟩)] (fun x : Nat => #[.int .i64 (x : Int)]) (toldN ks V (rowG rows v) v) K w := by
  intro l J M W q hJ hKM h0 hY
  subst hnf
  obtain ⟨ra, hra, hrK, hrb, hrc⟩ := hR (by omega)
  obtain ⟨rw_, rc, -, hr0, hrI⟩ := hrc v rows[v] (List.getElem?_eq_getElem hv)
  obtain ⟨row, hrow⟩ : ∃ row, row = rowG rows v := ⟨_, rfl⟩
  have hrow2 : rows[v] = row := by rw [hrow]; unfold rowG; rw [rows_at hv]
  rw [hrow2] at hr0 hrI
  rw [← hrow] at hrl hY ⊢
  subst hra
  have hK0 : Kp K w M W := ⟨q.size, fun k hk _ => q.block k hk, fun k _ hk => hKM k hk⟩
  have ALL : Hid (∀ M U, Kp K w M U → U.cell? ⟨Bv, 0, none⟩ = some (.int .i64 (v : Int)) ∧ U.cell? ⟨Br, 0, none⟩ = some (.slice (some ra) rows.length cr) ∧ U.cell? ⟨Bf, 0, none⟩ = some (.slice Fa ks.length cf) ∧ U.cell? (ra.add v) = some (.slice rw_ row.length rc)) := fun M U h => ⟨(h.cell (p := ⟨Bv, 0, none⟩) kv.2 kv.1).trans bv, (h.cell (p := ⟨Br, 0, none⟩) kr.2 kr.1).trans br, (h.cell (p := ⟨Bf, 0, none⟩) kf.2 kf.1).trans bf, (h.cell (p := ra.add v) (by rw [Tr.add_block]; exact hrb) (by rw [Tr.add_block]; exact hrK)).trans hr0⟩
  have HF := Lib.hid hF
  have HI := Lib.hid hrI
  have HY := Lib.hid hY
  have HJ := Lib.hid hJ
  have HK0 := Lib.hid hK0
  have H0 := Lib.hid h0
  have hvl : (v : Int) < (rows.length : Int) := by omega
  have hv0 : (0 : Int) ≤ (v : Int) := Int.natCast_nonneg _
  have dp : (decide (0 ≤ (v : Int)) && decide ((v : Int) < (rows.length : Int))) = true := by rw [decide_eq_true hv0, decide_eq_true hvl]; rfl
  obtain ⟨s0, s1, s2, s3⟩ := ALL.out M W HK0.out
  clear bv br bf kv kr kf hR hF hrow hrow2 hr0 hrI hrc hrb hrK hY hJ hK0 h0 hv
  go_enter Tryz.func195, Tryz.ntmps195
  go_wp2_with (go_at_call 140; refine (place13 _ _ _).mono ?_; rintro e w' ⟨rfl, rfl⟩; rw [dp])
  go_loopw [17] (fun i wr => ∃ (k : Nat) (M' : Nat → Prop), k ≤ row.length ∧ i = .int .i64 k ∧ Hid (J (toldN ks V (row.take k) v) M' wr) ∧ Hid (Kp K w M' wr)) (fun i _ => row.length - (intOf i).toNat)
  case atStart => exact ⟨0, M, Nat.zero_le _, rfl, by simpa [toldN] using H0, HK0⟩
  case round =>
    clear s0 s1 s2 s3 HK0 H0
    obtain ⟨k, M', hk, rfl, HJk, HKk⟩ := hrel
    obtain ⟨s0, s1, s2, s3⟩ := ALL.out M' wr HKk.out
    by_cases hlt : k < row.length
    · obtain ⟨rad, hrad, hrK, hrb, hrc⟩ := HI.out (by omega)
      subst hrad
      have r0 : wr.cell? (rad.add k) = some (.int .i64 row[k]) := (HKk.out.cell (p := rad.add k) (by rw [Tr.add_block]; exact hrb) (by rw [Tr.add_block]; exact hrK)).trans (hrc k _ (List.getElem?_eq_getElem hlt))
      have d1 : decide ((k : Int) < (row.length : Int)) = true := decide_eq_true (by omega)
      have d2 : decide (k < row.length) = true := decide_eq_true hlt
      have HTk := Lib.hid (told_take (ks := ks) (V := V) (v := v) hlt)
      have HSp := Lib.hid (told_split (ks := ks) (V := V) (v := v) hlt)
      obtain ⟨a, ha⟩ : ∃ a, a = row[k] := ⟨_, rfl⟩
      rw [← ha] at r0 HTk HSp
      clear hrc hrb hrK ha
      go_upto_region 4 with fail
      clear r0 d1 d2 s1 s3
      cases hp : (decide (0 ≤ a) && decide (a < (ks.length : Int)))
      · have hfv := firstV_out (V := V) hp
        have HT : Hid (toldN ks V (row.take (k + 1)) v = toldN ks V (row.take k) v) := by unfold Hid; rw [HTk.out, if_pos (.inl hfv), List.append_nil]
        clear hfv HSp
        refine wp_region_held_drew (S := fun U => U.cell? ⟨Bv, 0, none⟩ = some (.int .i64 (v : Int)) ∧ U.cell? ⟨Bf, 0, none⟩ = some (.slice Fa ks.length cf)) (by kernel_rfl) ?_ (fun hHeld => ?_)
        · exact ⟨s0, s2⟩
        refine take_w (i := 0) (d := some 21) (v := ?_) rfl (by kernel_rfl) (by kernel_rfl) (by kernel_rfl) (fun _ _ _ h => h) rfl (by rfl) ?_ (by assumption) ?_
        rotate_left
        · (intro w hSw; (try dsimp only at hSw); go_simp; (try with_reducible rfl))
        try simp only [Act.put, List.setIfInBounds_toArray, List.set_cons_zero, List.set_cons_succ]
        refine take_w (i := 1) (d := some 22) (v := ?_) rfl (by kernel_rfl) (by kernel_rfl) (by kernel_rfl) (fun _ _ _ h => h) rfl (by rfl) ?_ (by assumption) ?_
        rotate_left
        · (intro w hSw; (try dsimp only at hSw); go_simp; (try with_reducible rfl))
        try simp only [Act.put, List.setIfInBounds_toArray, List.set_cons_zero, List.set_cons_succ]
        refine take_w (i := 2) (d := some 23) (v := ?_) rfl (by kernel_rfl) (by kernel_rfl) (by kernel_rfl) (fun _ _ _ h => h) rfl (by rfl) ?_ (by assumption) ?_
        rotate_left
        · (intro w hSw; (try dsimp only at hSw); go_simp; (try with_reducible rfl))
        try simp only [Act.put, List.setIfInBounds_toArray, List.set_cons_zero, List.set_cons_succ]
        refine call_w (i := 3) rfl (by kernel_rfl) (by rfl) (fun K hK => ?_)
        go_simp
        go_at_call 140
        refine (place13 _ _ _).mono ?_
        rintro e w' ⟨rfl, rfl⟩
        rw [hp]
        refine hK.out _ _ ?_ (fun hHeld => ?_)
        · exact hHeld
        clear hK K
        try simp only [Act.put, List.setIfInBounds_toArray, List.set_cons_zero, List.set_cons_succ]
        refine take_w (i := 4) (d := some 25) (v := ?_) rfl (by kernel_rfl) (by kernel_rfl) (by kernel_rfl) (fun _ _ _ h => h) rfl (by rfl) ?_ (by assumption) ?_
        rotate_left
        · (intro w hSw; (try dsimp only at hSw); go_simp; (try with_reducible rfl))
        try simp only [Act.put, List.setIfInBounds_toArray, List.set_cons_zero, List.set_cons_succ]
        refine take_w (i := 5) (d := some 26) (v := ?_) rfl (by kernel_rfl) (by kernel_rfl) (by kernel_rfl) (fun _ _ _ h => h) rfl (by rfl) ?_ (by assumption) ?_
        rotate_left
        · (intro w hSw; (try dsimp only at hSw); go_simp; (try with_reducible rfl))
        try simp only [Act.put, List.setIfInBounds_toArray, List.set_cons_zero, List.set_cons_succ]
        refine take_u (i := 6) (d := some 27) rfl (by kernel_rfl) (by kernel_rfl) (by kernel_rfl) (fun _ _ _ h => h) rfl (by rfl) (by assumption) ?_
        try simp only [Act.put, List.setIfInBounds_toArray, List.set_cons_zero, List.set_cons_succ]
        refine take_u (i := 7) (d := some 28) rfl (by kernel_rfl) (by kernel_rfl) (by kernel_rfl) (fun _ _ _ h => h) rfl (by rfl) (by assumption) ?_
        try simp only [Act.put, List.setIfInBounds_toArray, List.set_cons_zero, List.set_cons_succ]
        refine take_u (i := 8) (d := some 29) rfl (by kernel_rfl) (by kernel_rfl) (by kernel_rfl) (fun _ _ _ h => h) rfl (by rfl) (by assumption) ?_
        try simp only [Act.put, List.setIfInBounds_toArray, List.set_cons_zero, List.set_cons_succ]
        refine take_u (i := 9) (d := some 30) rfl (by kernel_rfl) (by kernel_rfl) (by kernel_rfl) (fun _ _ _ h => h) rfl (by rfl) (by assumption) ?_
        try simp only [Act.put, List.setIfInBounds_toArray, List.set_cons_zero, List.set_cons_succ]
        refine take_u (i := 10) (d := some 31) rfl (by kernel_rfl) (by kernel_rfl) (by kernel_rfl) (fun _ _ _ h => h) rfl (by rfl) (by assumption) ?_
        try simp only [Act.put, List.setIfInBounds_toArray, List.set_cons_zero, List.set_cons_succ]
        refine take_w (i := 11) (d := some 32) (v := ?_) rfl (by kernel_rfl) (by kernel_rfl) (by kernel_rfl) (fun _ _ _ h => h) rfl (by rfl) ?_ (by assumption) ?_
        rotate_left
        · (intro w hSw; (try dsimp only at hSw); go_simp; (try with_reducible rfl))
        try simp only [Act.put, List.setIfInBounds_toArray, List.set_cons_zero, List.set_cons_succ]
        refine take_w (i := 12) (d := some 33) (v := ?_) rfl (by kernel_rfl) (by kernel_rfl) (by kernel_rfl) (fun _ _ _ h => h) rfl (by rfl) ?_ (by assumption) ?_
        rotate_left
        · (intro w hSw; (try dsimp only at hSw); go_simp; (try with_reducible rfl))
        try simp only [Act.put, List.setIfInBounds_toArray, List.set_cons_zero, List.set_cons_succ]
        refine take_u (i := 13) (d := some 34) rfl (by kernel_rfl) (by kernel_rfl) (by kernel_rfl) (fun _ _ _ h => h) rfl (by rfl) (by assumption) ?_
        try simp only [Act.put, List.setIfInBounds_toArray, List.set_cons_zero, List.set_cons_succ]
        refine take_u (i := 14) (d := some 35) rfl (by kernel_rfl) (by kernel_rfl) (by kernel_rfl) (fun _ _ _ h => h) rfl (by rfl) (by assumption) ?_
        try simp only [Act.put, List.setIfInBounds_toArray, List.set_cons_zero, List.set_cons_succ]
        refine take_u (i := 15) (d := some 36) rfl (by kernel_rfl) (by kernel_rfl) (by kernel_rfl) (fun _ _ _ h => h) rfl (by rfl) (by assumption) ?_
        try simp only [Act.put, List.setIfInBounds_toArray, List.set_cons_zero, List.set_cons_succ]
        refine take_u (i := 16) (d := some 37) rfl (by kernel_rfl) (by kernel_rfl) (by kernel_rfl) (fun _ _ _ h => h) rfl (by rfl) (by assumption) ?_
        try simp only [Act.put, List.setIfInBounds_toArray, List.set_cons_zero, List.set_cons_succ]
        refine take_u (i := 17) (d := some 38) rfl (by kernel_rfl) (by kernel_rfl) (by kernel_rfl) (fun _ _ _ h => h) rfl (by rfl) (by assumption) ?_
        try simp only [Act.put, List.setIfInBounds_toArray, List.set_cons_zero, List.set_cons_succ]
        refine take_u (i := 18) (d := some 39) rfl (by kernel_rfl) (by kernel_rfl) (by kernel_rfl) (fun _ _ _ h => h) rfl (by rfl) (by assumption) ?_
        try simp only [Act.put, List.setIfInBounds_toArray, List.set_cons_zero, List.set_cons_succ]
        refine take_w (i := 19) (d := some 40) (v := ?_) rfl (by kernel_rfl) (by kernel_rfl) (by kernel_rfl) (fun _ _ _ h => h) rfl (by rfl) ?_ (by assumption) ?_
        rotate_left
        · (intro w hSw; (try dsimp only at hSw); go_simp; (try with_reducible rfl))
        try simp only [Act.put, List.setIfInBounds_toArray, List.set_cons_zero, List.set_cons_succ]
        refine wpAnyH_done (by kernel_rfl) ?_ _
        go_wp2_with fail
        go_roundw
        case rel => exact ⟨k + 1, M', by omega, by go_num, by rw [HT.out]; exact Lib.hid (HJ.out.q HJk.out (Q.refl wr).drew), Lib.hid (HKk.out.q (Q.refl wr).drew)⟩
        case measure => simp [intOf]; omega
      · have hpl := hp
        simp only [Bool.and_eq_true, decide_eq_true_eq] at hpl
        obtain ⟨m, hm⟩ := Int.eq_ofNat_of_zero_le hpl.1
        have hm : a = (m : Int) := hm
        subst hm
        have hmk : m < ks.length := by omega
        obtain ⟨fa, hfa, hfK, hfb, hfc⟩ := HF.out (by rw [cellsI_len, firstsRow_len]; omega)
        subst hfa
        obtain ⟨fv, hfv⟩ : ∃ fv, fv = firstV ks V (m : Int) := ⟨_, rfl⟩
        have r1 : wr.cell? (fa.add m) = some (.int .i64 fv) := (HKk.out.cell (p := fa.add m) (by rw [Tr.add_block]; exact hfb) (by rw [Tr.add_block]; exact hfK)).trans (by rw [hfc m _ (cellsI_at (by rw [firstsRow_len]; exact hmk)), firstsRow_at hmk, hfv])
        rw [← hfv] at HTk HSp
        have j1 : (m : Int) < (ks.length : Int) := by omega
        have j2 : (0 : Int) ≤ (m : Int) := Int.natCast_nonneg _
        have hor := firstV_or (ks := ks) (V := V) (m : Int)
        rw [← hfv] at hor
        clear hfb hfK hfc hpl hmk hfv
        by_cases h1 : fv = -1
        · have HT : Hid (toldN ks V (row.take (k + 1)) v = toldN ks V (row.take k) v) := by unfold Hid; rw [HTk.out, if_pos (.inl h1), List.append_nil]
          have e1 : (fv == (-1 : Int)) = true := beq_iff_eq.2 h1
          clear hor h1 HSp
          refine wp_region_held_drew (S := fun U => U.cell? ⟨Bv, 0, none⟩ = some (.int .i64 (v : Int)) ∧ U.cell? ⟨Bf, 0, none⟩ = some (.slice (some fa) ks.length cf) ∧ U.cell? (fa.add m) = some (.int .i64 fv)) (by kernel_rfl) ?_ (fun hHeld => ?_)
          · exact ⟨s0, s2, r1⟩
          refine take_w (i := 0) (d := some 21) (v := ?_) rfl (by kernel_rfl) (by kernel_rfl) (by kernel_rfl) (fun _ _ _ h => h) rfl (by rfl) ?_ (by assumption) ?_
          rotate_left
          · (intro w hSw; (try dsimp only at hSw); go_simp; (try with_reducible rfl))
          try simp only [Act.put, List.setIfInBounds_toArray, List.set_cons_zero, List.set_cons_succ]
          refine take_w (i := 1) (d := some 22) (v := ?_) rfl (by kernel_rfl) (by kernel_rfl) (by kernel_rfl) (fun _ _ _ h => h) rfl (by rfl) ?_ (by assumption) ?_
          rotate_left
          · (intro w hSw; (try dsimp only at hSw); go_simp; (try with_reducible rfl))
          try simp only [Act.put, List.setIfInBounds_toArray, List.set_cons_zero, List.set_cons_succ]
          refine take_w (i := 2) (d := some 23) (v := ?_) rfl (by kernel_rfl) (by kernel_rfl) (by kernel_rfl) (fun _ _ _ h => h) rfl (by rfl) ?_ (by assumption) ?_
          rotate_left
          · (intro w hSw; (try dsimp only at hSw); go_simp; (try with_reducible rfl))
          try simp only [Act.put, List.setIfInBounds_toArray, List.set_cons_zero, List.set_cons_succ]
          refine call_w (i := 3) rfl (by kernel_rfl) (by rfl) (fun K hK => ?_)
          go_simp
          go_at_call 140
          refine (place13 _ _ _).mono ?_
          rintro e w' ⟨rfl, rfl⟩
          rw [hp]
          refine hK.out _ _ ?_ (fun hHeld => ?_)
          · exact hHeld
          clear hK K
          try simp only [Act.put, List.setIfInBounds_toArray, List.set_cons_zero, List.set_cons_succ]
          refine take_w (i := 4) (d := some 25) (v := ?_) rfl (by kernel_rfl) (by kernel_rfl) (by kernel_rfl) (fun _ _ _ h => h) rfl (by rfl) ?_ (by assumption) ?_
          rotate_left
          · (intro w hSw; (try dsimp only at hSw); go_simp; (try with_reducible rfl))
          try simp only [Act.put, List.setIfInBounds_toArray, List.set_cons_zero, List.set_cons_succ]
          refine take_w (i := 5) (d := some 26) (v := ?_) rfl (by kernel_rfl) (by kernel_rfl) (by kernel_rfl) (fun _ _ _ h => h) rfl (by rfl) ?_ (by assumption) ?_
          rotate_left
          · (intro w hSw; (try dsimp only at hSw); go_simp; (try with_reducible rfl))
          try simp only [Act.put, List.setIfInBounds_toArray, List.set_cons_zero, List.set_cons_succ]
          refine take_w (i := 6) (d := some 27) (v := ?_) rfl (by kernel_rfl) (by kernel_rfl) (by kernel_rfl) (fun _ _ _ h => h) rfl (by rfl) ?_ (by assumption) ?_
          rotate_left
          · (intro w hSw; (try dsimp only at hSw); go_simp; (try with_reducible rfl))
          try simp only [Act.put, List.setIfInBounds_toArray, List.set_cons_zero, List.set_cons_succ]
          refine take_w (i := 7) (d := some 28) (v := ?_) rfl (by kernel_rfl) (by kernel_rfl) (by kernel_rfl) (fun _ _ _ h => h) rfl (by rfl) ?_ (by assumption) ?_
          rotate_left
          · (intro w hSw; (try dsimp only at hSw); go_simp; (try with_reducible rfl))
          try simp only [Act.put, List.setIfInBounds_toArray, List.set_cons_zero, List.set_cons_succ]
          refine take_w (i := 8) (d := some 29) (v := ?_) rfl (by kernel_rfl) (by kernel_rfl) (by kernel_rfl) (fun _ _ _ h => h) rfl (by rfl) ?_ (by assumption) ?_
          rotate_left
          · (intro w hSw; (try dsimp only at hSw); go_simp; (try with_reducible rfl))
          try simp only [Act.put, List.setIfInBounds_toArray, List.set_cons_zero, List.set_cons_succ]
          refine take_w (i := 9) (d := some 30) (v := ?_) rfl (by kernel_rfl) (by kernel_rfl) (by kernel_rfl) (fun _ _ _ h => h) rfl (by rfl) ?_ (by assumption) ?_
          rotate_left
          · (intro w hSw; (try dsimp only at hSw); go_simp; (try with_reducible rfl))
          try simp only [Act.put, List.setIfInBounds_toArray, List.set_cons_zero, List.set_cons_succ]
          refine take_w (i := 10) (d := some 31) (v := ?_) rfl (by kernel_rfl) (by kernel_rfl) (by kernel_rfl) (fun _ _ _ h => h) rfl (by rfl) ?_ (by assumption) ?_
          rotate_left
          · (intro w hSw; (try dsimp only at hSw); go_simp; (try with_reducible rfl))
          try simp only [Act.put, List.setIfInBounds_toArray, List.set_cons_zero, List.set_cons_succ]
          refine take_w (i := 11) (d := some 32) (v := ?_) rfl (by kernel_rfl) (by kernel_rfl) (by kernel_rfl) (fun _ _ _ h => h) rfl (by rfl) ?_ (by assumption) ?_
          rotate_left
          · (intro w hSw; (try dsimp only at hSw); go_simp; (try with_reducible rfl))
          try simp only [Act.put, List.setIfInBounds_toArray, List.set_cons_zero, List.set_cons_succ]
          refine take_w (i := 12) (d := some 33) (v := ?_) rfl (by kernel_rfl) (by kernel_rfl) (by kernel_rfl) (fun _ _ _ h => h) rfl (by rfl) ?_ (by assumption) ?_
          rotate_left
          · (intro w hSw; (try dsimp only at hSw); go_simp; (try with_reducible rfl))
          try simp only [Act.put, List.setIfInBounds_toArray, List.set_cons_zero, List.set_cons_succ]
          refine take_u (i := 13) (d := some 34) rfl (by kernel_rfl) (by kernel_rfl) (by kernel_rfl) (fun _ _ _ h => h) rfl (by rfl) (by assumption) ?_
          try simp only [Act.put, List.setIfInBounds_toArray, List.set_cons_zero, List.set_cons_succ]
          refine take_u (i := 14) (d := some 35) rfl (by kernel_rfl) (by kernel_rfl) (by kernel_rfl) (fun _ _ _ h => h) rfl (by rfl) (by assumption) ?_
          try simp only [Act.put, List.setIfInBounds_toArray, List.set_cons_zero, List.set_cons_succ]
          refine take_u (i := 15) (d := some 36) rfl (by kernel_rfl) (by kernel_rfl) (by kernel_rfl) (fun _ _ _ h => h) rfl (by rfl) (by assumption) ?_
          try simp only [Act.put, List.setIfInBounds_toArray, List.set_cons_zero, List.set_cons_succ]
          refine take_u (i := 16) (d := some 37) rfl (by kernel_rfl) (by kernel_rfl) (by kernel_rfl) (fun _ _ _ h => h) rfl (by rfl) (by assumption) ?_
          try simp only [Act.put, List.setIfInBounds_toArray, List.set_cons_zero, List.set_cons_succ]
          refine take_u (i := 17) (d := some 38) rfl (by kernel_rfl) (by kernel_rfl) (by kernel_rfl) (fun _ _ _ h => h) rfl (by rfl) (by assumption) ?_
          try simp only [Act.put, List.setIfInBounds_toArray, List.set_cons_zero, List.set_cons_succ]
          refine take_u (i := 18) (d := some 39) rfl (by kernel_rfl) (by kernel_rfl) (by kernel_rfl) (fun _ _ _ h => h) rfl (by rfl) (by assumption) ?_
          try simp only [Act.put, List.setIfInBounds_toArray, List.set_cons_zero, List.set_cons_succ]
          refine take_w (i := 19) (d := some 40) (v := ?_) rfl (by kernel_rfl) (by kernel_rfl) (by kernel_rfl) (fun _ _ _ h => h) rfl (by rfl) ?_ (by assumption) ?_
          rotate_left
          · (intro w hSw; (try dsimp only at hSw); go_simp; (try with_reducible rfl))
          try simp only [Act.put, List.setIfInBounds_toArray, List.set_cons_zero, List.set_cons_succ]
          refine wpAnyH_done (by kernel_rfl) ?_ _
          go_wp2_with fail
          go_roundw
          case rel => exact ⟨k + 1, M', by omega, by go_num, by rw [HT.out]; exact Lib.hid (HJ.out.q HJk.out (Q.refl wr).drew), Lib.hid (HKk.out.q (Q.refl wr).drew)⟩
          case measure => simp [intOf]; omega
        · have e1 : (fv == (-1 : Int)) = false := beq_eq_false_iff_ne.2 h1
          by_cases h2 : fv = (v : Int)
          · have HT : Hid (toldN ks V (row.take (k + 1)) v = toldN ks V (row.take k) v) := by unfold Hid; rw [HTk.out, if_pos (.inr h2), List.append_nil]
            have e2 : (fv == (v : Int)) = true := beq_iff_eq.2 h2
            clear hor h1 h2 HSp
            refine wp_region_held_drew (S := fun U => U.cell? ⟨Bv, 0, none⟩ = some (.int .i64 (v : Int)) ∧ U.cell? ⟨Bf, 0, none⟩ = some (.slice (some fa) ks.length cf) ∧ U.cell? (fa.add m) = some (.int .i64 fv)) (by kernel_rfl) ?_ (fun hHeld => ?_)
            · exact ⟨s0, s2, r1⟩
            refine take_w (i := 0) (d := some 21) (v := ?_) rfl (by kernel_rfl) (by kernel_rfl) (by kernel_rfl) (fun _ _ _ h => h) rfl (by rfl) ?_ (by assumption) ?_
            rotate_left
            · (intro w hSw; (try dsimp only at hSw); go_simp; (try with_reducible rfl))
            try simp only [Act.put, List.setIfInBounds_toArray, List.set_cons_zero, List.set_cons_succ]
            refine take_w (i := 1) (d := some 22) (v := ?_) rfl (by kernel_rfl) (by kernel_rfl) (by kernel_rfl) (fun _ _ _ h => h) rfl (by rfl) ?_ (by assumption) ?_
            rotate_left
            · (intro w hSw; (try dsimp only at hSw); go_simp; (try with_reducible rfl))
            try simp only [Act.put, List.setIfInBounds_toArray, List.set_cons_zero, List.set_cons_succ]
            refine take_w (i := 2) (d := some 23) (v := ?_) rfl (by kernel_rfl) (by kernel_rfl) (by kernel_rfl) (fun _ _ _ h => h) rfl (by rfl) ?_ (by assumption) ?_
            rotate_left
            · (intro w hSw; (try dsimp only at hSw); go_simp; (try with_reducible rfl))
            try simp only [Act.put, List.setIfInBounds_toArray, List.set_cons_zero, List.set_cons_succ]
            refine call_w (i := 3) rfl (by kernel_rfl) (by rfl) (fun K hK => ?_)
            go_simp
            go_at_call 140
            refine (place13 _ _ _).mono ?_
            rintro e w' ⟨rfl, rfl⟩
            rw [hp]
            refine hK.out _ _ ?_ (fun hHeld => ?_)
            · exact hHeld
            clear hK K
            try simp only [Act.put, List.setIfInBounds_toArray, List.set_cons_zero, List.set_cons_succ]
            refine take_w (i := 4) (d := some 25) (v := ?_) rfl (by kernel_rfl) (by kernel_rfl) (by kernel_rfl) (fun _ _ _ h => h) rfl (by rfl) ?_ (by assumption) ?_
            rotate_left
            · (intro w hSw; (try dsimp only at hSw); go_simp; (try with_reducible rfl))
            try simp only [Act.put, List.setIfInBounds_toArray, List.set_cons_zero, List.set_cons_succ]
            refine take_w (i := 5) (d := some 26) (v := ?_) rfl (by kernel_rfl) (by kernel_rfl) (by kernel_rfl) (fun _ _ _ h => h) rfl (by rfl) ?_ (by assumption) ?_
            rotate_left
            · (intro w hSw; (try dsimp only at hSw); go_simp; (try with_reducible rfl))
            try simp only [Act.put, List.setIfInBounds_toArray, List.set_cons_zero, List.set_cons_succ]
            refine take_w (i := 6) (d := some 27) (v := ?_) rfl (by kernel_rfl) (by kernel_rfl) (by kernel_rfl) (fun _ _ _ h => h) rfl (by rfl) ?_ (by assumption) ?_
            rotate_left
            · (intro w hSw; (try dsimp only at hSw); go_simp; (try with_reducible rfl))
            try simp only [Act.put, List.setIfInBounds_toArray, List.set_cons_zero, List.set_cons_succ]
            refine take_w (i := 7) (d := some 28) (v := ?_) rfl (by kernel_rfl) (by kernel_rfl) (by kernel_rfl) (fun _ _ _ h => h) rfl (by rfl) ?_ (by assumption) ?_
            rotate_left
            · (intro w hSw; (try dsimp only at hSw); go_simp; (try with_reducible rfl))
            try simp only [Act.put, List.setIfInBounds_toArray, List.set_cons_zero, List.set_cons_succ]
            refine take_w (i := 8) (d := some 29) (v := ?_) rfl (by kernel_rfl) (by kernel_rfl) (by kernel_rfl) (fun _ _ _ h => h) rfl (by rfl) ?_ (by assumption) ?_
            rotate_left
            · (intro w hSw; (try dsimp only at hSw); go_simp; (try with_reducible rfl))
            try simp only [Act.put, List.setIfInBounds_toArray, List.set_cons_zero, List.set_cons_succ]
            refine take_w (i := 9) (d := some 30) (v := ?_) rfl (by kernel_rfl) (by kernel_rfl) (by kernel_rfl) (fun _ _ _ h => h) rfl (by rfl) ?_ (by assumption) ?_
            rotate_left
            · (intro w hSw; (try dsimp only at hSw); go_simp; (try with_reducible rfl))
            try simp only [Act.put, List.setIfInBounds_toArray, List.set_cons_zero, List.set_cons_succ]
            refine take_w (i := 10) (d := some 31) (v := ?_) rfl (by kernel_rfl) (by kernel_rfl) (by kernel_rfl) (fun _ _ _ h => h) rfl (by rfl) ?_ (by assumption) ?_
            rotate_left
            · (intro w hSw; (try dsimp only at hSw); go_simp; (try with_reducible rfl))
            try simp only [Act.put, List.setIfInBounds_toArray, List.set_cons_zero, List.set_cons_succ]
            refine take_w (i := 11) (d := some 32) (v := ?_) rfl (by kernel_rfl) (by kernel_rfl) (by kernel_rfl) (fun _ _ _ h => h) rfl (by rfl) ?_ (by assumption) ?_
            rotate_left
            · (intro w hSw; (try dsimp only at hSw); go_simp; (try with_reducible rfl))
            try simp only [Act.put, List.setIfInBounds_toArray, List.set_cons_zero, List.set_cons_succ]
            refine take_w (i := 12) (d := some 33) (v := ?_) rfl (by kernel_rfl) (by kernel_rfl) (by kernel_rfl) (fun _ _ _ h => h) rfl (by rfl) ?_ (by assumption) ?_
            rotate_left
            · (intro w hSw; (try dsimp only at hSw); go_simp; (try with_reducible rfl))
            try simp only [Act.put, List.setIfInBounds_toArray, List.set_cons_zero, List.set_cons_succ]
            refine take_w (i := 13) (d := some 34) (v := ?_) rfl (by kernel_rfl) (by kernel_rfl) (by kernel_rfl) (fun _ _ _ h => h) rfl (by rfl) ?_ (by assumption) ?_
            rotate_left
            · (intro w hSw; (try dsimp only at hSw); go_simp; (try with_reducible rfl))
            try simp only [Act.put, List.setIfInBounds_toArray, List.set_cons_zero, List.set_cons_succ]
            refine take_w (i := 14) (d := some 35) (v := ?_) rfl (by kernel_rfl) (by kernel_rfl) (by kernel_rfl) (fun _ _ _ h => h) rfl (by rfl) ?_ (by assumption) ?_
            rotate_left
            · (intro w hSw; (try dsimp only at hSw); go_simp; (try with_reducible rfl))
            try simp only [Act.put, List.setIfInBounds_toArray, List.set_cons_zero, List.set_cons_succ]
            refine take_w (i := 15) (d := some 36) (v := ?_) rfl (by kernel_rfl) (by kernel_rfl) (by kernel_rfl) (fun _ _ _ h => h) rfl (by rfl) ?_ (by assumption) ?_
            rotate_left
            · (intro w hSw; (try dsimp only at hSw); go_simp; (try with_reducible rfl))
            try simp only [Act.put, List.setIfInBounds_toArray, List.set_cons_zero, List.set_cons_succ]
            refine take_w (i := 16) (d := some 37) (v := ?_) rfl (by kernel_rfl) (by kernel_rfl) (by kernel_rfl) (fun _ _ _ h => h) rfl (by rfl) ?_ (by assumption) ?_
            rotate_left
            · (intro w hSw; (try dsimp only at hSw); go_simp; (try with_reducible rfl))
            try simp only [Act.put, List.setIfInBounds_toArray, List.set_cons_zero, List.set_cons_succ]
            refine take_w (i := 17) (d := some 38) (v := ?_) rfl (by kernel_rfl) (by kernel_rfl) (by kernel_rfl) (fun _ _ _ h => h) rfl (by rfl) ?_ (by assumption) ?_
            rotate_left
            · (intro w hSw; (try dsimp only at hSw); go_simp; (try with_reducible rfl))
            try simp only [Act.put, List.setIfInBounds_toArray, List.set_cons_zero, List.set_cons_succ]
            refine take_w (i := 18) (d := some 39) (v := ?_) rfl (by kernel_rfl) (by kernel_rfl) (by kernel_rfl) (fun _ _ _ h => h) rfl (by rfl) ?_ (by assumption) ?_
            rotate_left
            · (intro w hSw; (try dsimp only at hSw); go_simp; (try with_reducible rfl))
            try simp only [Act.put, List.setIfInBounds_toArray, List.set_cons_zero, List.set_cons_succ]
            refine take_w (i := 19) (d := some 40) (v := ?_) rfl (by kernel_rfl) (by kernel_rfl) (by kernel_rfl) (fun _ _ _ h => h) rfl (by rfl) ?_ (by assumption) ?_
            rotate_left
            · (intro w hSw; (try dsimp only at hSw); go_simp; (try with_reducible rfl))
            try simp only [Act.put, List.setIfInBounds_toArray, List.set_cons_zero, List.set_cons_succ]
            refine wpAnyH_done (by kernel_rfl) ?_ _
            go_wp2_with fail
            go_roundw
            case rel => exact ⟨k + 1, M', by omega, by go_num, by rw [HT.out]; exact Lib.hid (HJ.out.q HJk.out (Q.refl wr).drew), Lib.hid (HKk.out.q (Q.refl wr).drew)⟩
            case measure => simp [intOf]; omega
          · have e2 : (fv == (v : Int)) = false := beq_eq_false_iff_ne.2 h2
            obtain ⟨f, hf⟩ := hor.resolve_left h1
            have hno : ¬ (fv = -1 ∨ fv = (v : Int)) := fun h => h.elim h1 h2
            have HT : Hid (toldN ks V (row.take (k + 1)) v = toldN ks V (row.take k) v ++ [f]) := by
              unfold Hid; rw [HTk.out, if_neg hno, hf]; simp
            obtain ⟨post, hpost⟩ := HSp.out hno
            rw [hf] at hpost
            have hY2 := HY.out (toldN ks V (row.take k) v) f M' wr.drew (HJ.out.q HJk.out (Q.refl wr).drew) ⟨post, by simpa using hpost⟩
            subst hf
            clear hor h1 h2 HSp hno hpost HTk
            refine wp_region_held_drew (S := fun U => U.cell? ⟨Bv, 0, none⟩ = some (.int .i64 (v : Int)) ∧ U.cell? ⟨Bf, 0, none⟩ = some (.slice (some fa) ks.length cf) ∧ U.cell? (fa.add m) = some (.int .i64 (f : Int))) (by kernel_rfl) ?_ (fun hHeld => ?_)
            · exact ⟨s0, s2, r1⟩
            refine take_w (i := 0) (d := some 21) (v := ?_) rfl (by kernel_rfl) (by kernel_rfl) (by kernel_rfl) (fun _ _ _ h => h) rfl (by rfl) ?_ (by assumption) ?_
            rotate_left
            · (intro w hSw; (try dsimp only at hSw); go_simp; (try with_reducible rfl))
            try simp only [Act.put, List.setIfInBounds_toArray, List.set_cons_zero, List.set_cons_succ]
            refine take_w (i := 1) (d := some 22) (v := ?_) rfl (by kernel_rfl) (by kernel_rfl) (by kernel_rfl) (fun _ _ _ h => h) rfl (by rfl) ?_ (by assumption) ?_
            rotate_left
            · (intro w hSw; (try dsimp only at hSw); go_simp; (try with_reducible rfl))
            try simp only [Act.put, List.setIfInBounds_toArray, List.set_cons_zero, List.set_cons_succ]
            refine take_w (i := 2) (d := some 23) (v := ?_) rfl (by kernel_rfl) (by kernel_rfl) (by kernel_rfl) (fun _ _ _ h => h) rfl (by rfl) ?_ (by assumption) ?_
            rotate_left
            · (intro w hSw; (try dsimp only at hSw); go_simp; (try with_reducible rfl))
            try simp only [Act.put, List.setIfInBounds_toArray, List.set_cons_zero, List.set_cons_succ]
            refine call_w (i := 3) rfl (by kernel_rfl) (by rfl) (fun K hK => ?_)
            go_simp
            go_at_call 140
            refine (place13 _ _ _).mono ?_
            rintro e w' ⟨rfl, rfl⟩
            rw [hp]
            refine hK.out _ _ ?_ (fun hHeld => ?_)
            · exact hHeld
            clear hK K
            try simp only [Act.put, List.setIfInBounds_toArray, List.set_cons_zero, List.set_cons_succ]
            refine take_w (i := 4) (d := some 25) (v := ?_) rfl (by kernel_rfl) (by kernel_rfl) (by kernel_rfl) (fun _ _ _ h => h) rfl (by rfl) ?_ (by assumption) ?_
            rotate_left
            · (intro w hSw; (try dsimp only at hSw); go_simp; (try with_reducible rfl))
            try simp only [Act.put, List.setIfInBounds_toArray, List.set_cons_zero, List.set_cons_succ]
            refine take_w (i := 5) (d := some 26) (v := ?_) rfl (by kernel_rfl) (by kernel_rfl) (by kernel_rfl) (fun _ _ _ h => h) rfl (by rfl) ?_ (by assumption) ?_
            rotate_left
            · (intro w hSw; (try dsimp only at hSw); go_simp; (try with_reducible rfl))
            try simp only [Act.put, List.setIfInBounds_toArray, List.set_cons_zero, List.set_cons_succ]
            refine take_w (i := 6) (d := some 27) (v := ?_) rfl (by kernel_rfl) (by kernel_rfl) (by kernel_rfl) (fun _ _ _ h => h) rfl (by rfl) ?_ (by assumption) ?_
            rotate_left
            · (intro w hSw; (try dsimp only at hSw); go_simp; (try with_reducible rfl))
            try simp only [Act.put, List.setIfInBounds_toArray, List.set_cons_zero, List.set_cons_succ]
            refine take_w (i := 7) (d := some 28) (v := ?_) rfl (by kernel_rfl) (by kernel_rfl) (by kernel_rfl) (fun _ _ _ h => h) rfl (by rfl) ?_ (by assumption) ?_
            rotate_left
            · (intro w hSw; (try dsimp only at hSw); go_simp; (try with_reducible rfl))
            try simp only [Act.put, List.setIfInBounds_toArray, List.set_cons_zero, List.set_cons_succ]
            refine take_w (i := 8) (d := some 29) (v := ?_) rfl (by kernel_rfl) (by kernel_rfl) (by kernel_rfl) (fun _ _ _ h => h) rfl (by rfl) ?_ (by assumption) ?_
            rotate_left
            · (intro w hSw; (try dsimp only at hSw); go_simp; (try with_reducible rfl))
            try simp only [Act.put, List.setIfInBounds_toArray, List.set_cons_zero, List.set_cons_succ]
            refine take_w (i := 9) (d := some 30) (v := ?_) rfl (by kernel_rfl) (by kernel_rfl) (by kernel_rfl) (fun _ _ _ h => h) rfl (by rfl) ?_ (by assumption) ?_
            rotate_left
            · (intro w hSw; (try dsimp only at hSw); go_simp; (try with_reducible rfl))
            try simp only [Act.put, List.setIfInBounds_toArray, List.set_cons_zero, List.set_cons_succ]
            refine take_w (i := 10) (d := some 31) (v := ?_) rfl (by kernel_rfl) (by kernel_rfl) (by kernel_rfl) (fun _ _ _ h => h) rfl (by rfl) ?_ (by assumption) ?_
            rotate_left
            · (intro w hSw; (try dsimp only at hSw); go_simp; (try with_reducible rfl))
            try simp only [Act.put, List.setIfInBounds_toArray, List.set_cons_zero, List.set_cons_succ]
            refine take_w (i := 11) (d := some 32) (v := ?_) rfl (by kernel_rfl) (by kernel_rfl) (by kernel_rfl) (fun _ _ _ h => h) rfl (by rfl) ?_ (by assumption) ?_
            rotate_left
            · (intro w hSw; (try dsimp only at hSw); go_simp; (try with_reducible rfl))
            try simp only [Act.put, List.setIfInBounds_toArray, List.set_cons_zero, List.set_cons_succ]
            refine take_w (i := 12) (d := some 33) (v := ?_) rfl (by kernel_rfl) (by kernel_rfl) (by kernel_rfl) (fun _ _ _ h => h) rfl (by rfl) ?_ (by assumption) ?_
            rotate_left
            · (intro w hSw; (try dsimp only at hSw); go_simp; (try with_reducible rfl))
            try simp only [Act.put, List.setIfInBounds_toArray, List.set_cons_zero, List.set_cons_succ]
            refine take_w (i := 13) (d := some 34) (v := ?_) rfl (by kernel_rfl) (by kernel_rfl) (by kernel_rfl) (fun _ _ _ h => h) rfl (by rfl) ?_ (by assumption) ?_
            rotate_left
            · (intro w hSw; (try dsimp only at hSw); go_simp; (try with_reducible rfl))
            try simp only [Act.put, List.setIfInBounds_toArray, List.set_cons_zero, List.set_cons_succ]
            refine take_w (i := 14) (d := some 35) (v := ?_) rfl (by kernel_rfl) (by kernel_rfl) (by kernel_rfl) (fun _ _ _ h => h) rfl (by rfl) ?_ (by assumption) ?_
            rotate_left
            · (intro w hSw; (try dsimp only at hSw); go_simp; (try with_reducible rfl))
            try simp only [Act.put, List.setIfInBounds_toArray, List.set_cons_zero, List.set_cons_succ]
            refine take_w (i := 15) (d := some 36) (v := ?_) rfl (by kernel_rfl) (by kernel_rfl) (by kernel_rfl) (fun _ _ _ h => h) rfl (by rfl) ?_ (by assumption) ?_
            rotate_left
            · (intro w hSw; (try dsimp only at hSw); go_simp; (try with_reducible rfl))
            try simp only [Act.put, List.setIfInBounds_toArray, List.set_cons_zero, List.set_cons_succ]
            refine take_w (i := 16) (d := some 37) (v := ?_) rfl (by kernel_rfl) (by kernel_rfl) (by kernel_rfl) (fun _ _ _ h => h) rfl (by rfl) ?_ (by assumption) ?_
            rotate_left
            · (intro w hSw; (try dsimp only at hSw); go_simp; (try with_reducible rfl))
            try simp only [Act.put, List.setIfInBounds_toArray, List.set_cons_zero, List.set_cons_succ]
            refine take_w (i := 17) (d := some 38) (v := ?_) rfl (by kernel_rfl) (by kernel_rfl) (by kernel_rfl) (fun _ _ _ h => h) rfl (by rfl) ?_ (by assumption) ?_
            rotate_left
            · (intro w hSw; (try dsimp only at hSw); go_simp; (try with_reducible rfl))
            try simp only [Act.put, List.setIfInBounds_toArray, List.set_cons_zero, List.set_cons_succ]
            refine take_w (i := 18) (d := some 39) (v := ?_) rfl (by kernel_rfl) (by kernel_rfl) (by kernel_rfl) (fun _ _ _ h => h) rfl (by rfl) ?_ (by assumption) ?_
            rotate_left
            · (intro w hSw; (try dsimp only at hSw); go_simp; (try with_reducible rfl))
            try simp only [Act.put, List.setIfInBounds_toArray, List.set_cons_zero, List.set_cons_succ]
            refine take_w (i := 19) (d := some 40) (v := ?_) rfl (by kernel_rfl) (by kernel_rfl) (by kernel_rfl) (fun _ _ _ h => h) rfl (by rfl) ?_ (by assumption) ?_
            rotate_left
            · (intro w hSw; (try dsimp only at hSw); go_simp; (try with_reducible rfl))
            try simp only [Act.put, List.setIfInBounds_toArray, List.set_cons_zero, List.set_cons_succ]
            refine wpAnyH_done (by kernel_rfl) ?_ _
            go_upto_region 5 with fail
            obtain ⟨fn, tmps, assign, body, hy, hR⟩ := hY2
            have HR := Lib.hid hR
            clear hR
            have e1' := e1
            refine (wpIn_wide (n := 5)).1 ?_
            gi_wp2
            refine (roundIn_any HR.out).mono ?_
            rintro e W3 ⟨rfl, M3, hJ3, hG3, hF3⟩
            have HJ3 := Lib.hid hJ3
            have HK3 := Lib.hid ((HKk.out.q (Q.refl wr).drew).fr hF3 hG3)
            clear hJ3 hG3 hF3
            gi_wp2
            go_wp2_with fail
            go_roundw
            case rel => exact ⟨k + 1, M3, by omega, by go_num, by rw [HT.out]; exact HJ3, HK3⟩
            case measure => simp [intOf]; omega
    · obtain rfl : k = row.length := by omega
      have d1 : decide ((row.length : Int) < (row.length : Int)) = false := decide_eq_false (by omega)
      have d2 : decide (row.length < row.length) = false := decide_eq_false (by omega)
      rw [List.take_length] at HJk
      go_wp2_with fail
      go_end0
      exact ⟨⟨_, rfl⟩, M', HJk.out⟩
end Go.Proofs.YtnifmfdlocgefaaGreat.Cy

namespace Go.Proofs.YtnifmfdlocgefaaGreat.Uf
open Go.RowKit Kit Tr

/-- what a call answers: a row of numbers, that can be read -/
def RowPost (l : List Int) (w : World) (e : Ending) (w' : World) : Prop :=
  ∃ A k, e = .returned (.slice A l.length k) ∧ l.length ≤ k ∧ Rds w' w'.heap.size A (cellsI l) ∧ Q w w'
theorem own_read {w : World} {base : Nat} {v : Value} {n : Nat} {l : List Int} (h : w.ownsRow base 3 1 v n (cellsI l)) (hn : n = l.length) : ∃ A c, v = .slice A l.length c ∧ l.length ≤ c ∧ Rds w w.heap.size A (cellsI l) := by
  subst hn
  have h2 := h
  obtain ⟨hl, ⟨rfl, h0⟩ | ⟨g, cap, cur, rfl, hg, hh, hc, _⟩⟩ := h
  · exact ⟨none, 0, by rw [h0], by omega, fun h => by rw [cellsI_len] at h; omega⟩
  · exact ⟨_, cap, rfl, hc, (OwnC.of_row h2).rds⟩
theorem own_nil (w : World) (base : Nat) : w.ownsRow base 3 1 (.slice none 0 0) 0 (cellsI []) := ⟨by simp [cellsI], .inl ⟨rfl, rfl⟩⟩

end Go.Proofs.YtnifmfdlocgefaaGreat.Uf

namespace Go.Proofs.YtnifmfdlocgefaaGreat.Uf
open Go.RowKit Kit Tr

theorem own_made (w : World) (n : Nat) (t : TypeId) : OwnC (w.alloc (.cells (madeCells #[.int .i64 0] n) t)) w.heap.size (cellsI (List.replicate n 0)) := by
  refine ⟨by simp, fun i x hx => ?_⟩
  have hi : i < n := by have := (List.getElem?_eq_some_iff.1 hx).1; simpa [cellsI] using this
  have e : x = .int .i64 0 := by rw [cellsI, List.map_replicate, List.getElem?_replicate, if_pos hi] at hx; simpa using hx.symm
  subst e
  refine ⟨?_, World.frozen?_alloc_at _ _ _ _ rfl⟩
  rw [cell_of_row _ _ _ _ _ _ (heap_alloc_new w _)]
  simp [madeCells, hi, Nat.mod_one]
theorem make_ints (n : Nat) (hn : n ≤ 100000000) (u : World) : (Instr.makeSlice 24 (.int .i64 (n : Int)) (.int .i64 (n : Int))).run Tryz.prog u = .ok (.slice (some ⟨u.heap.size, 0, none⟩) n n) (u.alloc (.cells (madeCells #[.int .i64 0] n) 3)) := by
  obtain ⟨i0, hi, hz0, hz1, hz2⟩ := info_parts intInfo
  have h := run_make (P := Tryz.prog) u 24 3 i0 _ Tryz.underlying24 hi hz0 .i64 .i64 (n : Int) (n : Int) (by omega) (by omega) (by rw [hz2]; omega) (by omega)
  rw [hz1, Nat.mul_one] at h
  exact h

end Go.Proofs.YtnifmfdlocgefaaGreat.Uf
