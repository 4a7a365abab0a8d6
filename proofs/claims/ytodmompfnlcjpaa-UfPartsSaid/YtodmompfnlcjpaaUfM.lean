/-
  Plain: classes are parts: as many numbers as all classes of first ones together.
-/
import Derived.Test.YtodmompfnlcjpaaUfK
namespace Go.Proofs.Ytodmompfnlcjpaa.Uf
open Kit Tr

def thoseN (L : Nat) (p : Nat → Bool) : List Nat := (List.range L).filter p
theorem those_eq (L : Nat) (p : Nat → Bool) : those L p = (thoseN L p).map Int.ofNat := rfl
theorem thoseN_in {L : Nat} {p : Nat → Bool} {n : Nat} (h : n ∈ thoseN L p) : n < L ∧ p n = true := by
  unfold thoseN at h
  rw [List.mem_filter] at h
  exact ⟨by simpa using h.1, h.2⟩
theorem thoseN_rise (L : Nat) (p : Nat → Bool) : (thoseN L p).Pairwise (· < ·) := List.Pairwise.filter _ List.pairwise_lt_range
theorem those_len2 (L : Nat) (p : Nat → Bool) : (those L p).length = (thoseN L p).length := by rw [those_eq, List.length_map]
theorem those_at {L : Nat} {p : Nat → Bool} {k : Nat} (h : k < (thoseN L p).length) : (those L p)[k]'(by rw [those_len2]; exact h) = ((thoseN L p)[k] : Int) := by
  simp only [those_eq, List.getElem_map]; rfl

def sm : List Nat → (Nat → Nat) → Nat
  | [], _ => 0
  | f :: l, g => g f + sm l g
theorem sm_zero (l : List Nat) : sm l (fun _ => 0) = 0 := by
  induction l with
  | nil => rfl
  | cons f l ih => show 0 + sm l _ = 0; rw [ih]
theorem sm_add (l : List Nat) (g h : Nat → Nat) : sm l (fun f => g f + h f) = sm l g + sm l h := by
  induction l with
  | nil => rfl
  | cons f l ih => show g f + h f + sm l _ = (g f + sm l g) + (h f + sm l h); rw [ih]; omega
theorem sm_snoc (l : List Nat) (f : Nat) (g : Nat → Nat) : sm (l ++ [f]) g = sm l g + g f := by
  induction l with
  | nil => show g f + 0 = 0 + g f; omega
  | cons x l ih => show g x + sm (l ++ [f]) g = g x + sm l g + g f; rw [ih]; omega
theorem sm_congr {l : List Nat} {g h : Nat → Nat} (e : ∀ f ∈ l, g f = h f) : sm l g = sm l h := by
  induction l with
  | nil => rfl
  | cons x l ih =>
    show g x + sm l g = h x + sm l h
    rw [e x (by simp), ih fun f hf => e f (by simp [hf])]
theorem sm_one {l : List Nat} {x : Nat} (hl : l.Pairwise (· < ·)) (hx : x ∈ l) : sm l (fun f => if x = f then 1 else 0) = 1 := by
  induction l with
  | nil => cases hx
  | cons f l ih =>
    rw [List.pairwise_cons] at hl
    show (if x = f then 1 else 0) + sm l (fun f => if x = f then 1 else 0) = 1
    by_cases e : x = f
    · subst e
      rw [if_pos rfl, sm_congr (h := fun _ => 0) fun g hg => by have := hl.1 g hg; exact if_neg (by omega), sm_zero]
    · rw [if_neg e, ih hl.2 ((List.mem_cons.1 hx).resolve_left e)]
theorem sm_take_succ {l : List Nat} {k : Nat} (h : k < l.length) (g : Nat → Nat) : sm (l.take (k + 1)) g = sm (l.take k) g + g l[k] := by
  rw [List.take_succ_eq_append_getElem h, sm_snoc]
theorem sm_take_le (l : List Nat) (k : Nat) (g : Nat → Nat) : sm (l.take k) g ≤ sm l g := by
  induction l generalizing k with
  | nil => simp [sm]
  | cons x l ih =>
    cases k with
    | zero => simp [sm]
    | succ k => show g x + sm (l.take k) g ≤ g x + sm l g; have := ih k; omega
/-- of these numbers each is counted with just one of l -/
theorem sm_parts {l : List Nat} (hl : l.Pairwise (· < ·)) (r : Nat → Nat) : ∀ (ns : List Nat), (∀ n ∈ ns, r n ∈ l) → sm l (fun f => (ns.filter fun n => r n == f).length) = ns.length
  | [], _ => by
    have : sm l (fun f => (([] : List Nat).filter fun n => r n == f).length) = sm l (fun _ => 0) := sm_congr fun _ _ => rfl
    rw [this, sm_zero]; rfl
  | x :: ns, h => by
    have ih := sm_parts hl r ns fun n hn => h n (by simp [hn])
    rw [sm_congr (h := fun f => (if r x = f then 1 else 0) + (ns.filter fun n => r n == f).length) fun f _ => ?_, sm_add, ih, sm_one hl (h x (by simp)), List.length_cons]
    · omega
    · by_cases e : r x = f
      · rw [if_pos e, List.filter_cons_of_pos (by simpa using e), List.length_cons]; omega
      · rw [if_neg e, List.filter_cons_of_neg (by simpa using e)]; omega

/-- first ones, and a class, as numbers -/
def firstsN (V : List Int) : List Nat := thoseN V.length fun m => par V m == m
def classN (V : List Int) (n : Nat) : List Nat := thoseN V.length fun m => fst V m == fst V n
theorem firsts_in {R V : List Int} (h : Cl R V) {k : Nat} (hk : k < (firstsN V).length) : (firstsN V)[k] < V.length ∧ fst V (firstsN V)[k] = (firstsN V)[k] := by
  obtain ⟨a, b⟩ := thoseN_in (List.getElem_mem hk)
  exact ⟨a, h.fst_self a (eq_of_beq b)⟩
theorem firsts_rise {V : List Int} {k : Nat} (hk : k + 1 < (firstsN V).length) : (firstsN V)[k] < (firstsN V)[k + 1] := List.pairwise_iff_getElem.1 (thoseN_rise _ _) k (k + 1) (Nat.lt_of_succ_lt hk) hk (Nat.lt_succ_self k)
theorem class_in {V : List Int} {n k : Nat} (hk : k < (classN V n).length) : (classN V n)[k] < V.length ∧ fst V (classN V n)[k] = fst V n := by
  obtain ⟨a, b⟩ := thoseN_in (List.getElem_mem hk)
  exact ⟨a, eq_of_beq b⟩
/-- how many there are in the classes of the first k ones -/
def many (V : List Int) (k : Nat) : Nat := sm ((firstsN V).take k) fun f => (classN V f).length
theorem many_succ {V : List Int} {k : Nat} (hk : k < (firstsN V).length) : many V (k + 1) = many V k + (classN V (firstsN V)[k]).length := sm_take_succ hk _
theorem many_all {R V : List Int} (h : Cl R V) : many V (firstsN V).length = V.length := by
  unfold many
  rw [List.take_length, sm_congr (h := fun f => ((List.range V.length).filter fun n => fst V n == f).length) fun f hf => ?_]
  · have := sm_parts (l := firstsN V) (thoseN_rise _ _) (fst V) (List.range V.length) fun n hn => ?_
    · rw [this, List.length_range]
    · have hn : n < V.length := by simpa using hn
      obtain ⟨a, b, _⟩ := h.fst_in n hn
      show _ ∈ (List.range V.length).filter _
      rw [List.mem_filter]
      exact ⟨by simpa using a, by simpa using b⟩
  · obtain ⟨a, b⟩ := thoseN_in hf
    unfold classN thoseN
    rw [h.fst_self a (eq_of_beq b)]
theorem many_le {R V : List Int} (h : Cl R V) (k : Nat) : many V k ≤ V.length := by
  rw [← many_all h]
  unfold many
  rw [List.take_length]
  exact sm_take_le _ _ _
end Go.Proofs.Ytodmompfnlcjpaa.Uf
