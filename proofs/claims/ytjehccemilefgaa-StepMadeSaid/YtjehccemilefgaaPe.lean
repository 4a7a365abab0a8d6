/-
  What the proofs lean on, part 5 of 16.
-/
import Derived.Test.YtjehccemilefgaaPc
import Derived.Test.YtjehccemilefgaaPd
import Derived.Deep.QuietTactic
import Derived.BigQuiet
namespace Go.Proofs.Ytjehccemilefgaa.St
open Go.RowKit Kit Rw
open Go.Proofs.Ytjehccemilefgaa.Sg (Sig)
open Go.Proofs.Ytjehccemilefgaa.Tm (Tm Store ofKey termAt isPl isPl_iff)
open Go.Proofs.Ytjehccemilefgaa.Ld (tmP parts_ahead)
open Go.Proofs.Ytjehccemilefgaa.Ex (turnB)
def layP : List PI → PI → List PI
  | [], p => [p]
  | a :: l, p => if ltP a p then a :: layP l p else if a = p then a :: l else p :: a :: l
theorem layP_mem {z p : PI} : ∀ {l : List PI}, z ∈ layP l p ↔ z ∈ l ∨ z = p
  | [] => by simp [layP]
  | a :: l => by
    unfold layP
    split
    · rw [List.mem_cons, layP_mem, List.mem_cons, or_assoc]
    · split
      · rename_i h
        subst h
        constructor
        · exact fun h => .inl h
        · rintro (h | rfl)
          · exact h
          · simp
      · rw [List.mem_cons]
        constructor
        · rintro (h | h)
          · exact .inr h
          · exact .inl h
        · rintro (h | h)
          · exact .inr h
          · exact .inl h
theorem layP_rise {p : PI} : ∀ {l : List PI}, l.Pairwise ltP → (layP l p).Pairwise ltP
  | [], _ => by simp [layP]
  | a :: l, h => by
    obtain ⟨h1, h2⟩ := List.pairwise_cons.1 h
    unfold layP
    split
    · rename_i hap
      refine List.pairwise_cons.2 ⟨fun z hz => ?_, layP_rise h2⟩
      rcases layP_mem.1 hz with hz | rfl
      · exact h1 z hz
      · exact hap
    · rename_i hap
      split
      · exact h
      · rename_i hne
        have hpa : ltP p a := by
          rcases ltP_tri p a with h | h | h
          · exact h
          · exact absurd h.symm hne
          · exact absurd h hap
        refine List.pairwise_cons.2 ⟨fun z hz => ?_, h⟩
        rcases List.mem_cons.1 hz with rfl | hz
        · exact hpa
        · exact ltP_trans hpa (h1 z hz)
/-- how many are ahead of a pair -/
def cutP : List PI → PI → Nat
  | [], _ => 0
  | a :: l, p => if ltP a p then cutP l p + 1 else 0
theorem layP_cut (p : PI) : ∀ (l : List PI), layP l p = l.take (cutP l p) ++ (if l[cutP l p]? = some p then [] else [p]) ++ l.drop (cutP l p)
  | [] => by simp [layP, cutP]
  | a :: l => by
    unfold layP cutP
    by_cases h : ltP a p
    · rw [if_pos h, if_pos h, List.take_succ_cons, List.drop_succ_cons, List.getElem?_cons_succ, layP_cut p l]
      simp
    · rw [if_neg h, if_neg h]
      by_cases he : a = p
      · rw [if_pos he, he]; simp
      · rw [if_neg he]; simp [he]
theorem cutP_le (p : PI) : ∀ (l : List PI), cutP l p ≤ l.length
  | [] => Nat.le_refl _
  | a :: l => by
    unfold cutP
    split
    · have := cutP_le p l; simp; omega
    · omega
def layAll : List PI → List PI → List PI
  | acc, [] => acc
  | acc, r :: rs => layAll (layP acc r) rs
theorem layAll_mem {z : PI} : ∀ {rs acc : List PI}, z ∈ layAll acc rs ↔ z ∈ acc ∨ z ∈ rs
  | [], acc => by simp [layAll]
  | r :: rs, acc => by
    unfold layAll
    rw [layAll_mem, layP_mem, List.mem_cons, or_assoc]
theorem layAll_rise : ∀ {rs acc : List PI}, acc.Pairwise ltP → (layAll acc rs).Pairwise ltP
  | [], _, h => h
  | _ :: rs, _, h => layAll_rise (rs := rs) (layP_rise h)
theorem layAll_at (acc rs : List PI) (k : Nat) (h : k < rs.length) : layAll acc (rs.drop k) = layAll (layP acc rs[k]) (rs.drop (k + 1)) := by
  rw [List.drop_eq_getElem_cons h]; rfl
theorem layP_len (p : PI) (l : List PI) : (layP l p).length ≤ l.length + 1 := by
  rw [layP_cut]
  have := cutP_le p l
  rw [List.length_append, List.length_append, List.length_take, List.length_drop]
  split <;> simp <;> omega

def addF : List PI → List PI → List PI
  | A, [] => A
  | A, p :: ps => addF (if p ∈ A then A else A ++ [p]) ps
theorem addF_at (A ps : List PI) (k : Nat) (h : k < ps.length) : addF A (ps.drop k) = addF (if ps[k] ∈ A then A else A ++ [ps[k]]) (ps.drop (k + 1)) := by
  rw [List.drop_eq_getElem_cons h]; rfl
theorem addF_end (A ps : List PI) (k : Nat) (h : ps.length ≤ k) : addF A (ps.drop k) = A := by
  rw [List.drop_of_length_le h]; rfl
theorem addF_mem {z : PI} : ∀ {ps A : List PI}, z ∈ addF A ps ↔ z ∈ A ∨ z ∈ ps
  | [], A => by simp [addF]
  | p :: ps, A => by
    unfold addF
    rw [addF_mem, List.mem_cons]
    split
    · rename_i h
      constructor
      · rintro (h1 | h1)
        · exact .inl h1
        · exact .inr (.inr h1)
      · rintro (h1 | h1 | h1)
        · exact .inl h1
        · subst h1; exact .inl h
        · exact .inr h1
    · rw [List.mem_append, List.mem_singleton, or_assoc]
theorem addF_nodup : ∀ {ps A : List PI}, A.Nodup → (addF A ps).Nodup
  | [], _, h => h
  | p :: ps, A, h => by
    unfold addF
    refine addF_nodup (ps := ps) ?_
    split
    · exact h
    · rename_i hp
      rw [List.nodup_append]
      refine ⟨h, by simp, fun a ha b hb => ?_⟩
      rw [List.mem_singleton] at hb
      subst hb
      exact fun e => hp (e ▸ ha)
theorem addF_get : ∀ {ps A : List PI} {k : Nat}, k < A.length → (addF A ps)[k]? = A[k]?
  | [], _, _, _ => rfl
  | p :: ps, A, k, h => by
    unfold addF
    split
    · exact addF_get h
    · rw [addF_get (by simp; omega), List.getElem?_append_left h]
theorem addF_len : ∀ (ps A : List PI), (addF A ps).length ≤ A.length + ps.length
  | [], A => by simp [addF]
  | p :: ps, A => by
    unfold addF
    refine Nat.le_trans (addF_len ps _) ?_
    split <;> simp <;> omega
theorem addF_ge : ∀ (ps A : List PI), A.length ≤ (addF A ps).length
  | [], A => Nat.le_refl _
  | p :: ps, A => by
    unfold addF
    refine Nat.le_trans ?_ (addF_ge ps _)
    split <;> simp

section
variable {L : List Sig} {ks : List (List Int)}
structure AllI (L : List Sig) (ks : List (List Int)) (p : PI) (A : List PI) (i : Nat) (at' cl : List PI) : Prop where
  head : A[0]? = some p
  nd : A.Nodup
  reach : ∀ z ∈ A, Reach L ks p z
  done : ∀ (k : Nat) z, k < i → A[k]? = some z → ∀ u ∈ (stepF L ks z.1 z.2).2, u ∈ A
  ra : at'.Pairwise ltP
  ma : ∀ z, z ∈ at' ↔ (∃ k, k < i ∧ A[k]? = some z) ∧ (stepF L ks z.1 z.2).1 = 2
  rc : cl.Pairwise ltP
  mc : ∀ z, z ∈ cl ↔ (∃ k, k < i ∧ A[k]? = some z) ∧ (stepF L ks z.1 z.2).1 = 3
theorem AllI.init (p : PI) : AllI L ks p [p] 0 [] [] :=
  ⟨rfl, by simp, fun z hz => by rw [List.mem_singleton] at hz; subst hz; exact .self, fun k z h => absurd h (by omega), .nil, fun z => ⟨fun h => (by cases h), fun ⟨⟨k, h, _⟩, _⟩ => absurd h (by omega)⟩, .nil, fun z => ⟨fun h => (by cases h), fun ⟨⟨k, h, _⟩, _⟩ => absurd h (by omega)⟩⟩
theorem AllI.next {p : PI} {A : List PI} {i : Nat} {at' cl : List PI} (h : AllI L ks p A i at' cl) {z : PI} (hz : A[i]? = some z) :
    AllI L ks p (addF A (stepF L ks z.1 z.2).2) (i + 1) (if (stepF L ks z.1 z.2).1 = 2 then layP at' z else at') (if (stepF L ks z.1 z.2).1 = 3 then layP cl z else cl) := by
  have hil : i < A.length := (List.getElem?_eq_some_iff.1 hz).1
  have hzA : z ∈ A := List.mem_of_getElem? hz
  have hget : ∀ (k : Nat), k < i + 1 → (addF A (stepF L ks z.1 z.2).2)[k]? = A[k]? := fun k hk => addF_get (by omega)
  have hstep : ∀ (kd : Int) (R : List PI), (R.Pairwise ltP) → (∀ u, u ∈ R ↔ (∃ k, k < i ∧ A[k]? = some u) ∧ (stepF L ks u.1 u.2).1 = kd) →
      (if (stepF L ks z.1 z.2).1 = kd then layP R z else R).Pairwise ltP ∧ ∀ u, u ∈ (if (stepF L ks z.1 z.2).1 = kd then layP R z else R) ↔ (∃ k, k < i + 1 ∧ (addF A (stepF L ks z.1 z.2).2)[k]? = some u) ∧ (stepF L ks u.1 u.2).1 = kd := fun kd R hr hm => by
    have cases_k : ∀ u, (∃ k, k < i + 1 ∧ (addF A (stepF L ks z.1 z.2).2)[k]? = some u) ↔ (∃ k, k < i ∧ A[k]? = some u) ∨ u = z := fun u => by
      constructor
      · rintro ⟨k, hk, hu⟩
        rw [hget k hk] at hu
        rcases Nat.lt_or_eq_of_le (Nat.le_of_lt_succ hk) with h1 | h1
        · exact .inl ⟨k, h1, hu⟩
        · subst h1
          rw [hz] at hu
          injection hu with hu
          exact .inr hu.symm
      · rintro (⟨k, hk, hu⟩ | rfl)
        · exact ⟨k, by omega, by rw [hget k (by omega)]; exact hu⟩
        · exact ⟨i, by omega, by rw [hget i (by omega)]; exact hz⟩
    by_cases hk : (stepF L ks z.1 z.2).1 = kd
    · rw [if_pos hk]
      refine ⟨layP_rise hr, fun u => ?_⟩
      rw [layP_mem, hm, cases_k]
      constructor
      · rintro (⟨h1, h2⟩ | rfl)
        · exact ⟨.inl h1, h2⟩
        · exact ⟨.inr rfl, hk⟩
      · rintro ⟨h1 | h1, h2⟩
        · exact .inl ⟨h1, h2⟩
        · exact .inr h1
    · rw [if_neg hk]
      refine ⟨hr, fun u => ?_⟩
      rw [hm, cases_k]
      constructor
      · rintro ⟨h1, h2⟩
        exact ⟨.inl h1, h2⟩
      · rintro ⟨h1 | rfl, h2⟩
        · exact ⟨h1, h2⟩
        · exact absurd h2 hk
  obtain ⟨a1, a2⟩ := hstep 2 at' h.ra h.ma
  obtain ⟨c1, c2⟩ := hstep 3 cl h.rc h.mc
  refine ⟨by rw [addF_get (by omega)]; exact h.head, addF_nodup h.nd, fun u hu => ?_, fun k u hk hu v hv => ?_, a1, a2, c1, c2⟩
  · rcases addF_mem.1 hu with h1 | h1
    · exact h.reach u h1
    · exact (h.reach z hzA).step h1
  · rw [hget k hk] at hu
    rw [addF_mem]
    rcases Nat.lt_or_eq_of_le (Nat.le_of_lt_succ hk) with h1 | h1
    · exact .inl (h.done k u h1 hu v hv)
    · subst h1
      rw [hz] at hu
      injection hu with hu
      subst hu
      exact .inr hv
theorem AllI.all {p : PI} {A : List PI} {at' cl : List PI} (h : AllI L ks p A A.length at' cl) : ∀ z, z ∈ A ↔ Reach L ks p z := fun z => by
  constructor
  · exact h.reach z
  · intro hz
    induction hz with
    | self => exact List.mem_of_getElem? h.head
    | @step q z hq hz ih =>
      obtain ⟨k, hk, hkq⟩ := List.getElem_of_mem ih
      exact h.done k q hk (by rw [List.getElem?_eq_getElem hk, hkq]) z hz
theorem AllI.end_ {p : PI} {A : List PI} {at' cl : List PI} (h : AllI L ks p A A.length at' cl) : at' = kindC L ks 2 p ∧ cl = kindC L ks 3 p := by
  have hm : ∀ z, (∃ k, k < A.length ∧ A[k]? = some z) ↔ Reach L ks p z := fun z => by
    rw [← h.all z]
    constructor
    · rintro ⟨k, _, hk⟩; exact List.mem_of_getElem? hk
    · intro hz
      obtain ⟨k, hk, hkz⟩ := List.getElem_of_mem hz
      exact ⟨k, hk, by rw [List.getElem?_eq_getElem hk, hkz]⟩
  exact ⟨kindC_is (by omega) h.ra fun z => by rw [h.ma, hm], kindC_is (by omega) h.rc fun z => by rw [h.mc, hm]⟩
theorem grid_len (n : Nat) : (grid n).length = n * n := by
  unfold grid
  rw [List.length_flatMap]
  have : ∀ m : Nat, ((List.range m).map fun _ : Nat => n).sum = m * n := fun m => by
    induction m with
    | zero => simp
    | succ m ih => rw [List.range_succ, List.map_append, List.sum_append, ih]; simp [Nat.succ_mul]
  simpa using this n
theorem AllI.len {p : PI} {A : List PI} {i : Nat} {at' cl : List PI} (hS : Store L ks) (h : AllI L ks p A i at' cl) : A.length ≤ ks.length * ks.length + 1 := by
  have : A ⊆ p :: grid ks.length := fun z hz => by
    rcases reach_place hS (h.reach z hz) with rfl | h1
    · simp
    · exact List.mem_cons_of_mem _ (grid_mem.2 h1)
  have := h.nd.length_le_of_subset this
  rw [List.length_cons, grid_len] at this
  exact this
theorem kindC_len (kd : Int) (p : PI) : (kindC L ks kd p).length ≤ ks.length * ks.length := by
  unfold kindC
  refine Nat.le_trans (List.length_filter_le _ _) ?_
  rw [grid_len]; exact Nat.le_refl _

theorem kindC_alone {kd : Int} (hk : kd ≠ 0) {p : PI} (h : (stepF L ks p.1 p.2).2 = []) : kindC L ks kd p = if (stepF L ks p.1 p.2).1 = kd then [p] else [] := by
  symm
  refine kindC_is hk ?_ fun z => ?_
  · split
    · exact List.pairwise_singleton _ _
    · exact .nil
  · have hr : Reach L ks p z ↔ z = p := by
      constructor
      · intro hz
        rcases reach_top hz with e | ⟨q, hq, _⟩
        · exact e
        · rw [h] at hq; cases hq
      · rintro rfl; exact .self
    rw [hr]
    split
    · rename_i hh
      rw [List.mem_singleton]
      constructor
      · rintro rfl; exact ⟨rfl, hh⟩
      · exact fun h => h.1
    · rename_i hh
      constructor
      · intro g; cases g
      · rintro ⟨e, g⟩; rw [e] at g; exact absurd g hh
/-- all of one is all of its parts, and it -/
theorem kindC_made {kd : Int} (hk : kd ≠ 0) {p : PI} {acc : List PI} (hr : acc.Pairwise ltP) (hm : ∀ z, z ∈ acc ↔ (z = p ∧ (stepF L ks p.1 p.2).1 = kd) ∨ ∃ q ∈ (stepF L ks p.1 p.2).2, z ∈ kindC L ks kd q) : acc = kindC L ks kd p := by
  refine kindC_is hk hr fun z => ?_
  rw [hm]
  constructor
  · rintro (⟨rfl, h⟩ | ⟨q, hq, hz⟩)
    · exact ⟨.self, h⟩
    · obtain ⟨h1, h2⟩ := (kindC_mem hk).1 hz
      exact ⟨(Reach.step .self hq).trans h1, h2⟩
  · rintro ⟨h1, h2⟩
    rcases reach_top h1 with rfl | ⟨q, hq, hz⟩
    · exact .inl ⟨rfl, h2⟩
    · exact .inr ⟨q, hq, (kindC_mem hk).2 ⟨hz, h2⟩⟩
theorem stepT_kinds (x y : Int) (s t : Tm) : ((stepT L x y s t).1 = 0 ∨ (stepT L x y s t).1 = 1 ∨ (stepT L x y s t).1 = 2 ∨ (stepT L x y s t).1 = 3) ∧ ((stepT L x y s t).1 = 1 ∨ (stepT L x y s t).2 = []) := by
  unfold stepT
  split
  · exact ⟨.inl rfl, .inr rfl⟩
  · split
    · exact ⟨.inr (.inl rfl), .inl rfl⟩
    · split
      · exact ⟨.inr (.inl rfl), .inl rfl⟩
      · split
        · exact ⟨.inr (.inr (.inl rfl)), .inr rfl⟩
        · split
          · unfold projF
            split
            · exact ⟨.inr (.inl rfl), .inl rfl⟩
            · split
              · exact ⟨.inr (.inl rfl), .inl rfl⟩
              · exact ⟨.inl rfl, .inr rfl⟩
          · split
            · exact ⟨.inr (.inl rfl), .inl rfl⟩
            · split
              · exact ⟨.inr (.inr (.inr rfl)), .inr rfl⟩
              · exact ⟨.inl rfl, .inr rfl⟩
theorem step_kinds (x y : Int) : ((stepF L ks x y).1 = 0 ∨ (stepF L ks x y).1 = 1 ∨ (stepF L ks x y).1 = 2 ∨ (stepF L ks x y).1 = 3) ∧ ((stepF L ks x y).1 = 1 ∨ (stepF L ks x y).2 = []) := by
  unfold stepF
  split
  · exact stepT_kinds x y _ _
  · exact ⟨.inl rfl, .inr rfl⟩
/-- a term is below itself, Zero below all, all below One -/
theorem step_self (x : Int) : stepF L ks x x = (0, []) := by
  unfold stepF
  split
  · unfold stepT; rw [if_pos (.inl rfl)]
  · rfl
theorem step_zero (hS : Store L ks) (y : Int) : stepF L ks 0 y = (0, []) := by
  have h2 := hS.two
  have hf := Store.head hS (i := 0) (by omega)
  have ht : termAt ks 0 = some ⟨0, 0, 0, []⟩ := by
    have := (place_tok hS (i := 0) (by omega)).2
    have e : tmP ks 0 = ⟨0, 0, 0, []⟩ := by unfold tmP; rw [hf]; rfl
    rw [e] at this
    exact this
  unfold stepF
  rw [ht]
  cases termAt ks y with
  | none => rfl
  | some t => show stepT L 0 y _ t = _; unfold stepT; rw [if_pos (.inr (.inl rfl))]
theorem step_one (hS : Store L ks) (x : Int) : stepF L ks x 1 = (0, []) := by
  have h2 := hS.two
  have hf := Store.head hS (i := 1) (by omega)
  have ht : termAt ks 1 = some ⟨1, 0, 0, []⟩ := by
    have := (place_tok hS (i := 1) (by omega)).2
    have e : tmP ks 1 = ⟨1, 0, 0, []⟩ := by unfold tmP; rw [hf]; rfl
    rw [e] at this
    exact this
  unfold stepF
  rw [ht]
  cases termAt ks x with
  | none => rfl
  | some s => show stepT L x 1 s _ = _; unfold stepT; rw [if_pos (.inr (.inr rfl))]
theorem step_other (hS : Store L ks) {i j : Nat} (hi : i < ks.length) (hj : j < ks.length) (h1 : (tmP ks i).k = 3) (h2 : (tmP ks j).k = 3) (h3 : (tmP ks i).s ≠ (tmP ks j).s) : stepF L ks (i : Int) (j : Int) = (3, []) := by
  rw [stepF_at hS hi hj]
  have hne : ¬ (i : Int) = (j : Int) := fun e => by
    have : i = j := by omega
    subst this
    exact h3 rfl
  unfold stepT
  rw [if_neg (by omega), if_neg (by omega), if_neg (by omega), if_neg (by omega), if_neg (by omega), if_neg (fun h => h3 h.2.2), if_pos ⟨.inr h1, .inr h2⟩]
theorem plain_both (hS : Store L ks) : ∀ (i : Nat), i < ks.length → (∀ k, k ≤ i → (tmP ks k).k ≤ 3) → (sdP L ks i).2.2 = true := by
  intro i
  induction i using Nat.strongRecOn with
  | ind i ih =>
    intro hi hk
    have hp := (parts_ahead hS (List.getElem?_eq_getElem hi)).2.2
    rw [← tmP_is hi] at hp
    have h0 := hk i (Nat.le_refl _)
    rw [sdP_eq hS hi]
    unfold own3 may3
    simp only [Bool.and_eq_true, decide_eq_true_eq]
    refine ⟨by omega, (allS_iff 0 _).2 fun k x hx => ?_⟩
    rw [turn_B]
    obtain ⟨a, b⟩ := hp x (List.mem_of_getElem? hx)
    exact ih x.toNat (by omega) (by omega) fun k hkx => hk k (by omega)
theorem union_sides (hS : Store L ks) {i : Nat} (hi : i < ks.length) (h : (tmP ks i).k = 4) : (sdP L ks i).2.1 = false ∧ (sdP L ks i).2.2 = false := by
  rw [sdP_eq hS hi]
  unfold own3 may3
  rw [h]
  exact ⟨rfl, rfl⟩
theorem inter_sides (hS : Store L ks) {i : Nat} (hi : i < ks.length) (h : (tmP ks i).k = 5 ∨ (tmP ks i).k = 6) : (sdP L ks i).1 = false ∧ (sdP L ks i).2.2 = false := by
  rw [sdP_eq hS hi]
  unfold own3 may3
  rcases h with h | h
  · rw [h]; exact ⟨rfl, rfl⟩
  · rw [h]; exact ⟨rfl, rfl⟩
end
end Go.Proofs.Ytjehccemilefgaa.St

namespace Go.Proofs.Ytjehccemilefgaa.St
open Go.RowKit Kit Rw
open Go.Proofs.Ytjehccemilefgaa.Sg (Sig)
open Go.Proofs.Ytjehccemilefgaa.Tm (Tm Store ofKey termAt isPl isPl_iff)
open Go.Proofs.Ytjehccemilefgaa.Ld (tmP parts_ahead)
open Go.Proofs.Ytjehccemilefgaa.Ex (turnB)
abbrev Ask := Bool × Bool
def bitI (b : Ask) : Int := (if b.1 then 1 else 0) + (if b.2 then 2 else 0)
def askSide (s : UInt8) : Ask := if s = 76 then (true, false) else if s = 82 then (false, true) else (true, true)
def askTurn (b : Ask) (v : UInt8) : Ask := if v = 43 then b else if v = 45 then (b.2, b.1) else (true, true)
def askOr (b c : Ask) : Ask := (b.1 || c.1, b.2 || c.2)
def mayAsk (k : Int) (b : Ask) : Bool := if k = 4 then b.1 && !b.2 else if k = 5 ∨ k = 6 then !b.1 && b.2 else true
def met (b : Ask) (v : B3) : Bool := (!b.1 || v.1) && (!b.2 || v.2.1)
theorem met_or (b c : Ask) (v : B3) : met (askOr b c) v = (met b v && met c v) := by
  unfold met askOr
  obtain ⟨b1, b2⟩ := b; obtain ⟨c1, c2⟩ := c
  cases b1 <;> cases b2 <;> cases c1 <;> cases c2 <;> cases v.1 <;> cases v.2.1 <;> rfl
theorem met_none (v : B3) : met (false, false) v = true := rfl
section
variable {L : List Sig} {ks : List (List Int)}
theorem all_at {t : Tm} {f : Int → B3} {s : UInt8} {l : List Int} : allS L t f s 0 l = true ↔ ∀ (i : Nat) (x : Int), l[i]? = some x → onF (turnB s (varyT L t i)) (f x) = true := by
  rw [allS_iff]
  simp only [Nat.zero_add]
theorem turnB_L (v : UInt8) : turnB 76 v = if v = 43 then 76 else if v = 45 then 82 else 66 := by
  unfold turnB
  split
  · rfl
  · by_cases h : v = 45
    · rw [if_pos ⟨h, rfl⟩, if_pos h]
    · rw [if_neg (fun hh => h hh.1), if_neg (fun hh => h hh.1), if_neg h]
theorem turnB_R (v : UInt8) : turnB 82 v = if v = 43 then 82 else if v = 45 then 76 else 66 := by
  unfold turnB
  split
  · rfl
  · by_cases h : v = 45
    · rw [if_neg (by rintro ⟨_, h⟩; exact absurd h (by decide)), if_pos ⟨h, rfl⟩, if_pos h]
    · rw [if_neg (fun hh => h hh.1), if_neg (fun hh => h hh.1), if_neg h]
/-- on both sides is as good as on each -/
theorem both_is (hS : Store L ks) : ∀ (i : Nat), i < ks.length → (sdP L ks i).2.2 = ((sdP L ks i).1 && (sdP L ks i).2.1) := by
  intro i
  induction i using Nat.strongRecOn with
  | ind i ih =>
    intro hi
    rw [Bool.eq_iff_iff, Bool.and_eq_true]
    constructor
    · exact fun h => both_each hS i hi h
    · rintro ⟨h1, h2⟩
      have hp := (parts_ahead hS (List.getElem?_eq_getElem hi)).2.2
      rw [← tmP_is hi] at hp
      rw [sdP_eq hS hi] at h1 h2 ⊢
      unfold own3 at h1 h2 ⊢
      simp only [Bool.and_eq_true] at h1 h2 ⊢
      obtain ⟨m1, a1⟩ := h1
      obtain ⟨m2, a2⟩ := h2
      unfold may3 at m1 m2 ⊢
      simp only [decide_eq_true_eq] at m1 m2 ⊢
      refine ⟨⟨m1.1, m1.2, m2⟩, ?_⟩
      rw [all_at] at a1 a2 ⊢
      intro k x hx
      rw [turn_B]
      obtain ⟨p, q⟩ := hp x (List.mem_of_getElem? hx)
      have e1 := a1 k x hx
      have e2 := a2 k x hx
      show (sdP L ks x.toNat).2.2 = true
      rw [ih x.toNat (by omega) (by omega), Bool.and_eq_true]
      rw [turnB_L] at e1
      rw [turnB_R] at e2
      by_cases h43 : varyT L (tmP ks i) k = 43
      · rw [if_pos h43] at e1 e2; exact ⟨e1, e2⟩
      · rw [if_neg h43] at e1 e2
        by_cases h45 : varyT L (tmP ks i) k = 45
        · rw [if_pos h45] at e1 e2; exact ⟨e2, e1⟩
        · rw [if_neg h45] at e1
          have e3 : (sdP L ks x.toNat).2.2 = true := e1
          exact both_each hS x.toNat (by omega) e3
theorem met_side (hS : Store L ks) {i : Nat} (hi : i < ks.length) (s : UInt8) : met (askSide s) (sdP L ks i) = onF s (sdP L ks i) := by
  have hb := both_is hS i hi
  unfold met askSide onF
  by_cases h1 : s = 76
  · simp [h1]
  · by_cases h2 : s = 82
    · simp [h2]
    · simp [h1, h2, hb]
theorem met_turn (hS : Store L ks) {i : Nat} (hi : i < ks.length) (b : Ask) (v : UInt8) (hb : b ≠ (false, false)) : met (askTurn b v) (sdP L ks i) = ((!b.1 || onF (turnB 76 v) (sdP L ks i)) && (!b.2 || onF (turnB 82 v) (sdP L ks i))) := by
  have hB := both_is hS i hi
  rw [turnB_L, turnB_R]
  unfold askTurn
  by_cases h43 : v = 43
  · rw [if_pos h43, if_pos h43, if_pos h43]; rfl
  · rw [if_neg h43, if_neg h43, if_neg h43]
    by_cases h45 : v = 45
    · rw [if_pos h45, if_pos h45, if_pos h45]
      show ((!b.2 || (sdP L ks i).1) && (!b.1 || (sdP L ks i).2.1)) = ((!b.1 || (sdP L ks i).2.1) && (!b.2 || (sdP L ks i).1))
      exact Bool.and_comm _ _
    · rw [if_neg h45, if_neg h45, if_neg h45]
      show ((sdP L ks i).1 && (sdP L ks i).2.1) = ((!b.1 || (sdP L ks i).2.2) && (!b.2 || (sdP L ks i).2.2))
      rw [hB]
      obtain ⟨b1, b2⟩ := b
      cases b1 <;> cases b2
      · exact absurd rfl hb
      all_goals simp
/-- the parts' sides, from a part on -/
def metS (L : List Sig) (ks : List (List Int)) (t : Tm) (b : Ask) : Nat → List Int → Bool
  | _, [] => true
  | k, x :: l => met (askTurn b (varyT L t k)) (sdP L ks x.toNat) && metS L ks t b (k + 1) l
theorem metS_at {t : Tm} {b : Ask} (l : List Int) (k : Nat) (h : k < l.length) : metS L ks t b k (l.drop k) = (met (askTurn b (varyT L t k)) (sdP L ks l[k].toNat) && metS L ks t b (k + 1) (l.drop (k + 1))) := by
  rw [List.drop_eq_getElem_cons h]; rfl
theorem metS_end {t : Tm} {b : Ask} (l : List Int) (k : Nat) (h : l.length ≤ k) : metS L ks t b k (l.drop k) = true := by
  rw [List.drop_of_length_le h]; rfl
theorem metS_is (hS : Store L ks) {t : Tm} {b : Ask} (hb : b ≠ (false, false)) : ∀ (k : Nat) (l : List Int), (∀ x ∈ l, 0 ≤ x ∧ x < (ks.length : Int)) → metS L ks t b k l = ((!b.1 || allS L t (fun a => sdP L ks a.toNat) 76 k l) && (!b.2 || allS L t (fun a => sdP L ks a.toNat) 82 k l))
  | k, [], _ => by unfold metS allS; simp
  | k, x :: l, h => by
    obtain ⟨p, q⟩ := h x (by simp)
    unfold metS allS
    rw [metS_is hS hb (k + 1) l fun y hy => h y (by simp [hy]), met_turn hS (by omega) b _ hb]
    obtain ⟨b1, b2⟩ := b
    cases b1 <;> cases b2 <;> simp [Bool.and_assoc, Bool.and_left_comm]
theorem met_own (hS : Store L ks) {i : Nat} (hi : i < ks.length) {b : Ask} (hb : b ≠ (false, false)) : met b (sdP L ks i) = (mayAsk (tmP ks i).k b && metS L ks (tmP ks i) b 0 (tmP ks i).xs) := by
  have hp := (parts_ahead hS (List.getElem?_eq_getElem hi)).2.2
  rw [← tmP_is hi] at hp
  rw [metS_is hS hb 0 _ fun x hx => by obtain ⟨p, q⟩ := hp x hx; omega, sdP_eq hS hi]
  unfold met own3 may3 mayAsk
  obtain ⟨b1, b2⟩ := b
  by_cases k4 : (tmP ks i).k = 4
  · have n5 : ¬ (tmP ks i).k = 5 := by omega
    have n6 : ¬ (tmP ks i).k = 6 := by omega
    cases b1 <;> cases b2 <;> simp_all
  · by_cases k5 : (tmP ks i).k = 5
    · have n6 : ¬ (tmP ks i).k = 6 := by omega
      cases b1 <;> cases b2 <;> simp_all
    · by_cases k6 : (tmP ks i).k = 6
      · cases b1 <;> cases b2 <;> simp_all
      · cases b1 <;> cases b2 <;> simp_all
/-- all that is asked for up to a place -/
def allMet (L : List Sig) (ks : List (List Int)) (S : List Ask) (m : Nat) : Bool := (List.range m).all fun j => met (S[j]?.getD (false, false)) (sdP L ks j)
theorem allMet_succ (S : List Ask) (m : Nat) : allMet L ks S (m + 1) = (allMet L ks S m && met (S[m]?.getD (false, false)) (sdP L ks m)) := by
  unfold allMet
  rw [List.range_succ, List.all_append]
  simp
theorem allMet_iff (S : List Ask) (m : Nat) : allMet L ks S m = true ↔ ∀ j, j < m → met (S[j]?.getD (false, false)) (sdP L ks j) = true := by
  unfold allMet
  rw [List.all_eq_true]
  simp only [List.mem_range]
theorem allMet_set {S : List Ask} {m x : Nat} {b : Ask} (c : Ask) (hx : x < m) (hb : S[x]? = some b) : allMet L ks (S.set x (askOr b c)) m = (allMet L ks S m && met c (sdP L ks x)) := by
  have hl := (List.getElem?_eq_some_iff.1 hb).1
  have get : ∀ j, (S.set x (askOr b c))[j]?.getD (false, false) = if j = x then askOr b c else S[j]?.getD (false, false) := fun j => by
    rw [List.getElem?_set]
    by_cases e : x = j
    · subst e; simp [hl]
    · rw [if_neg e, if_neg (fun h => e h.symm)]
  rw [Bool.eq_iff_iff, Bool.and_eq_true, allMet_iff, allMet_iff]
  constructor
  · intro h
    have h0 := h x hx
    rw [get, if_pos rfl, met_or, Bool.and_eq_true] at h0
    refine ⟨fun j hj => ?_, h0.2⟩
    by_cases e : j = x
    · subst e; rw [hb]; exact h0.1
    · have h1 := h j hj
      rwa [get, if_neg e] at h1
  · rintro ⟨h1, h2⟩ j hj
    rw [get]
    by_cases e : j = x
    · subst e
      rw [if_pos rfl, met_or, Bool.and_eq_true]
      have h3 := h1 j hj
      rw [hb] at h3
      exact ⟨h3, h2⟩
    · rw [if_neg e]; exact h1 j hj
/-- at the beginning one place is asked for -/
theorem allMet_first {n : Nat} (b : Ask) : allMet L ks ((List.replicate (n + 1) (false, false)).set n b) (n + 1) = met b (sdP L ks n) := by
  rw [Bool.eq_iff_iff, allMet_iff]
  have get : ∀ j, j < n + 1 → ((List.replicate (n + 1) ((false, false) : Ask)).set n b)[j]?.getD (false, false) = if j = n then b else (false, false) := fun j hj => by
    rw [List.getElem?_set]
    by_cases e : n = j
    · subst e; simp
    · rw [if_neg e, if_neg (fun h => e h.symm), List.getElem?_replicate, if_pos hj]; rfl
  constructor
  · intro h
    have := h n (by omega)
    rwa [get n (by omega), if_pos rfl] at this
  · intro h j hj
    rw [get j hj]
    by_cases e : j = n
    · subst e; rwa [if_pos rfl]
    · rw [if_neg e]; rfl

structure LvI (L : List Sig) (ks : List (List Int)) (p : PI) (C : List PI) (T : PI → Prop) (at' cl : List PI) : Prop where
  head : p ∈ C
  nd : C.Nodup
  reach : ∀ z ∈ C, Reach L ks p z
  sub : ∀ z, T z → z ∈ C
  done : ∀ z ∈ C, ¬ T z → ∀ u ∈ (stepF L ks z.1 z.2).2, u ∈ C
  na : at'.Nodup
  ma : ∀ z, z ∈ at' ↔ (z ∈ C ∧ ¬ T z) ∧ (stepF L ks z.1 z.2).1 = 2
  nc : cl.Nodup
  mc : ∀ z, z ∈ cl ↔ (z ∈ C ∧ ¬ T z) ∧ (stepF L ks z.1 z.2).1 = 3
theorem LvI.congr {p : PI} {C : List PI} {T T' : PI → Prop} {a c : List PI} (h : LvI L ks p C T a c) (e : ∀ z, T' z ↔ T z) : LvI L ks p C T' a c := by
  have : T' = T := funext fun z => propext (e z)
  rw [this]; exact h
theorem LvI.init (p : PI) : LvI L ks p [p] (fun z => z = p) [] [] :=
  ⟨by simp, by simp, fun z hz => by rw [List.mem_singleton] at hz; subst hz; exact .self, fun z hz => by simp [hz], fun z hz hn => absurd (by simpa using hz) hn, by simp, fun z => ⟨fun h => (by cases h), fun h => absurd (by simpa using h.1.1) h.1.2⟩, by simp, fun z => ⟨fun h => (by cases h), fun h => absurd (by simpa using h.1.1) h.1.2⟩⟩
theorem LvI.next {p : PI} {C : List PI} {T : PI → Prop} {at' cl : List PI} (h : LvI L ks p C T at' cl) {z : PI} (hz : T z) :
    LvI L ks p (addF C (stepF L ks z.1 z.2).2) (fun u => (T u ∧ u ≠ z) ∨ (u ∈ addF C (stepF L ks z.1 z.2).2 ∧ u ∉ C)) (if (stepF L ks z.1 z.2).1 = 2 then at' ++ [z] else at') (if (stepF L ks z.1 z.2).1 = 3 then cl ++ [z] else cl) := by
  have hzC := h.sub z hz
  have key : ∀ u, (u ∈ addF C (stepF L ks z.1 z.2).2 ∧ ¬ ((T u ∧ u ≠ z) ∨ (u ∈ addF C (stepF L ks z.1 z.2).2 ∧ u ∉ C))) ↔ (u ∈ C ∧ ¬ T u) ∨ u = z := fun u => by
    constructor
    · rintro ⟨h1, h2⟩
      by_cases e : u = z
      · exact .inr e
      · by_cases hC : u ∈ C
        · exact .inl ⟨hC, fun hT => h2 (.inl ⟨hT, e⟩)⟩
        · exact absurd (.inr ⟨h1, hC⟩) h2
    · rintro (⟨h1, h2⟩ | rfl)
      · refine ⟨addF_mem.2 (.inl h1), ?_⟩
        rintro (⟨h3, _⟩ | ⟨_, h3⟩)
        · exact h2 h3
        · exact h3 h1
      · refine ⟨addF_mem.2 (.inl hzC), ?_⟩
        rintro (⟨_, h3⟩ | ⟨_, h3⟩)
        · exact h3 rfl
        · exact h3 hzC
  have hstep : ∀ (kd : Int) (R : List PI), R.Nodup → (∀ u, u ∈ R ↔ (u ∈ C ∧ ¬ T u) ∧ (stepF L ks u.1 u.2).1 = kd) →
      (if (stepF L ks z.1 z.2).1 = kd then R ++ [z] else R).Nodup ∧ ∀ u, u ∈ (if (stepF L ks z.1 z.2).1 = kd then R ++ [z] else R) ↔ (u ∈ addF C (stepF L ks z.1 z.2).2 ∧ ¬ ((T u ∧ u ≠ z) ∨ (u ∈ addF C (stepF L ks z.1 z.2).2 ∧ u ∉ C))) ∧ (stepF L ks u.1 u.2).1 = kd := fun kd R hn hm => by
    have hzR : z ∉ R := fun hh => ((hm z).1 hh).1.2 hz
    split
    · rename_i hk
      refine ⟨?_, fun u => ?_⟩
      · rw [List.nodup_append]
        refine ⟨hn, by simp, fun a ha b hb => ?_⟩
        rw [List.mem_singleton] at hb
        subst hb
        exact fun e => hzR (e ▸ ha)
      · rw [key, List.mem_append, List.mem_singleton, hm]
        constructor
        · rintro (⟨h1, h2⟩ | rfl)
          · exact ⟨.inl h1, h2⟩
          · exact ⟨.inr rfl, hk⟩
        · rintro ⟨h1 | h1, h2⟩
          · exact .inl ⟨h1, h2⟩
          · exact .inr h1
    · rename_i hk
      refine ⟨hn, fun u => ?_⟩
      rw [key, hm]
      constructor
      · rintro ⟨h1, h2⟩; exact ⟨.inl h1, h2⟩
      · rintro ⟨h1 | rfl, h2⟩
        · exact ⟨h1, h2⟩
        · exact absurd h2 hk
  obtain ⟨a1, a2⟩ := hstep 2 at' h.na h.ma
  obtain ⟨c1, c2⟩ := hstep 3 cl h.nc h.mc
  refine ⟨addF_mem.2 (.inl h.head), addF_nodup h.nd, fun u hu => ?_, fun u hu => ?_, fun u hu hn v hv => ?_, a1, a2, c1, c2⟩
  · rcases addF_mem.1 hu with h1 | h1
    · exact h.reach u h1
    · exact (h.reach z hzC).step h1
  · rcases hu with ⟨h1, _⟩ | ⟨h1, _⟩
    · exact addF_mem.2 (.inl (h.sub u h1))
    · exact h1
  · rcases (key u).1 ⟨hu, hn⟩ with ⟨h1, h2⟩ | rfl
    · exact addF_mem.2 (.inl (h.done u h1 h2 v hv))
    · exact addF_mem.2 (.inr hv)
theorem LvI.all {p : PI} {C : List PI} {T : PI → Prop} {a c : List PI} (h : LvI L ks p C T a c) (hT : ∀ z, ¬ T z) : ∀ z, z ∈ C ↔ Reach L ks p z := fun z => by
  constructor
  · exact h.reach z
  · intro hz
    induction hz with
    | self => exact h.head
    | @step q z hq hz ih => exact h.done q ih (hT q) z hz
theorem LvI.len {p : PI} {C : List PI} {T : PI → Prop} {a c : List PI} (hS : Store L ks) (h : LvI L ks p C T a c) : C.length ≤ ks.length * ks.length + 1 := by
  have : C ⊆ p :: grid ks.length := fun z hz => by
    rcases reach_place hS (h.reach z hz) with rfl | h1
    · simp
    · exact List.mem_cons_of_mem _ (grid_mem.2 h1)
  have := h.nd.length_le_of_subset this
  rw [List.length_cons, grid_len] at this
  exact this
theorem LvI.alen {p : PI} {C : List PI} {T : PI → Prop} {a c : List PI} (hS : Store L ks) (h : LvI L ks p C T a c) : a.length ≤ ks.length * ks.length + 1 ∧ c.length ≤ ks.length * ks.length + 1 :=
  ⟨Nat.le_trans (h.na.length_le_of_subset fun z hz => ((h.ma z).1 hz).1.1) (h.len hS), Nat.le_trans (h.nc.length_le_of_subset fun z hz => ((h.mc z).1 hz).1.1) (h.len hS)⟩
/-- a row without a pair twice, sorted, rises -/
theorem sorted_rise {l : List PI} (hn : l.Nodup) (hs : l.Pairwise fun x y => ¬ ltP y x) : l.Pairwise ltP := by
  refine (hn.and hs).imp ?_
  intro a b h
  rcases ltP_tri a b with h1 | h1 | h1
  · exact h1
  · exact absurd h1 h.1
  · exact absurd h1 h.2
theorem LvI.end_ {p : PI} {C : List PI} {T : PI → Prop} {a c A' C' : List PI} (h : LvI L ks p C T a c) (hT : ∀ z, ¬ T z) (pa : A'.Perm a) (sa : A'.Pairwise fun x y => ¬ ltP y x) (pc : C'.Perm c) (sc : C'.Pairwise fun x y => ¬ ltP y x) : A' = kindC L ks 2 p ∧ C' = kindC L ks 3 p := by
  have hall := h.all hT
  refine ⟨kindC_is (by omega) (sorted_rise (pa.nodup_iff.2 h.na) sa) fun z => ?_, kindC_is (by omega) (sorted_rise (pc.nodup_iff.2 h.nc) sc) fun z => ?_⟩
  · rw [pa.mem_iff, h.ma, hall]
    exact ⟨fun hh => ⟨hh.1.1, hh.2⟩, fun hh => ⟨⟨hh.1, hT z⟩, hh.2⟩⟩
  · rw [pc.mem_iff, h.mc, hall]
    exact ⟨fun hh => ⟨hh.1.1, hh.2⟩, fun hh => ⟨⟨hh.1, hT z⟩, hh.2⟩⟩
end
end Go.Proofs.Ytjehccemilefgaa.St

namespace Go.Proofs.Ytjehccemilefgaa.Ex
open Go.RowKit Kit Go.Proofs.Ytjehccemilefgaa.Nm Rw

end Go.Proofs.Ytjehccemilefgaa.Ex

namespace Go.Proofs.Ytjehccemilefgaa.Ex
open Go.RowKit Kit Rw
open Go.Proofs.Ytjehccemilefgaa.Sg (Sig findI Row refFind_any)
end Go.Proofs.Ytjehccemilefgaa.Ex

namespace Go.Proofs.Ytjehccemilefgaa.Ex
open Go.RowKit Kit Rw
open Go.Proofs.Ytjehccemilefgaa.Sg (Sig findI Row refFind_any)
theorem byte_is (v : UInt8) (k : Nat) (hk : k < 256) : ((v.toNat : Int) == (k : Int)) = decide (v = UInt8.ofNat k) := by
  rw [Bool.eq_iff_iff]
  simp only [beq_iff_eq, decide_eq_true_eq]
  constructor
  · intro h
    apply UInt8.toNat.inj
    rw [UInt8.toNat_ofNat']
    omega
  · rintro rfl
    rw [UInt8.toNat_ofNat']
    omega
end Go.Proofs.Ytjehccemilefgaa.Ex

namespace Go.Proofs.Ytjehccemilefgaa.St
open Go.RowKit Kit Rw

def cellsQ : List PI → List Value
  | [] => []
  | t :: l => .int .i64 t.1 :: .int .i64 t.2 :: cellsQ l
theorem cellsQ_len (l : List PI) : (cellsQ l).length = l.length * 2 := by
  induction l with
  | nil => rfl
  | cons s l ih => simp [cellsQ, ih]; omega
theorem cellsQ_append (a b : List PI) : cellsQ (a ++ b) = cellsQ a ++ cellsQ b := by
  induction a with
  | nil => rfl
  | cons s l ih => simp [cellsQ, ih]
theorem cellsQ_one (l : List PI) : ∀ v ∈ cellsQ l, v.oneCell' = true := by
  induction l with
  | nil => simp [cellsQ]
  | cons s l ih => simp only [cellsQ, List.mem_cons]; rintro v (rfl | rfl | h); exact rfl; exact rfl; exact ih v h
theorem cellsQ_0 (l : List PI) (i : Nat) : (cellsQ l)[i * 2]? = l[i]?.map fun s => Value.int .i64 s.1 := by
  induction l generalizing i with
  | nil => simp [cellsQ]
  | cons s l ih =>
    cases i with
    | zero => rfl
    | succ i => rw [show (i + 1) * 2 = i * 2 + 1 + 1 by omega]; simpa [cellsQ] using ih i
theorem cellsQ_1 (l : List PI) (i : Nat) : (cellsQ l)[i * 2 + 1]? = l[i]?.map fun s => Value.int .i64 s.2 := by
  induction l generalizing i with
  | nil => simp [cellsQ]
  | cons s l ih =>
    cases i with
    | zero => rfl
    | succ i => rw [show (i + 1) * 2 + 1 = i * 2 + 1 + 1 + 1 by omega]; simpa [cellsQ] using ih i
theorem pair_at {w : World} {B : Nat} {A : Option Addr} {l : List PI} (h : Rds w B A (cellsQ l)) {k : Nat} (hk : k < l.length) :
    ∃ ad, A = some ad ∧ ad.block < B ∧ w.cell? (ad.add (k * 2)) = some (.int .i64 l[k].1) ∧ w.cell? ⟨(ad.add (k * 2)).block, (ad.add (k * 2)).off + 1, none⟩ = some (.int .i64 l[k].2) := by
  obtain ⟨ad, e, hlt, hc⟩ := h (by rw [cellsQ_len]; omega)
  refine ⟨ad, e, hlt, hc _ _ (by rw [cellsQ_0, List.getElem?_eq_getElem hk]; rfl), ?_⟩
  rw [← add_succ]
  exact hc _ _ (by rw [cellsQ_1, List.getElem?_eq_getElem hk]; rfl)
theorem pairInfo : (Try.prog.info? 46).map (fun i => (i.zero, i.size, i.bytes)) = some (some (.agg #[.int .i64 0, .int .i64 0]), 2, 16) := by kernel_rfl
theorem byte_ne (v : UInt8) (k : Nat) (hk : k < 256) : ((v.toNat : Int) != (k : Int)) = decide (v ≠ UInt8.ofNat k) := by
  have := Ex.byte_is v k hk
  rw [bne, this]
  by_cases h : v = UInt8.ofNat k <;> simp [h]

/-- a row of a call's own, a few pairs more -/
def RowQ (base : Nat) (l : List PI) (w : World) (e : Ending) (w' : World) : Prop := ∃ v, e = .returned v ∧ w'.ownsRow base 46 2 v l.length (cellsQ l) ∧ Below base w w'
set_option maxRecDepth 100000 in
set_option maxHeartbeats 2000000 in
theorem refPairs_any (base : Nat) (o : List PI) (u : Value) (p q : Int) (v : UInt8) (w : World) (ho : w.ownsRow base 46 2 u o.length (cellsQ o)) (hb : base ≤ w.heap.size) (hl : o.length ≤ 1000000) :
    Calls Try.prog 30 #[u, .int .i64 p, .int .i64 q, .int .u8 (v.toNat : Int)] w (RowQ base (o ++ pairsF p q v) w) := by
  obtain ⟨i0, hi, hz0, hz1, hz2⟩ := info_parts pairInfo
  have Hi := Lib.hid hi
  have Hz0 := Lib.hid hz0
  have Hz1 := Lib.hid hz1
  have Hz2 := Lib.hid hz2
  clear hi hz0 hz1 hz2
  have e45 : ((v.toNat : Int) != 45) = decide (v ≠ 45) := byte_ne v 45 (by decide)
  have e43 : ((v.toNat : Int) != 43) = decide (v ≠ 43) := byte_ne v 43 (by decide)
  have HO := Lib.hid ho
  have HP : Hid (pairsF p q v = (if v ≠ 45 then [(p, q)] else []) ++ (if v ≠ 43 then [(q, p)] else [])) := rfl
  clear ho
  have HO1 := Lib.hid (row_kept HO.out ((Q.refl w).alloc (Obj.cells #[.int .i64 p, .int .i64 q] 46)) (Nat.le_refl _))
  have HQ1 := Lib.hid ((Q.refl w).alloc (Obj.cells #[.int .i64 p, .int .i64 q] 46))
  have HS1 := Lib.hid (src_alloc w [.int .i64 p, .int .i64 q] 46 (0, 0))
  have HB1 : Hid (Below base w (w.alloc (Obj.cells #[.int .i64 p, .int .i64 q] 46))) := HQ1.out.mono hb
  have hb1 : base ≤ (w.alloc (Obj.cells #[.int .i64 p, .int .i64 q] 46)).heap.size := Nat.le_trans hb HQ1.out.size
  by_cases h45 : v = 45
  · subst h45
    have e45' : (((45 : UInt8).toNat : Int) != 45) = false := by rw [e45]; rfl
    have e43' : (((45 : UInt8).toNat : Int) != 43) = true := by rw [e43]; rfl
    have HR : Hid (pairsF p q 45 = [(q, p)]) := by rw [HP.out]; rfl
    have HO2 := Lib.hid (row_kept HO.out ((Q.refl w).alloc (Obj.cells #[.int .i64 q, .int .i64 p] 46)) (Nat.le_refl _))
    have HQ2 := Lib.hid ((Q.refl w).alloc (Obj.cells #[.int .i64 q, .int .i64 p] 46))
    have HS2 := Lib.hid (src_alloc w [.int .i64 q, .int .i64 p] 46 (0, 0))
    have hb2 : base ≤ (w.alloc (Obj.cells #[.int .i64 q, .int .i64 p] 46)).heap.size := Nat.le_trans hb HQ2.out.size
    clear e45 e43 HP
    generalize ((45 : UInt8).toNat : Int) = vv at *
    go_enter Try.func30, Try.ntmps30
    go_wp2_with (at_builtin; refine wpList_append_src _ rfl (.tmp 19) (.tmp 23) _ rfl base 46 i0 _ 2 16 Try.underlying31 Hi.out Hz0.out Hz1.out Hz2.out rfl (by omega) u o.length (cellsQ o) rfl HO2.out (some ⟨w.heap.size, 0, none⟩) 1 1 [.int .i64 q, .int .i64 p] rfl rfl HS2.out (by simp [Value.oneCell']) (by unfold maxLen; omega) (by omega) hb2 ?_; intro v' w' own' gr' _; have Own := Lib.hid own'; have HQ' : Hid (Below base w w') := Below.grown (HQ2.out.mono hb) gr' hb2 (fun k e => (HO2.out.lt k e).1); clear own' gr')
    go_ret
    exact ⟨v', rfl, by rw [HR.out, List.length_append, cellsQ_append]; exact Own.out, HQ'.out⟩
  · have h45' : decide (v ≠ 45) = true := decide_eq_true h45
    rw [h45'] at e45
    by_cases h43 : v = 43
    · subst h43
      have e43' : (((43 : UInt8).toNat : Int) != 43) = false := by rw [e43]; rfl
      have HR : Hid (pairsF p q 43 = [(p, q)]) := by rw [HP.out]; rfl
      clear e43 HP h45 h45'
      generalize ((43 : UInt8).toNat : Int) = vv at *
      go_enter Try.func30, Try.ntmps30
      go_wp2_with (at_builtin; refine wpList_append_src _ rfl (.tmp 11) (.tmp 15) _ rfl base 46 i0 _ 2 16 Try.underlying31 Hi.out Hz0.out Hz1.out Hz2.out rfl (by omega) u o.length (cellsQ o) rfl HO1.out (some ⟨w.heap.size, 0, none⟩) 1 1 [.int .i64 p, .int .i64 q] rfl rfl HS1.out (by simp [Value.oneCell']) (by unfold maxLen; omega) (by omega) hb1 ?_; intro v' w' own' gr' _; have Own := Lib.hid own'; have HQ' : Hid (Below base w w') := Below.grown HB1.out gr' hb1 (fun k e => (HO1.out.lt k e).1); clear own' gr')
      go_ret
      exact ⟨v', rfl, by rw [HR.out, List.length_append, cellsQ_append]; exact Own.out, HQ'.out⟩
    · have h43' : decide (v ≠ 43) = true := decide_eq_true h43
      rw [h43'] at e43
      have HR : Hid (pairsF p q v = [(p, q)] ++ [(q, p)]) := by rw [HP.out, if_pos h45, if_pos h43]; rfl
      clear HP h45 h45' h43 h43'
      generalize (v.toNat : Int) = vv at *
      go_enter Try.func30, Try.ntmps30
      go_wp2_with (first
        | (at_builtin; refine wpList_append_src _ rfl (.tmp 11) (.tmp 15) _ rfl base 46 i0 _ 2 16 Try.underlying31 Hi.out Hz0.out Hz1.out Hz2.out rfl (by omega) u o.length (cellsQ o) rfl HO1.out (some ⟨w.heap.size, 0, none⟩) 1 1 [.int .i64 p, .int .i64 q] rfl rfl HS1.out (by simp [Value.oneCell']) (by unfold maxLen; omega) (by omega) hb1 ?_; intro v' w' own' gr' _; have HB' : Hid (Below base w w') := Below.grown HB1.out gr' hb1 (fun k e => (HO1.out.lt k e).1); have hb' : base ≤ w'.heap.size := Nat.le_trans hb HB'.out.size; have HO3 := Lib.hid (row_kept own' ((Q.refl w').alloc (Obj.cells #[.int .i64 q, .int .i64 p] 46)) (Nat.le_refl _)); have HB3 : Hid (Below base w (w'.alloc (Obj.cells #[.int .i64 q, .int .i64 p] 46))) := HB'.out.alloc hb' _; have HS3 := Lib.hid (src_alloc w' [.int .i64 q, .int .i64 p] 46 (0, 0)); clear own' gr' HO1 HB1 HS1 HB')
        | (at_builtin; refine wpList_append_src _ rfl (.tmp 19) (.tmp 23) _ rfl base 46 i0 _ 2 16 Try.underlying31 Hi.out Hz0.out Hz1.out Hz2.out rfl (by omega) v' (o.length + 1) (cellsQ o ++ [.int .i64 p, .int .i64 q]) rfl HO3.out (some ⟨w'.heap.size, 0, none⟩) 1 1 [.int .i64 q, .int .i64 p] rfl rfl HS3.out (by simp [Value.oneCell']) (by unfold maxLen; omega) (by omega) (Nat.le_trans hb HB3.out.size) ?_; intro v2 w2 own2 gr2 _; have Own2 := Lib.hid own2; have HB4 : Hid (Below base w w2) := Below.grown HB3.out gr2 (Nat.le_trans hb HB3.out.size) (fun k e => (HO3.out.lt k e).1); clear own2 gr2))
      go_ret
      exact ⟨v2, rfl, by rw [HR.out, ← List.append_assoc, List.length_append, List.length_append, cellsQ_append, cellsQ_append]; exact Own2.out, HB4.out⟩
theorem parts10_any (A : Option Addr) (n c : Nat) (w : World) :
    Calls Try.prog 28 #[.slice A n c] w fun e w' => e = .returned (.agg #[.int .i64 1, .slice A n c]) ∧ Q w w' := by
  go_enter Try.func28, Try.ntmps28
  go_wp2_with fail
  exact bodyPost_ret (v := .agg #[.int .i64 1, .slice A n c]) (by simp [results, Try.f28, go_sem]) rfl ⟨rfl, (Q.refl w).alloc _⟩
end Go.Proofs.Ytjehccemilefgaa.St
