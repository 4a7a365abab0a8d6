/-
  Plain: three that are joined, in whichever order.
-/
import Derived.Test.YtodmompfnlcjpaaUfJ
namespace Go.Proofs.Ytodmompfnlcjpaa.Uf
open Kit Tr

def Le (R : List Int) (x y : Nat) : Prop := x = y ∨ lessB R x y = true
theorem Le.trans {R : List Int} {x y z : Nat} (h : Le R x y) (k : Le R y z) : Le R x z := by
  rcases h with rfl | h
  · exact k
  · rcases k with rfl | k
    · exact .inr h
    · exact .inr (less_trans h k)
theorem Le.anti {R : List Int} {x y : Nat} (h : Le R x y) (k : Le R y x) : x = y := by
  rcases h with e | h
  · exact e
  · rcases k with e | k
    · exact e.symm
    · rw [less_not h] at k; cases k
theorem lo_le (R V : List Int) (a b : Nat) : Le R (lo R V a b) (fst V a) ∧ Le R (lo R V a b) (fst V b) := by
  by_cases e : fst V a = fst V b
  · rw [(lo_hi_same (R := R) e).1]; exact ⟨.inl rfl, .inl e⟩
  · have h := lo_less (R := R) e
    rcases lo_or R V a b with ⟨k1, k2⟩ | ⟨k1, k2⟩
    · rw [k1, k2] at h; rw [k1]; exact ⟨.inl rfl, .inr h⟩
    · rw [k1, k2] at h; rw [k1]; exact ⟨.inr h, .inl rfl⟩
theorem lo_mem (R V : List Int) (a b : Nat) : lo R V a b = fst V a ∨ lo R V a b = fst V b := (lo_or R V a b).imp And.left And.left
theorem joinC_congr {c d : Cells} (R : List Int) (a b : Nat) (h : c.V = d.V) : (joinC R c a b).V = (joinC R d a b).V := by
  rw [joinC_eq, joinC_eq, h]
  by_cases e : fst d.V a = fst d.V b
  · rw [if_pos e, if_pos e]; exact h
  · rw [if_neg e, if_neg e]; show c.V.set _ _ = d.V.set _ _; rw [h]

/-- V' is V with the classes of three joined; m is their first one -/
structure Tri (R V V' : List Int) (p q t m : Nat) : Prop where
  cl : Cl R V'
  len : V'.length = V.length
  mem : m = fst V p ∨ m = fst V q ∨ m = fst V t
  lp : Le R m (fst V p)
  lq : Le R m (fst V q)
  lt : Le R m (fst V t)
  mine : ∀ n, n < V.length → fst V n = fst V p ∨ fst V n = fst V q ∨ fst V n = fst V t → fst V' n = m
  other : ∀ n, n < V.length → ¬ (fst V n = fst V p ∨ fst V n = fst V q ∨ fst V n = fst V t) → fst V' n = fst V n ∧ fst V n ≠ m
theorem tri {R : List Int} {c : Cells} {p q t : Nat} (h : Cl R c.V) (hp : p < c.V.length) (hq : q < c.V.length) (ht : t < c.V.length) :
    ∃ m, Tri R c.V (joinC R (joinC R c p q) q t).V p q t m := by
  have J := joined (R := R) h hp hq
  have hq1 : q < (joinC R c p q).V.length := by rw [J.len]; exact hq
  have ht1 : t < (joinC R c p q).V.length := by rw [J.len]; exact ht
  have K := joined (R := R) J.cl hq1 ht1
  obtain ⟨fp, fq⟩ := J.a_b hp hq
  have same : ∀ n, n < c.V.length → fst c.V n = fst c.V t → fst (joinC R c p q).V n = fst (joinC R c p q).V t := fun n hn e => by rw [J.fst n hn, J.fst t ht, e]
  have ft : fst (joinC R c p q).V t = lo R c.V p q ∨ fst (joinC R c p q).V t = fst c.V t := by
    rw [J.fst t ht]
    by_cases e : fst c.V t = hi R c.V p q
    · rw [if_pos e]; exact .inl rfl
    · rw [if_neg e]; exact .inr rfl
  have lt1 : Le R (fst (joinC R c p q).V t) (fst c.V t) := by
    by_cases e : fst c.V t = fst c.V p ∨ fst c.V t = fst c.V q
    · rw [J.mine ht e]
      rcases e with e | e
      · rw [e]; exact (lo_le R c.V p q).1
      · rw [e]; exact (lo_le R c.V p q).2
    · exact .inl (J.other ht e).1
  have l2 := lo_le R (joinC R c p q).V q t
  rw [fq] at l2
  refine ⟨lo R (joinC R c p q).V q t, K.cl, K.len.trans J.len, ?_, l2.1.trans (lo_le R c.V p q).1, l2.1.trans (lo_le R c.V p q).2, l2.2.trans lt1, ?_, ?_⟩
  · rcases lo_mem R (joinC R c p q).V q t with e | e
    · rw [e, fq]
      rcases lo_mem R c.V p q with k | k
      · exact .inl k
      · exact .inr (.inl k)
    · rw [e]
      rcases ft with k | k
      · rw [k]
        rcases lo_mem R c.V p q with k | k
        · exact .inl k
        · exact .inr (.inl k)
      · exact .inr (.inr k)
  · intro n hn hm
    have hn1 : n < (joinC R c p q).V.length := by rw [J.len]; exact hn
    refine K.mine hn1 ?_
    rcases hm with e | e | e
    · exact .inl (by rw [fq]; exact J.mine hn (.inl e))
    · exact .inl (by rw [fq]; exact J.mine hn (.inr e))
    · exact .inr (same n hn e)
  · intro n hn hm
    have hn1 : n < (joinC R c p q).V.length := by rw [J.len]; exact hn
    obtain ⟨o1, o2⟩ := J.other hn (fun k => hm (k.elim .inl (fun e => .inr (.inl e))))
    have hne : ¬ (fst (joinC R c p q).V n = fst (joinC R c p q).V q ∨ fst (joinC R c p q).V n = fst (joinC R c p q).V t) := by
      rw [o1, fq]
      rintro (e | e)
      · exact o2 e
      · rcases ft with k | k
        · exact o2 (e.trans k)
        · exact hm (.inr (.inr (e.trans k)))
    obtain ⟨u1, u2⟩ := K.other hn1 hne
    rw [o1] at u1 u2
    exact ⟨u1, u2⟩
/-- of three that are joined all are one, in whichever order -/
theorem three_ways {R : List Int} {c : Cells} {a b t : Nat} (h : Cl R c.V) (ha : a < c.V.length) (hb : b < c.V.length) (ht : t < c.V.length) :
    Cl R (joinC R (joinC R c a b) b t).V ∧ Cl R (joinC R (joinC R c t a) b t).V ∧ (joinC R (joinC R c a b) b t).V.length = c.V.length ∧ (joinC R (joinC R c t a) b t).V.length = c.V.length ∧
      fst (joinC R (joinC R c a b) b t).V a = fst (joinC R (joinC R c a b) b t).V t ∧ fst (joinC R (joinC R c a b) b t).V a = fst (joinC R (joinC R c t a) b t).V a ∧
      classL (joinC R (joinC R c a b) b t).V b = classL (joinC R (joinC R c t a) b t).V b := by
  obtain ⟨m, X⟩ := tri (R := R) h ha hb ht
  obtain ⟨m', Y⟩ := tri (R := R) h ha ht hb
  have eY : (joinC R (joinC R c t a) b t).V = (joinC R (joinC R c a t) t b).V := by
    rw [joinC_V]
    exact joinC_congr R t b (joinC_V R c t a)
  rw [eY]
  have hm : m = m' := by
    refine Le.anti ?_ ?_ (R := R)
    · rcases Y.mem with e | e | e
      · rw [e]; exact X.lp
      · rw [e]; exact X.lt
      · rw [e]; exact X.lq
    · rcases X.mem with e | e | e
      · rw [e]; exact Y.lp
      · rw [e]; exact Y.lt
      · rw [e]; exact Y.lq
  subst hm
  refine ⟨X.cl, Y.cl, X.len, Y.len, by rw [X.mine a ha (.inl rfl), X.mine t ht (.inr (.inr rfl))], by rw [X.mine a ha (.inl rfl), Y.mine a ha (.inl rfl)], ?_⟩
  unfold classL
  rw [X.len, Y.len]
  refine those_congr fun n hn => ?_
  rw [X.mine b hb (.inr (.inl rfl)), Y.mine b hb (.inr (.inr rfl))]
  by_cases k : fst c.V n = fst c.V a ∨ fst c.V n = fst c.V b ∨ fst c.V n = fst c.V t
  · rw [X.mine n hn k, Y.mine n hn (k.elim .inl (fun k => .inr k.symm))]
  · have k' : ¬ (fst c.V n = fst c.V a ∨ fst c.V n = fst c.V t ∨ fst c.V n = fst c.V b) := fun e => k (e.elim .inl (fun e => .inr e.symm))
    rw [(X.other n hn k).1, (Y.other n hn k').1]
end Go.Proofs.Ytodmompfnlcjpaa.Uf
