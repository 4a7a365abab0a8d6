/-
  Plain: what a join and an addition do to classes; cells stay right, and can be taken back.
-/
import Derived.Test.YtodmompfnlcjpaaUfH
import Derived.Test.YtodmompfnlcjpaaTrailP
namespace Go.Proofs.Ytodmompfnlcjpaa.Uf
open Kit Tr

/-- the first one of a joined class, and the one that was first of the other part -/
def lo (R V : List Int) (a b : Nat) : Nat := if lessB R (fst V b) (fst V a) = true then fst V b else fst V a
def hi (R V : List Int) (a b : Nat) : Nat := if lessB R (fst V b) (fst V a) = true then fst V a else fst V b
theorem lo_hi_same {R V : List Int} {a b : Nat} (h : fst V a = fst V b) : lo R V a b = fst V a ∧ hi R V a b = fst V a := by
  unfold lo hi
  rw [h, less_self]
  exact ⟨if_neg (by simp), if_neg (by simp)⟩
theorem lo_comm (R V : List Int) (a b : Nat) : lo R V a b = lo R V b a ∧ hi R V a b = hi R V b a := by
  by_cases h : fst V a = fst V b
  · have x := lo_hi_same (R := R) h
    have y := lo_hi_same (R := R) h.symm
    rw [x.1, x.2, y.1, y.2, h]
    exact ⟨rfl, rfl⟩
  · unfold lo hi
    cases e : lessB R (fst V b) (fst V a) with
    | true => rw [less_not e]; exact ⟨rfl, rfl⟩
    | false => rw [less_flip (a := (fst V b : Int)) (b := (fst V a : Int)) (by omega) e]; exact ⟨rfl, rfl⟩
theorem lo_less {R V : List Int} {a b : Nat} (h : fst V a ≠ fst V b) : lessB R (lo R V a b) (hi R V a b) = true := by
  unfold lo hi
  cases e : lessB R (fst V b) (fst V a) with
  | true => exact e
  | false => exact less_flip (a := (fst V b : Int)) (b := (fst V a : Int)) (by omega) e
theorem lo_or (R V : List Int) (a b : Nat) : lo R V a b = fst V a ∧ hi R V a b = fst V b ∨ lo R V a b = fst V b ∧ hi R V a b = fst V a := by
  unfold lo hi
  cases lessB R (fst V b) (fst V a) with
  | true => exact .inr ⟨rfl, rfl⟩
  | false => exact .inl ⟨rfl, rfl⟩
theorem joinC_eq (R : List Int) (c : Cells) (a b : Nat) : joinC R c a b = if fst c.V a = fst c.V b then c else setC c (hi R c.V a b) (lo R c.V a b : Int) := by
  unfold joinC
  by_cases e : fst c.V a = fst c.V b
  · rw [if_pos e, if_pos e]
  · rw [if_neg e, if_neg e]
    unfold lo hi
    cases lessB R (fst c.V b) (fst c.V a) <;> rfl
structure Joined (R : List Int) (c : Cells) (a b : Nat) : Prop where
  cl : Cl R (joinC R c a b).V
  len : (joinC R c a b).V.length = c.V.length
  fst : ∀ n, n < c.V.length → fst (joinC R c a b).V n = if fst c.V n = hi R c.V a b then lo R c.V a b else fst c.V n
theorem joined {R : List Int} {c : Cells} {a b : Nat} (h : Cl R c.V) (ha : a < c.V.length) (hb : b < c.V.length) : Joined R c a b := by
  obtain ⟨xl, xp, _⟩ := h.fst_in a ha
  obtain ⟨yl, yp, _⟩ := h.fst_in b hb
  by_cases e : fst c.V a = fst c.V b
  · have hj : joinC R c a b = c := by rw [joinC_eq, if_pos e]
    obtain ⟨e1, e2⟩ := lo_hi_same (R := R) e
    refine ⟨by rw [hj]; exact h, by rw [hj], fun n _ => ?_⟩
    rw [hj, e1, e2]
    by_cases k : fst c.V n = fst c.V a
    · rw [if_pos k, k]
    · rw [if_neg k]
  · have hj : joinC R c a b = setC c (hi R c.V a b) (lo R c.V a b : Int) := by rw [joinC_eq, if_neg e]
    have hl := lo_less (R := R) e
    have hL : lo R c.V a b < c.V.length ∧ par c.V (lo R c.V a b) = lo R c.V a b ∧ hi R c.V a b < c.V.length ∧ par c.V (hi R c.V a b) = hi R c.V a b := by
      rcases lo_or R c.V a b with ⟨k1, k2⟩ | ⟨k1, k2⟩
      · rw [k1, k2]; exact ⟨xl, xp, yl, yp⟩
      · rw [k1, k2]; exact ⟨yl, yp, xl, xp⟩
    obtain ⟨c2, f2⟩ := h.join hL.1 hL.2.2.1 hL.2.1 hL.2.2.2 hl
    exact ⟨by rw [hj]; exact c2, by rw [hj]; exact List.length_set, fun n hn => by rw [hj]; exact f2 n hn⟩
theorem joinC_V (R : List Int) (c : Cells) (a b : Nat) : (joinC R c a b).V = (joinC R c b a).V := by
  rw [joinC_eq, joinC_eq, (lo_comm R c.V a b).1, (lo_comm R c.V a b).2]
  by_cases e : fst c.V a = fst c.V b
  · rw [if_pos e, if_pos e.symm]
  · rw [if_neg e, if_neg (fun k => e k.symm)]
theorem hi_in {R : List Int} {c : Cells} {a b : Nat} (h : Cl R c.V) (ha : a < c.V.length) (hb : b < c.V.length) : hi R c.V a b < c.V.length := by
  rcases lo_or R c.V a b with ⟨_, k2⟩ | ⟨_, k2⟩
  · rw [k2]; exact (h.fst_in b hb).1
  · rw [k2]; exact (h.fst_in a ha).1
theorem right_set {c : Cells} {i : Nat} (x : Int) (h : rightB c = true) (hi : i < c.V.length) : rightB (setC c i x) = true := right_snoc (x := ((i : Int), c.V.getD i 0)) h rfl rfl (back1_set x hi)
theorem right_grow {c : Cells} (x : Int) (h : rightB c = true) : rightB (growC c x) = true := right_snoc (x := (-1, 0)) h rfl rfl (back1_grow _ _)
theorem right_join {R : List Int} {c : Cells} {a b : Nat} (hR : rightB c = true) (h : Cl R c.V) (ha : a < c.V.length) (hb : b < c.V.length) : rightB (joinC R c a b) = true := by
  rw [joinC_eq]
  by_cases e : fst c.V a = fst c.V b
  · rw [if_pos e]; exact hR
  · rw [if_neg e]; exact right_set _ hR (hi_in h ha hb)
theorem beh_join {R : List Int} {c d : Cells} {dp a b : Nat} (hB : Beh c d dp) (h : Cl R d.V) (ha : a < d.V.length) (hb : b < d.V.length) : Beh c (joinC R d a b) dp := by
  rw [joinC_eq]
  by_cases e : fst d.V a = fst d.V b
  · rw [if_pos e]; exact hB
  · rw [if_neg e]; exact beh_set _ (hi_in h ha hb) hB
theorem few_join {R : List Int} {c : Cells} {m k : Nat} (a b : Nat) (h : Few c m) (hm : m + 1 ≤ k) : Few (joinC R c a b) k := by
  rw [joinC_eq]
  by_cases e : fst c.V a = fst c.V b
  · rw [if_pos e]; exact few_more h (by omega)
  · rw [if_neg e]; exact few_set _ _ h hm
/-- what a join says of first ones -/
theorem Joined.a_b {R : List Int} {c : Cells} {a b : Nat} (h : Joined R c a b) (ha : a < c.V.length) (hb : b < c.V.length) : Uf.fst (joinC R c a b).V a = lo R c.V a b ∧ Uf.fst (joinC R c a b).V b = lo R c.V a b := by
  rw [h.fst a ha, h.fst b hb]
  rcases lo_or R c.V a b with ⟨k1, k2⟩ | ⟨k1, k2⟩
  · rw [k1, k2, if_pos rfl]
    by_cases e : Uf.fst c.V a = Uf.fst c.V b
    · rw [if_pos e]; exact ⟨rfl, rfl⟩
    · rw [if_neg e]; exact ⟨rfl, rfl⟩
  · rw [k1, k2, if_pos rfl]
    by_cases e : Uf.fst c.V b = Uf.fst c.V a
    · rw [if_pos e]; exact ⟨rfl, rfl⟩
    · rw [if_neg e]; exact ⟨rfl, rfl⟩
theorem Joined.mine {R : List Int} {c : Cells} {a b n : Nat} (h : Joined R c a b) (hn : n < c.V.length) (hm : Uf.fst c.V n = Uf.fst c.V a ∨ Uf.fst c.V n = Uf.fst c.V b) : Uf.fst (joinC R c a b).V n = lo R c.V a b := by
  rw [h.fst n hn]
  rcases lo_or R c.V a b with ⟨k1, k2⟩ | ⟨k1, k2⟩
  · rw [k1, k2]
    by_cases e : Uf.fst c.V n = Uf.fst c.V b
    · rw [if_pos e]
    · rw [if_neg e]; exact hm.resolve_right e
  · rw [k1, k2]
    by_cases e : Uf.fst c.V n = Uf.fst c.V a
    · rw [if_pos e]
    · rw [if_neg e]; exact hm.resolve_left e
theorem Joined.other {R : List Int} {c : Cells} {a b n : Nat} (h : Joined R c a b) (hn : n < c.V.length) (hm : ¬ (Uf.fst c.V n = Uf.fst c.V a ∨ Uf.fst c.V n = Uf.fst c.V b)) : Uf.fst (joinC R c a b).V n = Uf.fst c.V n ∧ Uf.fst c.V n ≠ lo R c.V a b := by
  rw [h.fst n hn]
  rcases lo_or R c.V a b with ⟨k1, k2⟩ | ⟨k1, k2⟩
  · rw [k1, k2, if_neg (fun e => hm (.inr e))]; exact ⟨rfl, fun e => hm (.inl e)⟩
  · rw [k1, k2, if_neg (fun e => hm (.inl e))]; exact ⟨rfl, fun e => hm (.inr e)⟩
end Go.Proofs.Ytodmompfnlcjpaa.Uf
