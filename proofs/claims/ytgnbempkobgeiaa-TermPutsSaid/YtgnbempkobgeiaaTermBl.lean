/-
  Plain facts: what belowL is: of all that the term is made of, rising.
-/
import Derived.Test.YtgnbempkobgeiaaTermOf
namespace Go.Proofs.Ytgnbempkobgeiaa.Tm
open Go.RowKit Kit Hs

inductive Made (ks : List (List Int)) (id : Nat) : Nat → Prop
  | self : Made ks id id
  | part {y x : Nat} : Made ks id y → (x : Int) ∈ argsOf ks y → x < y → Made ks id x
theorem Made.le {ks : List (List Int)} {id x : Nat} (h : Made ks id x) : x ≤ id := by
  induction h with
  | self => exact Nat.le_refl _
  | part _ _ hlt ih => omega
theorem Made.trans {ks : List (List Int)} {id y x : Nat} (h : Made ks id y) (k : Made ks y x) : Made ks id x := by
  induction k with
  | self => exact h
  | part _ hm hlt ih => exact .part ih hm hlt
/-- what a term is made of: it, and what its parts are made of -/
theorem made_iff {ks : List (List Int)} {id x : Nat} : Made ks id x ↔ x = id ∨ ∃ y : Nat, (y : Int) ∈ argsOf ks id ∧ y < id ∧ Made ks y x := by
  constructor
  · intro h
    induction h with
    | self => exact .inl rfl
    | part hy hm hlt ih =>
      rcases ih with rfl | ⟨y', h1, h2, h3⟩
      · exact .inr ⟨_, hm, hlt, .self⟩
      · exact .inr ⟨y', h1, h2, .part h3 hm hlt⟩
  · rintro (rfl | ⟨y, h1, h2, h3⟩)
    · exact .self
    · exact Made.trans (.part .self h1 h2) h3

def getB (mk : List Bool) (x : Nat) : Bool := mk[x]?.getD false
theorem getB_set {mk : List Bool} {s x : Nat} (hs : s < mk.length) : getB (mk.set s true) x = true ↔ x = s ∨ getB mk x = true := by
  unfold getB
  by_cases h : s = x
  · subst h
    rw [List.getElem?_set_self hs]
    simp
  · rw [List.getElem?_set_ne h]
    constructor
    · exact .inr
    · rintro (e | e)
      · exact absurd e.symm h
      · exact e
theorem markAll_get (a : Nat) : ∀ (xs : List Int) (mk : List Bool) (x : Nat), a ≤ mk.length → (getB (markAll a xs mk) x = true ↔ getB mk x = true ∨ ((x : Int) ∈ xs ∧ x < a))
  | [], mk, x, _ => by simp [markAll]
  | y :: r, mk, x, ha => by
    rw [markAll]
    cases hp : isPl y a
    · rw [if_neg (by simp), markAll_get a r mk x ha]
      have hno := isPl_no hp
      constructor
      · rintro (h | ⟨h1, h2⟩)
        · exact .inl h
        · exact .inr ⟨List.mem_cons_of_mem _ h1, h2⟩
      · rintro (h | ⟨h1, h2⟩)
        · exact .inl h
        · rcases List.mem_cons.1 h1 with rfl | h1
          · exact absurd ⟨by omega, by omega⟩ hno
          · exact .inr ⟨h1, h2⟩
    · obtain ⟨h0, h1⟩ := (isPl_iff _ _).1 hp
      rw [if_pos rfl, markAll_get a r _ x (by rw [List.length_set]; exact ha), getB_set (by omega)]
      constructor
      · rintro ((h | h) | ⟨h2, h3⟩)
        · exact .inr ⟨by rw [h, Int.toNat_of_nonneg h0]; exact List.mem_cons_self .., by omega⟩
        · exact .inl h
        · exact .inr ⟨List.mem_cons_of_mem _ h2, h3⟩
      · rintro (h | ⟨h2, h3⟩)
        · exact .inl (.inr h)
        · rcases List.mem_cons.1 h2 with h2 | h2
          · exact .inl (.inl (by omega))
          · exact .inr ⟨h2, h3⟩
theorem markAll_far (a : Nat) (xs : List Int) (mk : List Bool) (x : Nat) (ha : a ≤ mk.length) (hx : a ≤ x) : getB (markAll a xs mk) x = getB mk x := by
  rw [Bool.eq_iff_iff, markAll_get a xs mk x ha]
  constructor
  · rintro (h | ⟨_, h⟩)
    · exact h
    · omega
  · exact .inl

def castL (l : List Nat) : List Int := l.map fun (n : Nat) => (n : Int)
def upOut (mk : List Bool) (id n : Nat) : List Int := (castL ((List.range' n (id + 1 - n)).filter (getB mk))).reverse
theorem upOut_yes {mk mk' : List Bool} {id n : Nat} (hn : n ≤ id) (h : getB mk' n = true) (hf : ∀ y, n + 1 ≤ y → getB mk' y = getB mk y) : upOut mk' id n = upOut mk id (n + 1) ++ [(n : Int)] := by
  unfold upOut
  have e : List.range' n (id + 1 - n) = n :: List.range' (n + 1) (id + 1 - (n + 1)) := by
    rw [show id + 1 - n = (id + 1 - (n + 1)) + 1 by omega, List.range'_succ]
  have ef : (List.range' (n + 1) (id + 1 - (n + 1))).filter (getB mk') = (List.range' (n + 1) (id + 1 - (n + 1))).filter (getB mk) := by
    refine List.filter_congr fun y hy => ?_
    have := List.mem_range'_1.1 hy
    exact hf y this.1
  rw [e, List.filter_cons_of_pos h, ef]
  simp [castL]
theorem upOut_no {mk : List Bool} {id n : Nat} (hn : n ≤ id) (h : getB mk n = false) : upOut mk id n = upOut mk id (n + 1) := by
  unfold upOut
  have e : List.range' n (id + 1 - n) = n :: List.range' (n + 1) (id + 1 - (n + 1)) := by
    rw [show id + 1 - n = (id + 1 - (n + 1)) + 1 by omega, List.range'_succ]
  rw [e, List.filter_cons_of_neg (by rw [h]; simp)]

structure MInv (ks : List (List Int)) (id n : Nat) (mk : List Bool) : Prop where
  len : mk.length = id + 1
  sound : ∀ x, getB mk x = true → Made ks id x
  closed : ∀ y, n ≤ y → y ≤ id → getB mk y = true → ∀ x : Nat, (x : Int) ∈ argsOf ks y → x < y → getB mk x = true
  top : getB mk id = true
def IsBelow (ks : List (List Int)) (id : Nat) (out : List Int) : Prop := ∃ f : Nat → Bool, (∀ y, f y = true ↔ Made ks id y) ∧ out = castL ((List.range (id + 1)).filter f)
theorem belF_spec {ks : List (List Int)} {id : Nat} : ∀ (n : Nat) (mk : List Bool) (out : List Int), n ≤ id + 1 → MInv ks id n mk → out = upOut mk id n → IsBelow ks id (belF ks n mk out).reverse
  | 0, mk, out, _, h, ho => by
    refine ⟨getB mk, fun y => ⟨h.sound y, fun hm => ?_⟩, ?_⟩
    · induction hm with
      | self => exact h.top
      | part hy hm hlt ih => exact h.closed _ (Nat.zero_le _) hy.le ih _ hm hlt
    · rw [belF, ho]
      unfold upOut
      rw [List.reverse_reverse, Nat.sub_zero, List.range_eq_range']
  | n + 1, mk, out, hn, h, ho => by
    have hnl : n < mk.length := by have := h.len; omega
    have hge := List.getElem?_eq_getElem hnl
    cases hb : mk[n]
    · rw [hb] at hge
      have hg : getB mk n = false := by unfold getB; rw [hge]; rfl
      rw [belF_no hge]
      refine belF_spec n mk out (by omega) ⟨h.len, h.sound, fun y hy hyi hm => ?_, h.top⟩ (by rw [ho, upOut_no (by omega) hg])
      rcases Nat.eq_or_lt_of_le hy with rfl | hlt
      · rw [hg] at hm; cases hm
      · exact h.closed y hlt hyi hm
    · rw [hb] at hge
      have hg : getB mk n = true := by unfold getB; rw [hge]; rfl
      rw [belF_yes hge]
      have hle : n ≤ mk.length := by omega
      have hfar : ∀ y, n ≤ y → getB (markAll n (argsOf ks n) mk) y = getB mk y := fun y hy => markAll_far n _ mk y hle hy
      refine belF_spec n _ _ (by omega) ⟨by rw [markAll_length]; exact h.len, fun x hx => ?_, fun y hy hyi hm x hx hxy => ?_, by rw [hfar id (by omega)]; exact h.top⟩ ?_
      · rcases (markAll_get n _ mk x hle).1 hx with h1 | ⟨h1, h2⟩
        · exact h.sound x h1
        · exact .part (h.sound n hg) h1 h2
      · rcases Nat.eq_or_lt_of_le hy with rfl | hlt
        · exact (markAll_get n _ mk x hle).2 (.inr ⟨hx, hxy⟩)
        · rw [hfar y (by omega)] at hm
          exact (markAll_get n _ mk x hle).2 (.inl (h.closed y hlt hyi hm x hx hxy))
      · rw [ho, upOut_yes (mk := mk) (by omega) (by rw [hfar n (Nat.le_refl _)]; exact hg) (fun y hy => hfar y (by omega))]
theorem below_is (ks : List (List Int)) (id : Nat) : IsBelow ks id (belowL ks id) := by
  unfold belowL
  have hg : ∀ x, getB ((List.replicate (id + 1) false).set id true) x = true ↔ x = id := fun x => by
    rw [getB_set (by simp)]
    constructor
    · rintro (h | h)
      · exact h
      · unfold getB at h
        rw [List.getElem?_replicate] at h
        split at h <;> cases h
    · exact .inl
  refine belF_spec (id + 1) _ _ (Nat.le_refl _) ⟨by simp, fun x hx => ?_, fun y h1 h2 => by omega, (hg id).2 rfl⟩ ?_
  · obtain rfl := (hg x).1 hx
    exact .self
  · unfold upOut
    rw [Nat.sub_self]
    rfl
theorem castL_mem {l : List Nat} {x : Int} : x ∈ castL l ↔ ∃ n : Nat, n ∈ l ∧ x = (n : Int) := by
  unfold castL
  rw [List.mem_map]
  constructor
  · rintro ⟨n, h, rfl⟩; exact ⟨n, h, rfl⟩
  · rintro ⟨n, h, rfl⟩; exact ⟨n, h, rfl⟩
theorem IsBelow.mem {ks : List (List Int)} {id : Nat} {out : List Int} (h : IsBelow ks id out) (x : Int) : x ∈ out ↔ ∃ n : Nat, Made ks id n ∧ x = (n : Int) := by
  obtain ⟨f, hf, rfl⟩ := h
  rw [castL_mem]
  constructor
  · rintro ⟨n, h1, h2⟩
    rw [List.mem_filter, hf] at h1
    exact ⟨n, h1.2, h2⟩
  · rintro ⟨n, h1, h2⟩
    refine ⟨n, ?_, h2⟩
    rw [List.mem_filter, hf]
    exact ⟨List.mem_range.2 (by have := h1.le; omega), h1⟩
theorem two_le {l : List Int} {x y : Int} (hx : x ∈ l) (hy : y ∈ l) (h : x ≠ y) : 2 ≤ l.length := by
  match l, hx, hy with
  | [a], hx, hy =>
    rw [List.mem_singleton] at hx hy
    exact absurd (hx.trans hy.symm) h
  | _ :: _ :: _, _, _ => simp
theorem IsBelow.unique {ks : List (List Int)} {id : Nat} {a b : List Int} (h : IsBelow ks id a) (k : IsBelow ks id b) : a = b := by
  obtain ⟨f, hf, rfl⟩ := h
  obtain ⟨g, hg, rfl⟩ := k
  have : f = g := by
    funext y
    rw [Bool.eq_iff_iff, hf, hg]
  rw [this]
end Go.Proofs.Ytgnbempkobgeiaa.Tm
