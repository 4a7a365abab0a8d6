/-
  Plain reckoning of classes: the order by ranks, cells that are classes, first ones, what a join and what a shorter way do to them.
-/
import Derived.Test.YtodmompfnlcjpaaTrailB
namespace Go.Proofs.Ytodmompfnlcjpaa.Uf
open Kit Tr

/-! ### the order -/
def rk (R : List Int) (n : Int) : Int := if 0 ≤ n ∧ n < R.length then R.getD n.toNat 0 else 0
def lessB (R : List Int) (a b : Int) : Bool := if rk R a = rk R b then decide (a < b) else decide (rk R a < rk R b)
theorem less_iff (R : List Int) (a b : Int) : lessB R a b = true ↔ rk R a < rk R b ∨ rk R a = rk R b ∧ a < b := by
  unfold lessB
  by_cases h : rk R a = rk R b
  · rw [if_pos h]; simp [h]
  · rw [if_neg h]; simp [h]
theorem less_self (R : List Int) (a : Int) : lessB R a a = false := by
  cases e : lessB R a a with
  | false => rfl
  | true => have := (less_iff R a a).1 e; omega
theorem less_trans {R : List Int} {a b c : Int} (h : lessB R a b = true) (k : lessB R b c = true) : lessB R a c = true := by
  rw [less_iff] at h k ⊢
  omega
theorem less_flip {R : List Int} {a b : Int} (h : a ≠ b) (k : lessB R a b = false) : lessB R b a = true := by
  have k' : ¬ lessB R a b = true := by rw [k]; simp
  rw [less_iff] at k' ⊢
  omega
theorem less_not {R : List Int} {a b : Int} (h : lessB R a b = true) : lessB R b a = false := by
  cases e : lessB R b a with
  | false => rfl
  | true => have := less_trans h e; rw [less_self] at this; cases this
theorem less_ne {R : List Int} {a b : Int} (h : lessB R a b = true) : a ≠ b := by
  rintro rfl; rw [less_self] at h; cases h

/-- how many of the first L are ahead of n -/
def dep (R : List Int) (n : Nat) : Nat → Nat
  | 0 => 0
  | m + 1 => (if lessB R m n = true then 1 else 0) + dep R n m
theorem dep_le {R : List Int} {a b : Nat} (h : lessB R a b = true) : ∀ L, dep R a L ≤ dep R b L
  | 0 => Nat.le_refl _
  | m + 1 => by
    have := dep_le h m
    unfold dep
    by_cases e : lessB R m a = true
    · rw [if_pos e, if_pos (less_trans e h)]; omega
    · rw [if_neg e]; omega
theorem dep_lt {R : List Int} {a b : Nat} (h : lessB R a b = true) : ∀ {L}, a < L → dep R a L < dep R b L
  | 0, hL => absurd hL (by omega)
  | m + 1, hL => by
    unfold dep
    by_cases e : a = m
    · subst e
      rw [if_neg (by rw [less_self]; simp), if_pos h]
      have := dep_le h a
      omega
    · have := dep_lt h (L := m) (by omega)
      by_cases e : lessB R m a = true
      · rw [if_pos e, if_pos (less_trans e h)]; omega
      · rw [if_neg e]; omega
theorem dep_len (R : List Int) (n : Nat) : ∀ L, dep R n L ≤ L
  | 0 => Nat.le_refl _
  | m + 1 => by
    have := dep_len R n m
    unfold dep
    split <;> omega
theorem dep_in (R : List Int) {n : Nat} : ∀ {L}, n < L → dep R n L < L
  | 0, hL => absurd hL (by omega)
  | m + 1, hL => by
    unfold dep
    by_cases e : n = m
    · subst e
      rw [if_neg (by rw [less_self]; simp)]
      have := dep_len R n n
      omega
    · have := dep_in R (n := n) (L := m) (by omega)
      split <;> omega

/-! ### classes -/
def par (V : List Int) (n : Nat) : Nat := (V.getD n 0).toNat
/-- cells are classes -/
def Cl (R V : List Int) : Prop := ∀ n, n < V.length → ∃ p : Nat, p < V.length ∧ V[n]? = some (p : Int) ∧ (p = n ∨ lessB R p n = true)
theorem par_of {V : List Int} {n p : Nat} (h : V[n]? = some (p : Int)) : par V n = p := by
  unfold par
  rw [List.getD_eq_getElem?_getD, h]; rfl
theorem Cl.parent {R V : List Int} (h : Cl R V) {n : Nat} (hn : n < V.length) : par V n < V.length ∧ V[n]? = some (par V n : Int) ∧ (par V n = n ∨ lessB R (par V n) n = true) := by
  obtain ⟨p, h1, h2, h3⟩ := h n hn
  rw [par_of h2]
  exact ⟨h1, h2, h3⟩
theorem Cl.at {R V : List Int} (h : Cl R V) {n : Nat} (hn : n < V.length) : V[n] = (par V n : Int) := by
  have := (h.parent hn).2.1
  rw [List.getElem?_eq_getElem hn] at this
  injection this
/-- so many steps up -/
def root (V : List Int) : Nat → Nat → Nat
  | 0, n => n
  | k + 1, n => if par V n = n then n else root V k (par V n)
/-- the first one of n -/
def fst (V : List Int) (n : Nat) : Nat := root V V.length n
theorem Cl.ind {R V : List Int} (h : Cl R V) {P : Nat → Prop} (step : ∀ n, n < V.length → (par V n ≠ n → P (par V n)) → P n) : ∀ n, n < V.length → P n := by
  have : ∀ d n, n < V.length → dep R n V.length ≤ d → P n := fun d => by
    induction d with
    | zero =>
      intro n hn hd
      refine step n hn fun hne => ?_
      obtain ⟨h1, _, h3⟩ := h.parent hn
      have := dep_lt (h3.resolve_left hne) h1
      omega
    | succ d ih =>
      intro n hn hd
      refine step n hn fun hne => ?_
      obtain ⟨h1, _, h3⟩ := h.parent hn
      have := dep_lt (h3.resolve_left hne) h1
      exact ih _ h1 (by omega)
  exact fun n hn => this _ n hn (Nat.le_refl _)
theorem root_stay {V : List Int} {n : Nat} (h : par V n = n) : ∀ k, root V k n = n
  | 0 => rfl
  | k + 1 => by unfold root; rw [if_pos h]
theorem Cl.fuel {R V : List Int} (h : Cl R V) : ∀ {k k' n : Nat}, n < V.length → dep R n V.length ≤ k → dep R n V.length ≤ k' → root V k n = root V k' n
  | 0, k', n, hn, h1, _ => by
    have : par V n = n := by
      obtain ⟨p1, _, p3⟩ := h.parent hn
      rcases p3 with e | e
      · exact e
      · have := dep_lt e p1; omega
    rw [root_stay this, root_stay this]
  | k + 1, 0, n, hn, _, h2 => by
    have : par V n = n := by
      obtain ⟨p1, _, p3⟩ := h.parent hn
      rcases p3 with e | e
      · exact e
      · have := dep_lt e p1; omega
    rw [root_stay this, root_stay this]
  | k + 1, k' + 1, n, hn, h1, h2 => by
    unfold root
    by_cases e : par V n = n
    · rw [if_pos e, if_pos e]
    · rw [if_neg e, if_neg e]
      obtain ⟨p1, _, p3⟩ := h.parent hn
      have := dep_lt (p3.resolve_left e) p1
      exact h.fuel p1 (by omega) (by omega)
theorem Cl.fst_eq {R V : List Int} (h : Cl R V) {n : Nat} (hn : n < V.length) : fst V n = if par V n = n then n else fst V (par V n) := by
  unfold fst
  have hd := dep_in R hn
  obtain ⟨k, hk⟩ : ∃ k, V.length = k + 1 := ⟨V.length - 1, by omega⟩
  by_cases e : par V n = n
  · rw [if_pos e, root_stay e]
  · rw [if_neg e]
    obtain ⟨p1, _, p3⟩ := h.parent hn
    have hp := dep_lt (p3.resolve_left e) p1
    have e2 : root V V.length n = root V k (par V n) := by rw [hk]; show (if par V n = n then n else root V k (par V n)) = _; rw [if_neg e]
    rw [e2]
    exact h.fuel p1 (by omega) (by omega)
theorem Cl.fst_self {R V : List Int} (h : Cl R V) {n : Nat} (hn : n < V.length) (e : par V n = n) : fst V n = n := by rw [h.fst_eq hn, if_pos e]
theorem Cl.fst_up {R V : List Int} (h : Cl R V) {n : Nat} (hn : n < V.length) : fst V (par V n) = fst V n := by
  by_cases e : par V n = n
  · rw [e]
  · rw [h.fst_eq hn, if_neg e]
/-- a first one is there, is its own, and is ahead -/
theorem Cl.fst_in {R V : List Int} (h : Cl R V) : ∀ n, n < V.length → fst V n < V.length ∧ par V (fst V n) = fst V n ∧ (fst V n = n ∨ lessB R (fst V n) n = true) := by
  refine h.ind fun n hn ih => ?_
  by_cases e : par V n = n
  · rw [h.fst_self hn e]; exact ⟨hn, e, .inl rfl⟩
  · rw [← h.fst_up hn]
    obtain ⟨a, b, c⟩ := ih e
    have p3 := (h.parent hn).2.2.resolve_left e
    refine ⟨a, b, .inr ?_⟩
    rcases c with c | c
    · rw [c]; exact p3
    · exact less_trans c p3
theorem Cl.fst_fst {R V : List Int} (h : Cl R V) {n : Nat} (hn : n < V.length) : fst V (fst V n) = fst V n := by
  obtain ⟨a, b, _⟩ := h.fst_in n hn
  exact h.fst_self a b
theorem par_set {V : List Int} {i p n : Nat} (hi : i < V.length) : par (V.set i (p : Int)) n = if n = i then p else par V n := by
  unfold par
  by_cases e : n = i
  · subst e
    rw [if_pos rfl, List.getD_eq_getElem?_getD, List.getElem?_set_self hi]; rfl
  · rw [if_neg e, List.getD_eq_getElem?_getD, List.getD_eq_getElem?_getD, List.getElem?_set_ne (fun h => e h.symm)]
theorem Cl.set {R V : List Int} (h : Cl R V) {i p : Nat} (_hi : i < V.length) (hp : p < V.length) (hl : p = i ∨ lessB R p i = true) : Cl R (V.set i (p : Int)) := by
  intro n hn
  rw [List.length_set] at hn ⊢
  by_cases e : i = n
  · subst e
    exact ⟨p, hp, List.getElem?_set_self hn, hl⟩
  · rw [List.getElem?_set_ne e]
    exact h n hn
/-- a way that is made shorter: all first ones stay -/
theorem Cl.short {R V : List Int} (h : Cl R V) {i p : Nat} (hi : i < V.length) (hp : p < V.length) (hf : fst V p = fst V i) (hl : p = i ∧ par V i = i ∨ lessB R p i = true) : Cl R (V.set i (p : Int)) ∧ ∀ n, n < V.length → fst (V.set i (p : Int)) n = fst V n := by
  have h' : Cl R (V.set i (p : Int)) := h.set hi hp (hl.imp And.left id)
  refine ⟨h', ?_⟩
  have := h'.ind (P := fun n => fst (V.set i (p : Int)) n = fst V n) fun n hn ih => ?_
  · exact fun n hn => this n (by rw [List.length_set]; exact hn)
  · rw [h'.fst_eq hn]
    rw [List.length_set] at hn
    rw [par_set hi] at ih ⊢
    by_cases e : n = i
    · subst e
      rw [if_pos rfl] at ih ⊢
      by_cases e2 : p = n
      · rw [if_pos e2]
        subst e2
        rcases hl with ⟨_, e3⟩ | e3
        · rw [h.fst_self hn e3]
        · rw [less_self] at e3; cases e3
      · rw [if_neg e2, ih e2, hf]
    · rw [if_neg e] at ih ⊢
      by_cases e2 : par V n = n
      · rw [if_pos e2, h.fst_self hn e2]
      · rw [if_neg e2, ih e2, h.fst_up hn]
/-- two classes are joined: y's first one is x from now on -/
theorem Cl.join {R V : List Int} (h : Cl R V) {x y : Nat} (hx : x < V.length) (hy : y < V.length) (px : par V x = x) (py : par V y = y) (hl : lessB R x y = true) : Cl R (V.set y (x : Int)) ∧ ∀ n, n < V.length → fst (V.set y (x : Int)) n = if fst V n = y then x else fst V n := by
  have h' : Cl R (V.set y (x : Int)) := h.set hy hx (.inr hl)
  have hne : x ≠ y := fun e => by rw [e, less_self] at hl; cases hl
  refine ⟨h', ?_⟩
  have := h'.ind (P := fun n => fst (V.set y (x : Int)) n = if fst V n = y then x else fst V n) fun n hn ih => ?_
  · exact fun n hn => this n (by rw [List.length_set]; exact hn)
  · rw [h'.fst_eq hn]
    rw [List.length_set] at hn
    rw [par_set hy] at ih ⊢
    by_cases e : n = y
    · subst e
      rw [if_pos rfl] at ih ⊢
      rw [if_neg hne, ih hne, h.fst_self hx px, if_neg hne, h.fst_self hn py, if_pos rfl]
    · rw [if_neg e] at ih ⊢
      by_cases e2 : par V n = n
      · rw [if_pos e2, h.fst_self hn e2, if_neg e]
      · rw [if_neg e2, ih e2, h.fst_up hn]
/-- one more, alone -/
theorem par_add {V : List Int} {n : Nat} (hn : n < V.length) (x : Int) : par (V ++ [x]) n = par V n := by
  unfold par
  rw [List.getD_eq_getElem?_getD, List.getD_eq_getElem?_getD, List.getElem?_append_left hn]
theorem par_new (V : List Int) : par (V ++ [(V.length : Int)]) V.length = V.length := by
  unfold par
  rw [List.getD_eq_getElem?_getD, List.getElem?_append_right (Nat.le_refl _)]
  simp
theorem Cl.add {R V : List Int} (h : Cl R V) : Cl R (V ++ [(V.length : Int)]) := by
  intro n hn
  rw [List.length_append, List.length_singleton] at hn ⊢
  by_cases e : n < V.length
  · obtain ⟨p, h1, h2, h3⟩ := h n e
    exact ⟨p, by omega, by rw [List.getElem?_append_left e]; exact h2, h3⟩
  · obtain rfl : n = V.length := by omega
    exact ⟨V.length, by omega, by rw [List.getElem?_append_right (Nat.le_refl _)]; simp, .inl rfl⟩
theorem Cl.fst_add {R V : List Int} (h : Cl R V) : ∀ n, n < V.length → fst (V ++ [(V.length : Int)]) n = fst V n := by
  refine h.ind fun n hn ih => ?_
  rw [h.add.fst_eq (by rw [List.length_append]; omega), par_add hn, h.fst_eq hn]
  by_cases e : par V n = n
  · rw [if_pos e, if_pos e]
  · rw [if_neg e, if_neg e, ih e]
theorem Cl.fst_new {R V : List Int} (h : Cl R V) : fst (V ++ [(V.length : Int)]) V.length = V.length := h.add.fst_self (by rw [List.length_append, List.length_singleton]; omega) (par_new V)

/-! ### which cells are classes, as the document tells it -/
def okB (R V : List Int) (n : Nat) : Bool := (V.getD n 0 == (n : Int)) || (decide (0 ≤ V.getD n 0) && decide (V.getD n 0 < V.length) && lessB R (V.getD n 0) n)
def clB (R V : List Int) : Bool := decide (∀ n, n < V.length → okB R V n = true)
theorem cl_of {R V : List Int} (h : clB R V = true) : Cl R V := by
  have h' := of_decide_eq_true h
  intro n hn
  have := h' n hn
  unfold okB at this
  have hv : V[n]? = some (V.getD n 0) := by rw [List.getD_eq_getElem?_getD, List.getElem?_eq_getElem hn]; rfl
  rcases (Bool.or_eq_true _ _).mp this with e | e
  · have e' := eq_of_beq e
    exact ⟨n, hn, by rw [hv, e'], .inl rfl⟩
  · rw [Bool.and_eq_true, Bool.and_eq_true] at e
    obtain ⟨⟨e1, e2⟩, e3⟩ := e
    have e1 := of_decide_eq_true e1
    have e2 := of_decide_eq_true e2
    obtain ⟨p, hp⟩ := Int.eq_ofNat_of_zero_le e1
    rw [hp] at hv e2 e3
    exact ⟨p, by omega, hv, .inr e3⟩
theorem cl_to {R V : List Int} (h : Cl R V) : clB R V = true := by
  refine decide_eq_true fun n hn => ?_
  obtain ⟨p, h1, h2, h3⟩ := h n hn
  have e : V.getD n 0 = (p : Int) := by rw [List.getD_eq_getElem?_getD, h2]; rfl
  unfold okB
  rw [e]
  rcases h3 with rfl | h3
  · simp
  · rw [h3, decide_eq_true (show (0 : Int) ≤ (p : Int) by omega), decide_eq_true (show (p : Int) < (V.length : Int) by omega)]
    simp

/-! ### rows of numbers that are such -/
def those (L : Nat) (p : Nat → Bool) : List Int := ((List.range L).filter p).map Int.ofNat
theorem those_zero (p : Nat → Bool) : those 0 p = [] := rfl
theorem those_yes {L : Nat} {p : Nat → Bool} (h : p L = true) : those (L + 1) p = those L p ++ [(L : Int)] := by
  unfold those
  rw [List.range_succ, List.filter_append, List.map_append, List.filter_cons_of_pos h]
  rfl
theorem those_no {L : Nat} {p : Nat → Bool} (h : p L = false) : those (L + 1) p = those L p := by
  unfold those
  rw [List.range_succ, List.filter_append, List.map_append, List.filter_cons_of_neg (by rw [h]; simp)]
  simp
theorem those_len (L : Nat) (p : Nat → Bool) : (those L p).length ≤ L := by
  unfold those
  rw [List.length_map]
  exact Nat.le_trans (List.length_filter_le _ _) (by simp)
theorem those_congr {L : Nat} {p q : Nat → Bool} (h : ∀ n, n < L → p n = q n) : those L p = those L q := by
  unfold those
  congr 1
  refine List.filter_congr fun n hn => h n (by simpa using hn)
/-- all of the class of n -/
def classL (V : List Int) (n : Nat) : List Int := those V.length fun m => fst V m == fst V n
def firstsL (V : List Int) : List Int := those V.length fun m => par V m == m
end Go.Proofs.Ytodmompfnlcjpaa.Uf
