/-
  What the proofs lean on, part 3 of 11.
-/
import Derived.Test.YteccgjhnifdcfaaPa
import Derived.Test.YteccgjhnifdcfaaPb
import Derived.Deep.RegionHeld3
import Derived.Deep.SlicePairs
import Derived.Deep.Matrix
import Derived.Lib.SmallJoins
import Derived.SizedLaws
import Derived.Laws.EntriesVeiled
namespace Go.Proofs.Yteccgjhnifdcfaa.Tr
open Go.RowKit Kit

/-- a box of three cells -/
structure Box3 (W : World) (B : Nat) (a b c : Value) : Prop where
  c0 : W.cell? ⟨B, 0, none⟩ = some a
  c1 : W.cell? ⟨B, 1, none⟩ = some b
  c2 : W.cell? ⟨B, 2, none⟩ = some c
  f0 : W.frozen? ⟨B, 0, none⟩ = false
  f1 : W.frozen? ⟨B, 1, none⟩ = false
  f2 : W.frozen? ⟨B, 2, none⟩ = false
  lt : B < W.heap.size
theorem Box3.keep {W W' : World} {B : Nat} {a b c : Value} (h : Box3 W B a b c) (hb : W'.heap[B]? = W.heap[B]?) (hs : W.heap.size ≤ W'.heap.size) : Box3 W' B a b c :=
  ⟨(World.cell?_of_block (a := ⟨B, 0, none⟩) hb).trans h.c0, (World.cell?_of_block (a := ⟨B, 1, none⟩) hb).trans h.c1, (World.cell?_of_block (a := ⟨B, 2, none⟩) hb).trans h.c2,
    (World.frozen?_of_block (a := ⟨B, 0, none⟩) hb).trans h.f0, (World.frozen?_of_block (a := ⟨B, 1, none⟩) hb).trans h.f1, (World.frozen?_of_block (a := ⟨B, 2, none⟩) hb).trans h.f2, Nat.lt_of_lt_of_le h.lt hs⟩
theorem Box3.q {W W' : World} {B : Nat} {a b c : Value} (h : Box3 W B a b c) (q : Q W W') : Box3 W' B a b c := h.keep (q.block B h.lt) q.size
theorem Box3.grown {W W' : World} {B g : Nat} {a b c : Value} (h : Box3 W B a b c) (hg : W.grownBy W' (some g)) (hne : g ≠ B) : Box3 W' B a b c := h.keep (hg.block B h.lt (fun e => hne (by injection e with e; exact e.symm))) hg.size
theorem Box3.new (w : World) (a b c : Value) (t : TypeId) : Box3 (w.alloc (.cells #[a, b, c] t)) w.heap.size a b c := ⟨by simp, by simp, by simp, by simp, by simp, by simp, by simp⟩
theorem Box3.far {W : World} {B : Nat} {a b c : Value} (h : Box3 W B a b c) {g i : Nat} (hg : g ≠ B) (v : Value) : Box3 (W.setCell ⟨g, i, none⟩ v) B a b c := h.grown (setCell_grown W g i v) hg
theorem Box3.set0 {W : World} {B : Nat} {a b c : Value} (h : Box3 W B a b c) (v : Value) : Box3 (W.setCell ⟨B, 0, none⟩ v) B v b c :=
  ⟨setCell_eq h.c0, setCell_ne (by omega) h.c1, setCell_ne (by omega) h.c2, by rw [World.frozen?_setCell]; exact h.f0, by rw [World.frozen?_setCell]; exact h.f1, by rw [World.frozen?_setCell]; exact h.f2, by simpa [World.setCell] using h.lt⟩
theorem Box3.set1 {W : World} {B : Nat} {a b c : Value} (h : Box3 W B a b c) (v : Value) : Box3 (W.setCell ⟨B, 1, none⟩ v) B a v c :=
  ⟨setCell_ne (by omega) h.c0, setCell_eq h.c1, setCell_ne (by omega) h.c2, by rw [World.frozen?_setCell]; exact h.f0, by rw [World.frozen?_setCell]; exact h.f1, by rw [World.frozen?_setCell]; exact h.f2, by simpa [World.setCell] using h.lt⟩
theorem Box3.set2 {W : World} {B : Nat} {a b c : Value} (h : Box3 W B a b c) (v : Value) : Box3 (W.setCell ⟨B, 2, none⟩ v) B a b v :=
  ⟨setCell_ne (by omega) h.c0, setCell_ne (by omega) h.c1, setCell_eq h.c2, by rw [World.frozen?_setCell]; exact h.f0, by rw [World.frozen?_setCell]; exact h.f1, by rw [World.frozen?_setCell]; exact h.f2, by simpa [World.setCell] using h.lt⟩
theorem Box3.all {W : World} {B : Nat} {a b c : Value} (h : Box3 W B a b c) (x y z : Value) : Box3 (((W.setCell ⟨B, 0, none⟩ x).setCell ⟨B, 1, none⟩ y).setCell ⟨B, 2, none⟩ z) B x y z := ((h.set0 x).set1 y).set2 z
/-- what three stores into a box do to the rest -/
theorem set3_grown (W : World) (B : Nat) (x y z : Value) : W.grownBy (((W.setCell ⟨B, 0, none⟩ x).setCell ⟨B, 1, none⟩ y).setCell ⟨B, 2, none⟩ z) (some B) :=
  grown_trans (grown_trans (setCell_grown W B 0 x) (setCell_grown _ B 1 y)) (setCell_grown _ B 2 z)

/-- the value of cells, in memory -/
structure Rd (w : World) (c : Cells) (A : Option Addr) (k1 : Nat) (D : Option Addr) (k2 : Nat) (E : Option Addr) (k3 : Nat) : Prop where
  v : Rds w w.heap.size A (cellsI c.V)
  n : Rds w w.heap.size D (cellsP c.N)
  m : Rds w w.heap.size E (cellsI c.M)
  lv : c.V.length ≤ k1
  ln : c.N.length ≤ k2
  lm : c.M.length ≤ k3
theorem Rd.q {w w' : World} {c : Cells} {A : Option Addr} {k1 : Nat} {D : Option Addr} {k2 : Nat} {E : Option Addr} {k3 : Nat} (h : Rd w c A k1 D k2 E k3) (q : Q w w') : Rd w' c A k1 D k2 E k3 :=
  ⟨h.v.q q, h.n.q q, h.m.q q, h.lv, h.ln, h.lm⟩
/-- cells are few -/
def Few (c : Cells) (m : Nat) : Prop := c.V.length ≤ m ∧ c.N.length ≤ m ∧ c.M.length ≤ m

/-- what a call answers: cells in three blocks of its own -/
structure Out (w w' : World) (c : Cells) (g1 k1 g2 k2 g3 k3 : Nat) : Prop where
  v : OwnC w' g1 (cellsI c.V)
  n : OwnC w' g2 (cellsP c.N)
  m : OwnC w' g3 (cellsI c.M)
  lv : c.V.length ≤ k1
  ln : c.N.length ≤ k2
  lm : c.M.length ≤ k3
  o1 : w.heap.size ≤ g1
  o2 : w.heap.size ≤ g2
  o3 : w.heap.size ≤ g3
  d12 : g1 ≠ g2
  d13 : g1 ≠ g3
  d23 : g2 ≠ g3
  q : Q w w'
theorem Out.rd {w w' : World} {c : Cells} {g1 k1 g2 k2 g3 k3 : Nat} (h : Out w w' c g1 k1 g2 k2 g3 k3) : Rd w' c (some ⟨g1, 0, none⟩) k1 (some ⟨g2, 0, none⟩) k2 (some ⟨g3, 0, none⟩) k3 := ⟨h.v.rds, h.n.rds, h.m.rds, h.lv, h.ln, h.lm⟩
theorem Out.from {w0 w w' : World} {c : Cells} {g1 k1 g2 k2 g3 k3 : Nat} (h : Out w w' c g1 k1 g2 k2 g3 k3) (q : Q w0 w) : Out w0 w' c g1 k1 g2 k2 g3 k3 :=
  ⟨h.v, h.n, h.m, h.lv, h.ln, h.lm, Nat.le_trans q.size h.o1, Nat.le_trans q.size h.o2, Nat.le_trans q.size h.o3, h.d12, h.d13, h.d23, q.trans h.q⟩
theorem Out.more {w w' w'' : World} {c : Cells} {g1 k1 g2 k2 g3 k3 : Nat} (h : Out w w' c g1 k1 g2 k2 g3 k3) (q : Q w' w'') : Out w w'' c g1 k1 g2 k2 g3 k3 :=
  ⟨h.v.q q, h.n.q q, h.m.q q, h.lv, h.ln, h.lm, h.o1, h.o2, h.o3, h.d12, h.d13, h.d23, h.q.trans q⟩
/-- stores into a box that is none of the three -/
theorem Out.far {w w' w'' : World} {c : Cells} {g1 k1 g2 k2 g3 k3 B : Nat} (h : Out w w' c g1 k1 g2 k2 g3 k3) (hg : w'.grownBy w'' (some B)) (hB : w.heap.size ≤ B) (h1 : B ≠ g1) (h2 : B ≠ g2) (h3 : B ≠ g3) : Out w w'' c g1 k1 g2 k2 g3 k3 :=
  ⟨h.v.grown hg (by simpa using h1), h.n.grown hg (by simpa using h2), h.m.grown hg (by simpa using h3), h.lv, h.ln, h.lm, h.o1, h.o2, h.o3, h.d12, h.d13, h.d23, grown_q hg h.q hB⟩

theorem row_kept {w w' : World} {base base' : Nat} {e : TypeId} {size : Nat} {v : Value} {n : Nat} {xs : List Value} (h : w.ownsRow base e size v n xs) (q : Q w w') (hb : base' ≤ base) : w'.ownsRow base' e size v n xs := by
  have h2 := h.kept (row := none) (grows_q q none) (by cases v.ownBlock <;> simp)
  obtain ⟨a, b⟩ := h2
  refine ⟨a, ?_⟩
  rcases b with b | ⟨g, cap, cur, r1, r2, r⟩
  · exact .inl b
  · exact .inr ⟨g, cap, cur, r1, Nat.le_trans hb r2, r⟩
theorem row_far {w w' : World} {base : Nat} {e : TypeId} {size g n cap B : Nat} {xs : List Value} (h : w.ownsRow base e size (.slice (some ⟨g, 0, none⟩) n cap) n xs) (hg : w.grownBy w' (some B)) (hne : B ≠ g) : w'.ownsRow base e size (.slice (some ⟨g, 0, none⟩) n cap) n xs :=
  h.kept hg (.inr (by simp [Value.ownBlock]; exact fun e => hne e.symm))

end Go.Proofs.Yteccgjhnifdcfaa.Tr

namespace Go.Proofs.Yteccgjhnifdcfaa.Uf
open Kit Tr

def rk (R : List Int) (n : Int) : Int := if 0 ≤ n ∧ n < R.length then R.getD n.toNat 0 else 0
def lessB (R : List Int) (a b : Int) : Bool := if rk R a = rk R b then decide (a < b) else decide (rk R a < rk R b)
theorem less_iff (R : List Int) (a b : Int) : lessB R a b = true ↔ rk R a < rk R b ∨ rk R a = rk R b ∧ a < b := by
  unfold lessB
  by_cases h : rk R a = rk R b
  · rw [if_pos h]; simp [h]
  · rw [if_neg h]; simp [h]
theorem less_self (R : List Int) (a : Int) : lessB R a a = false := by
  cases e : lessB R a a with
  | false => rfl
  | true => have := (less_iff R a a).1 e; omega
theorem less_trans {R : List Int} {a b c : Int} (h : lessB R a b = true) (k : lessB R b c = true) : lessB R a c = true := by
  rw [less_iff] at h k ⊢
  omega
theorem less_flip {R : List Int} {a b : Int} (h : a ≠ b) (k : lessB R a b = false) : lessB R b a = true := by
  have k' : ¬ lessB R a b = true := by rw [k]; simp
  rw [less_iff] at k' ⊢
  omega
/-- how many of the first L are ahead of n -/
def dep (R : List Int) (n : Nat) : Nat → Nat
  | 0 => 0
  | m + 1 => (if lessB R m n = true then 1 else 0) + dep R n m
theorem dep_le {R : List Int} {a b : Nat} (h : lessB R a b = true) : ∀ L, dep R a L ≤ dep R b L
  | 0 => Nat.le_refl _
  | m + 1 => by
    have := dep_le h m
    unfold dep
    by_cases e : lessB R m a = true
    · rw [if_pos e, if_pos (less_trans e h)]; omega
    · rw [if_neg e]; omega
theorem dep_lt {R : List Int} {a b : Nat} (h : lessB R a b = true) : ∀ {L}, a < L → dep R a L < dep R b L
  | 0, hL => absurd hL (by omega)
  | m + 1, hL => by
    unfold dep
    by_cases e : a = m
    · subst e
      rw [if_neg (by rw [less_self]; simp), if_pos h]
      have := dep_le h a
      omega
    · have := dep_lt h (L := m) (by omega)
      by_cases e : lessB R m a = true
      · rw [if_pos e, if_pos (less_trans e h)]; omega
      · rw [if_neg e]; omega
theorem dep_len (R : List Int) (n : Nat) : ∀ L, dep R n L ≤ L
  | 0 => Nat.le_refl _
  | m + 1 => by
    have := dep_len R n m
    unfold dep
    split <;> omega
theorem dep_in (R : List Int) {n : Nat} : ∀ {L}, n < L → dep R n L < L
  | 0, hL => absurd hL (by omega)
  | m + 1, hL => by
    unfold dep
    by_cases e : n = m
    · subst e
      rw [if_neg (by rw [less_self]; simp)]
      have := dep_len R n n
      omega
    · have := dep_in R (n := n) (L := m) (by omega)
      split <;> omega

def par (V : List Int) (n : Nat) : Nat := (V.getD n 0).toNat
/-- cells are classes -/
def Cl (R V : List Int) : Prop := ∀ n, n < V.length → ∃ p : Nat, p < V.length ∧ V[n]? = some (p : Int) ∧ (p = n ∨ lessB R p n = true)
theorem par_of {V : List Int} {n p : Nat} (h : V[n]? = some (p : Int)) : par V n = p := by
  unfold par
  rw [List.getD_eq_getElem?_getD, h]; rfl
theorem Cl.parent {R V : List Int} (h : Cl R V) {n : Nat} (hn : n < V.length) : par V n < V.length ∧ V[n]? = some (par V n : Int) ∧ (par V n = n ∨ lessB R (par V n) n = true) := by
  obtain ⟨p, h1, h2, h3⟩ := h n hn
  rw [par_of h2]
  exact ⟨h1, h2, h3⟩
theorem Cl.at {R V : List Int} (h : Cl R V) {n : Nat} (hn : n < V.length) : V[n] = (par V n : Int) := by
  have := (h.parent hn).2.1
  rw [List.getElem?_eq_getElem hn] at this
  injection this
/-- so many steps up -/
def root (V : List Int) : Nat → Nat → Nat
  | 0, n => n
  | k + 1, n => if par V n = n then n else root V k (par V n)
/-- the first one of n -/
def fst (V : List Int) (n : Nat) : Nat := root V V.length n
theorem Cl.ind {R V : List Int} (h : Cl R V) {P : Nat → Prop} (step : ∀ n, n < V.length → (par V n ≠ n → P (par V n)) → P n) : ∀ n, n < V.length → P n := by
  have : ∀ d n, n < V.length → dep R n V.length ≤ d → P n := fun d => by
    induction d with
    | zero =>
      intro n hn hd
      refine step n hn fun hne => ?_
      obtain ⟨h1, _, h3⟩ := h.parent hn
      have := dep_lt (h3.resolve_left hne) h1
      omega
    | succ d ih =>
      intro n hn hd
      refine step n hn fun hne => ?_
      obtain ⟨h1, _, h3⟩ := h.parent hn
      have := dep_lt (h3.resolve_left hne) h1
      exact ih _ h1 (by omega)
  exact fun n hn => this _ n hn (Nat.le_refl _)
theorem root_stay {V : List Int} {n : Nat} (h : par V n = n) : ∀ k, root V k n = n
  | 0 => rfl
  | k + 1 => by unfold root; rw [if_pos h]
theorem Cl.fuel {R V : List Int} (h : Cl R V) : ∀ {k k' n : Nat}, n < V.length → dep R n V.length ≤ k → dep R n V.length ≤ k' → root V k n = root V k' n
  | 0, k', n, hn, h1, _ => by
    have : par V n = n := by
      obtain ⟨p1, _, p3⟩ := h.parent hn
      rcases p3 with e | e
      · exact e
      · have := dep_lt e p1; omega
    rw [root_stay this, root_stay this]
  | k + 1, 0, n, hn, _, h2 => by
    have : par V n = n := by
      obtain ⟨p1, _, p3⟩ := h.parent hn
      rcases p3 with e | e
      · exact e
      · have := dep_lt e p1; omega
    rw [root_stay this, root_stay this]
  | k + 1, k' + 1, n, hn, h1, h2 => by
    unfold root
    by_cases e : par V n = n
    · rw [if_pos e, if_pos e]
    · rw [if_neg e, if_neg e]
      obtain ⟨p1, _, p3⟩ := h.parent hn
      have := dep_lt (p3.resolve_left e) p1
      exact h.fuel p1 (by omega) (by omega)
theorem Cl.fst_eq {R V : List Int} (h : Cl R V) {n : Nat} (hn : n < V.length) : fst V n = if par V n = n then n else fst V (par V n) := by
  unfold fst
  have hd := dep_in R hn
  obtain ⟨k, hk⟩ : ∃ k, V.length = k + 1 := ⟨V.length - 1, by omega⟩
  by_cases e : par V n = n
  · rw [if_pos e, root_stay e]
  · rw [if_neg e]
    obtain ⟨p1, _, p3⟩ := h.parent hn
    have hp := dep_lt (p3.resolve_left e) p1
    have e2 : root V V.length n = root V k (par V n) := by rw [hk]; show (if par V n = n then n else root V k (par V n)) = _; rw [if_neg e]
    rw [e2]
    exact h.fuel p1 (by omega) (by omega)
theorem Cl.fst_self {R V : List Int} (h : Cl R V) {n : Nat} (hn : n < V.length) (e : par V n = n) : fst V n = n := by rw [h.fst_eq hn, if_pos e]
theorem Cl.fst_up {R V : List Int} (h : Cl R V) {n : Nat} (hn : n < V.length) : fst V (par V n) = fst V n := by
  by_cases e : par V n = n
  · rw [e]
  · rw [h.fst_eq hn, if_neg e]
/-- a first one is there, is its own, and is ahead -/
theorem Cl.fst_in {R V : List Int} (h : Cl R V) : ∀ n, n < V.length → fst V n < V.length ∧ par V (fst V n) = fst V n ∧ (fst V n = n ∨ lessB R (fst V n) n = true) := by
  refine h.ind fun n hn ih => ?_
  by_cases e : par V n = n
  · rw [h.fst_self hn e]; exact ⟨hn, e, .inl rfl⟩
  · rw [← h.fst_up hn]
    obtain ⟨a, b, c⟩ := ih e
    have p3 := (h.parent hn).2.2.resolve_left e
    refine ⟨a, b, .inr ?_⟩
    rcases c with c | c
    · rw [c]; exact p3
    · exact less_trans c p3
theorem Cl.set {R V : List Int} (h : Cl R V) {i p : Nat} (_hi : i < V.length) (hp : p < V.length) (hl : p = i ∨ lessB R p i = true) : Cl R (V.set i (p : Int)) := by
  intro n hn
  rw [List.length_set] at hn ⊢
  by_cases e : i = n
  · subst e
    exact ⟨p, hp, List.getElem?_set_self hn, hl⟩
  · rw [List.getElem?_set_ne e]
    exact h n hn
theorem Cl.add {R V : List Int} (h : Cl R V) : Cl R (V ++ [(V.length : Int)]) := by
  intro n hn
  rw [List.length_append, List.length_singleton] at hn ⊢
  by_cases e : n < V.length
  · obtain ⟨p, h1, h2, h3⟩ := h n e
    exact ⟨p, by omega, by rw [List.getElem?_append_left e]; exact h2, h3⟩
  · obtain rfl : n = V.length := by omega
    exact ⟨V.length, by omega, by rw [List.getElem?_append_right (Nat.le_refl _)]; simp, .inl rfl⟩
def okB (R V : List Int) (n : Nat) : Bool := (V.getD n 0 == (n : Int)) || (decide (0 ≤ V.getD n 0) && decide (V.getD n 0 < V.length) && lessB R (V.getD n 0) n)
def clB (R V : List Int) : Bool := decide (∀ n, n < V.length → okB R V n = true)
theorem cl_of {R V : List Int} (h : clB R V = true) : Cl R V := by
  have h' := of_decide_eq_true h
  intro n hn
  have := h' n hn
  unfold okB at this
  have hv : V[n]? = some (V.getD n 0) := by rw [List.getD_eq_getElem?_getD, List.getElem?_eq_getElem hn]; rfl
  rcases (Bool.or_eq_true _ _).mp this with e | e
  · have e' := eq_of_beq e
    exact ⟨n, hn, by rw [hv, e'], .inl rfl⟩
  · rw [Bool.and_eq_true, Bool.and_eq_true] at e
    obtain ⟨⟨e1, e2⟩, e3⟩ := e
    have e1 := of_decide_eq_true e1
    have e2 := of_decide_eq_true e2
    obtain ⟨p, hp⟩ := Int.eq_ofNat_of_zero_le e1
    rw [hp] at hv e2 e3
    exact ⟨p, by omega, hv, .inr e3⟩
def those (L : Nat) (p : Nat → Bool) : List Int := ((List.range L).filter p).map Int.ofNat
theorem those_yes {L : Nat} {p : Nat → Bool} (h : p L = true) : those (L + 1) p = those L p ++ [(L : Int)] := by
  unfold those
  rw [List.range_succ, List.filter_append, List.map_append, List.filter_cons_of_pos h]
  rfl
theorem those_no {L : Nat} {p : Nat → Bool} (h : p L = false) : those (L + 1) p = those L p := by
  unfold those
  rw [List.range_succ, List.filter_append, List.map_append, List.filter_cons_of_neg (by rw [h]; simp)]
  simp
theorem those_len (L : Nat) (p : Nat → Bool) : (those L p).length ≤ L := by
  unfold those
  rw [List.length_map]
  exact Nat.le_trans (List.length_filter_le _ _) (by simp)
def firstsL (V : List Int) : List Int := those V.length fun m => par V m == m
end Go.Proofs.Yteccgjhnifdcfaa.Uf

namespace Go.Proofs.Yteccgjhnifdcfaa.Tr
open Go.RowKit Kit

theorem drewN_add (w : World) (a b : Nat) : (w.drewN a).drewN b = w.drewN (a + b) := by simp [World.drewN, Nat.add_assoc]
theorem q_drewN (w : World) {w' : World} (h : ∃ d, w' = w.drewN d) : Q w w' := by
  obtain ⟨d, rfl⟩ := h
  exact (Q.refl w).drewN d

def fewB (c : Cells) : Bool := decide ((c.V.length : Int) + c.N.length + c.M.length ≤ 500)
/-- a row that is written: nil, or in a block of its own, from block B on -/
def OwnO (w : World) (B : Nat) (A : Option Addr) (cs : List Value) : Prop := 0 < cs.length → ∃ g, A = some ⟨g, 0, none⟩ ∧ B ≤ g ∧ OwnC w g cs
theorem OwnO.q {w w' : World} {B : Nat} {A : Option Addr} {cs : List Value} (h : OwnO w B A cs) (q : Q w w') : OwnO w' B A cs := fun h0 => by
  obtain ⟨g, e, hb, hc⟩ := h h0
  exact ⟨g, e, hb, hc.q q⟩
theorem OwnO.take {w : World} {B : Nat} {A : Option Addr} {cs : List Value} (h : OwnO w B A cs) (n : Nat) : OwnO w B A (cs.take n) := fun h0 => by
  obtain ⟨g, e, hb, hc⟩ := h (by rw [List.length_take] at h0; omega)
  exact ⟨g, e, hb, hc.take n⟩

def RefCells (c : Cells) (w : World) (e : Ending) (w' : World) : Prop := ∃ v, e = .returned (.tuple #[v, .bool (backs c.N c.V).isSome]) ∧ Q w w'

theorem back1_nil (was : Int) (v : List Int) (h : v.length = 0) : back1 (-1, was) v = none := by unfold back1; rw [if_pos rfl, if_pos h]
theorem back1_cut (was : Int) (v : List Int) (h : 0 < v.length) : back1 (-1, was) v = some (v.take (v.length - 1)) := by unfold back1; rw [if_pos rfl, if_neg (by omega)]
theorem back1_put (a : Nat) (was : Int) (v : List Int) (h : a < v.length) : back1 ((a : Int), was) v = some (v.set a was) := by
  unfold back1
  rw [if_neg (by show ¬ (a : Int) = -1; omega), if_pos ⟨by show (0 : Int) ≤ a; omega, by show (a : Int) < _; omega⟩]; rfl
theorem back1_no (n : Note) (v : List Int) (h1 : n.1 ≠ -1) (h : ¬ (0 ≤ n.1 ∧ n.1 < v.length)) : back1 n v = none := by unfold back1; rw [if_neg h1, if_neg h]
theorem slice_toJ (A : Option Addr) (n c l : Nat) (i : Int) (hi : i = l) (h : l ≤ c) (u : World) : (Instr.slice 24 (.slice A n c) none (some (.int .i64 i)) none).run Try.prog u = .ok (.slice A l c) u := by
  subst hi
  obtain ⟨i0, hi, hz0, hz1, hz2⟩ := info_parts intInfo
  simp [Instr.slice, run_underlying Try.underlying24, Instr.sliceBounds, Instr.sliceBound, asIntOf, sizeOf, typeInfo, hi, h, Addr.add]

set_option maxRecDepth 100000 in
set_option maxHeartbeats 4000000 in
theorem refCells_any (c : Cells) (A D E : Option Addr) (n1 k1 n2 k2 n3 k3 : Nat) (w : World) (h1 : n1 = c.V.length) (h2 : n2 = c.N.length) (h3 : n3 = c.M.length) (h : Rd w c A k1 D k2 E k3) (hf : Few c 1000000) :
    Calls Try.prog 83 #[.agg #[.slice A n1 k1, .slice D n2 k2, .slice E n3 k3], .int .i64 0] w (RefCells c w) := by
  subst h1 h2 h3
  obtain ⟨fv, fn, fm⟩ := hf
  obtain ⟨i0, hi, hz0, hz1, hz2⟩ := info_parts intInfo
  have Hi := Lib.hid hi
  have Hz0 := Lib.hid hz0
  have Hz1 := Lib.hid hz1
  have Hz2 := Lib.hid hz2
  clear hi hz0 hz1 hz2
  have q0 := (Q.refl w).alloc (Obj.cells #[Value.slice A c.V.length k1, Value.slice D c.N.length k2, Value.slice E c.M.length k3] 29)
  have HB := Lib.hid (Box3.new w (Value.slice A c.V.length k1) (Value.slice D c.N.length k2) (Value.slice E c.M.length k3) 29)
  have HR := Lib.hid (h.q q0)
  have HN := Lib.hid h.n
  clear h
  go_enter Try.func83, Try.ntmps83
  go_upto_region 1 with fail
  generalize w.alloc (Obj.cells #[Value.slice A c.V.length k1, Value.slice D c.N.length k2, Value.slice E c.M.length k3] 29) = W0 at *
  have b0 := HB.out.c0
  have b1 := HB.out.c1
  have hlt0 := HB.out.lt
  have qa := (Q.refl W0).alloc (Obj.cells #[] 3)
  have HsV := Lib.hid (HR.out.v.q qa)
  have Ho := Lib.hid (own_empty (base := w.heap.size + 1) (e := 3) (size := 1) (by omega) (heap_alloc_new W0 (Obj.cells #[] 3)))
  go_upto_region 2 with (at_builtin; refine wpList_append_src _ rfl (.tmp 9) (.tmp 11) _ rfl (w.heap.size + 1) 3 i0 _ 1 8 Try.underlying24 Hi.out Hz0.out Hz1.out Hz2.out rfl (by omega) (.slice (some ⟨W0.heap.size, 0, none⟩) 0 0) 0 [] rfl Ho.out A c.V.length k1 (cellsI c.V) rfl (by rw [cellsI_len]; omega) HsV.out.src (cellsI_one c.V) (by unfold maxLen; omega) (by omega) (by simp; omega) ?_; intro v' w' own' gr' _; have Own := Lib.hid own'; have q2 : Q W0 w' := qa.grown gr' (by simp) (by simp [Value.ownBlock]); clear own' gr')
  have own2 := Own.out
  rw [Nat.zero_add, List.nil_append] at own2
  obtain ⟨A2, K, hv', hK, hO⟩ : ∃ A c', v' = .slice A c.V.length c' ∧ c.V.length ≤ c' ∧ OwnO w' (w.heap.size + 1) A (cellsI c.V) := by
    have h2 := own2
    obtain ⟨hl, ⟨rfl, h0⟩ | ⟨g, cap, cur, rfl, hg, hh, hc, _⟩⟩ := own2
    · exact ⟨none, 0, by rw [h0], by omega, fun h => by rw [cellsI_len] at h; omega⟩
    · exact ⟨_, cap, rfl, hc, fun _ => ⟨g, rfl, hg, OwnC.of_row h2⟩⟩
  have HO := Lib.hid hO
  have HB2 := Lib.hid (HB.out.q q2)
  have HR2 := Lib.hid (HR.out.q q2)
  have q02 := Lib.hid (q0.trans q2)
  have HN2 := Lib.hid (HN.out.keep q02.out)
  have b1' := HB2.out.c1
  have hl2 := HB2.out.lt
  have HV := Lib.hid hv'
  have Hst : Hid ((backs c.N c.V).isSome = (backR (c.N.take c.N.length).reverse c.V).isSome) := by rw [List.take_length]; exact Lib.hid rfl
  clear own2 hv' hO b0 b1 hlt0 qa Own Ho HsV HR HB q0 q2
  rw [HV.out]
  go_wp2_with fail
  go_loopw [6, 7] (fun vv i wr => ∃ (B : Option Addr) (v : List Int) (k : Nat) (j : Int), k ≤ c.N.length ∧ i = .int .i64 j ∧ Hid (j = (k : Int) - 1) ∧ vv = .slice B v.length K ∧ v.length ≤ K ∧ v.length ≤ 1000000 ∧ Hid (OwnO wr (w.heap.size + 1) B (cellsI v)) ∧ Hid (Q w wr) ∧ Hid (Box3 wr w.heap.size (Value.slice A c.V.length k1) (Value.slice D c.N.length k2) (Value.slice E c.M.length k3)) ∧ Hid (Rds wr w.heap.size D (cellsP c.N)) ∧ Hid ((backs c.N c.V).isSome = (backR (c.N.take k).reverse v).isSome)) (fun _ i _ => (intOf i + 1).toNat)
  case atStart => exact ⟨A2, c.V, c.N.length, _, Nat.le_refl _, rfl, Lib.hid rfl, rfl, hK, fv, HO, q02, HB2, HN2, Hst⟩
  case round =>
    clear HO q02 HB2 HR2 HN HN2 Hst b1' hl2
    obtain ⟨B, v, k, j, hk, rfl, HJ, rfl, hvK, hvl, HO, HQ, HB, HR, HH⟩ := hrel
    have b1 := HB.out.c1
    rcases k with _ | k
    · obtain rfl : j = -1 := by have := HJ.out; simpa using this
      have HV0 : Hid ((backs c.N c.V).isSome = true) := HH.out
      go_wp2_with fail
      go_ret2
      exact ⟨_, by rw [HV0.out]; rfl, HQ.out⟩
    · obtain rfl : j = (k : Int) := by have := HJ.out; omega
      have hkl : k < c.N.length := by omega
      have hj0 : (0 : Int) ≤ (k : Int) := Int.natCast_nonneg _
      have HS := HH.out
      rw [backR_at c.N k hkl] at HS
      obtain ⟨ad, e, hb, c0, c1⟩ := HR.out.pair_at hkl
      have HE := Lib.hid e
      clear e
      have hlt := HB.out.lt
      generalize c.N[k] = x at *
      obtain ⟨a, was⟩ := x
      have q1 := (Q.refl wr).alloc (Obj.cells #[.int .i64 a, .int .i64 was] 129)
      by_cases ha : a = -1
      · subst ha
        by_cases hv0 : v.length = 0
        · have HF : Hid ((backs c.N c.V).isSome = false) := by rw [back1_nil was v hv0] at HS; exact Lib.hid HS
          have dl : decide (0 < v.length) = false := decide_eq_false (by omega)
          clear HS hv0
          rw [HE.out] at b1
          go_wp2_with fail
          go_ret2
          exact ⟨_, by rw [HF.out]; rfl, HQ.out.alloc _⟩
        · have hv1 : 0 < v.length := by omega
          have HF : Hid ((backs c.N c.V).isSome = (backR (c.N.take k).reverse (v.take (v.length - 1))).isSome) := by rw [back1_cut was v hv1] at HS; exact Lib.hid HS
          have dl : decide (0 < v.length) = true := decide_eq_true hv1
          have hsl := fun u => slice_toJ B v.length K (v.length - 1) ((v.length : Int) - 1) (by omega) (by omega) u
          have hlen : Hid ((v.take (v.length - 1)).length = v.length - 1) := by unfold Hid; rw [List.length_take]; omega
          have HOt := HO.out.take (v.length - 1)
          have HOt' : Hid (OwnO wr (w.heap.size + 1) B (cellsI (v.take (v.length - 1)))) := by rw [show (cellsI v).take (v.length - 1) = cellsI (v.take (v.length - 1)) by simp [cellsI, List.map_take]] at HOt; exact HOt
          clear HS hv0 HOt
          rw [HE.out] at b1
          go_wp2_with fail
          go_roundw
          case rel => exact ⟨B, v.take (v.length - 1), k, _, by omega, rfl, Lib.hid (by omega), by rw [hlen.out], by rw [hlen.out]; omega, by rw [hlen.out]; omega, Lib.hid (HOt'.out.q q1), Lib.hid (HQ.out.alloc _), Lib.hid (HB.out.q q1), Lib.hid (HR.out.keep (q1.mono (Nat.le_of_lt hlt))), HF⟩
          case measure => simp [intOf]
      · by_cases hp : 0 ≤ a ∧ a < v.length
        · obtain ⟨m, rfl⟩ := Int.eq_ofNat_of_zero_le hp.1
          have hml : m < v.length := by omega
          have HF : Hid ((backs c.N c.V).isSome = (backR (c.N.take k).reverse (v.set m was)).isSome) := by rw [back1_put m was v hml] at HS; exact Lib.hid HS
          have dn : (((m : Nat) : Int) == -1) = false := by simp
          have d1 : decide (0 ≤ ((m : Nat) : Int)) = true := decide_eq_true hp.1
          have d2 : decide (m < v.length) = true := decide_eq_true hml
          obtain ⟨g, e, hg, hc⟩ := HO.out (by rw [cellsI_len]; omega)
          have HE2 := Lib.hid e
          have HC := Lib.hid (hc.q q1)
          have HCw := Lib.hid hc
          have oc := (HC.out.2 m _ (cellsI_at hml)).1
          have of := (HC.out.2 m _ (cellsI_at hml)).2
          have hgs := hc.1
          clear HS hp ha e hc
          rw [HE.out] at b1
          rw [HE2.out]
          go_wp2_with fail
          have hg2 := setCell_grown wr g m (.int .i64 was)
          have q3 := (Q.refl (wr.setCell ⟨g, m, none⟩ (.int .i64 was))).alloc (Obj.cells #[.int .i64 (m : Int), .int .i64 was] 129)
          have hz : (wr.setCell ⟨g, m, none⟩ (.int .i64 was)).heap.size = wr.heap.size := by simp [World.setCell]
          go_roundw
          case rel => exact ⟨some ⟨g, 0, none⟩, v.set m was, k, _, by omega, rfl, Lib.hid (by omega), by rw [List.length_set], by rw [List.length_set]; exact hvK, by rw [List.length_set]; exact hvl, Lib.hid (fun _ => ⟨g, rfl, hg, by rw [cellsI_set]; exact (HCw.out.set (by rw [cellsI_len]; exact hml) _).q q3⟩), Lib.hid ((grown_q hg2 HQ.out (by omega)).alloc _), Lib.hid ((HB.out.grown hg2 (by omega)).q q3), Lib.hid ((HR.out.keep (Below.grown (Below.refl w.heap.size wr) hg2 (Nat.le_of_lt HB.out.lt) (fun i e => by injection e with e; omega))).keep (q3.mono (by rw [hz]; exact Nat.le_of_lt HB.out.lt))), HF⟩
          case measure => simp [intOf]
        · have HF : Hid ((backs c.N c.V).isSome = false) := by rw [back1_no (a, was) v ha hp] at HS; exact Lib.hid HS
          have dn : (a == -1) = false := by simpa using ha
          by_cases h0 : 0 ≤ a
          · have d1 : decide (0 ≤ a) = true := decide_eq_true h0
            have d2 : decide (a < (v.length : Int)) = false := decide_eq_false (fun h => hp ⟨h0, h⟩)
            clear HS hp ha h0
            rw [HE.out] at b1
            go_wp2_with fail
            go_ret2
            exact ⟨_, by rw [HF.out]; rfl, HQ.out.alloc _⟩
          · have d1 : decide (0 ≤ a) = false := decide_eq_false h0
            clear HS hp ha h0
            rw [HE.out] at b1
            go_wp2_with fail
            go_ret2
            exact ⟨_, by rw [HF.out]; rfl, HQ.out.alloc _⟩

end Go.Proofs.Yteccgjhnifdcfaa.Tr

namespace Go.Proofs.Yteccgjhnifdcfaa.Tr
open Go.RowKit Kit

/-- the boxes at a call's start: what came in, and the result's cells -/
theorem boxes (w : World) (a b c : Value) (t : TypeId) : ∃ W0, W0 = (w.alloc (Obj.cells #[a, b, c] t)).alloc (Obj.cells #[Value.slice none 0 0, Value.slice none 0 0, Value.slice none 0 0] t) ∧ Q w W0 ∧ W0.heap.size = w.heap.size + 2 ∧
    Box3 W0 w.heap.size a b c ∧ Box3 W0 (w.heap.size + 1) (Value.slice none 0 0) (Value.slice none 0 0) (Value.slice none 0 0) := by
  refine ⟨_, rfl, ((Q.refl w).alloc _).alloc _, by simp, (Box3.new w a b c t).q ((Q.refl _).alloc _), ?_⟩
  have X := Box3.new (w.alloc (Obj.cells #[a, b, c] t)) (Value.slice none 0 0) (Value.slice none 0 0) (Value.slice none 0 0) t
  rwa [World.size_alloc] at X

theorem src1 (w : World) (v : Value) (t : TypeId) : ∀ j u, [v][j]? = some u → (w.alloc (.cells #[v] t)).cell? ((⟨w.heap.size, 0, none⟩ : Addr).add j) = some u := by
  intro j u hu
  rw [add_zero_head, cell_of_row _ _ _ _ _ _ (heap_alloc_new w _)]
  simpa using hu

end Go.Proofs.Yteccgjhnifdcfaa.Tr

namespace Go.Proofs.Yteccgjhnifdcfaa.Tr
open Go.RowKit Kit

theorem Rds.int_some {w : World} {B : Nat} {ad : Addr} {l : List Int} (h : Rds w B (some ad) (cellsI l)) {k : Nat} (hk : k < l.length) : w.cell? (ad.add k) = some (.int .i64 l[k]) := by
  obtain ⟨ad', e, _, hc⟩ := h.int_at hk
  injection e with e
  subst e
  exact hc
/-- in the midst of a call: what came in, the result's cells, and the copy's box -/
structure St (w W : World) (B : Nat) (a b d x y z : Value) : Prop where
  ib : Box3 W w.heap.size a b d
  rb : Box3 W (w.heap.size + 1) (.slice none 0 0) (.slice none 0 0) (.slice none 0 0)
  tb : Box3 W B x y z
  hB : w.heap.size + 1 < B
  q : Q w W
theorem St.grown {w W W' : World} {B g : Nat} {a b d x y z : Value} (h : St w W B a b d x y z) (hg : W.grownBy W' (some g)) (h1 : w.heap.size + 1 < g) (h2 : g ≠ B) : St w W' B a b d x y z :=
  ⟨h.ib.grown hg (by omega), h.rb.grown hg (by omega), h.tb.grown hg h2, h.hB, grown_q hg h.q (by omega)⟩
theorem St.more {w W W' : World} {B : Nat} {a b d x y z : Value} (h : St w W B a b d x y z) (q : Q W W') : St w W' B a b d x y z := ⟨h.ib.q q, h.rb.q q, h.tb.q q, h.hB, h.q.trans q⟩
theorem St.set0 {w W : World} {B : Nat} {a b d x y z : Value} (h : St w W B a b d x y z) (v : Value) : St w (W.setCell ⟨B, 0, none⟩ v) B a b d v y z :=
  ⟨h.ib.far (by have := h.hB; omega) _, h.rb.far (by have := h.hB; omega) _, h.tb.set0 v, h.hB, grown_q (setCell_grown W B 0 v) h.q (by have := h.hB; omega)⟩
theorem St.set1 {w W : World} {B : Nat} {a b d x y z : Value} (h : St w W B a b d x y z) (v : Value) : St w (W.setCell ⟨B, 1, none⟩ v) B a b d x v z :=
  ⟨h.ib.far (by have := h.hB; omega) _, h.rb.far (by have := h.hB; omega) _, h.tb.set1 v, h.hB, grown_q (setCell_grown W B 1 v) h.q (by have := h.hB; omega)⟩
theorem St.set2 {w W : World} {B : Nat} {a b d x y z : Value} (h : St w W B a b d x y z) (v : Value) : St w (W.setCell ⟨B, 2, none⟩ v) B a b d x y v :=
  ⟨h.ib.far (by have := h.hB; omega) _, h.rb.far (by have := h.hB; omega) _, h.tb.set2 v, h.hB, grown_q (setCell_grown W B 2 v) h.q (by have := h.hB; omega)⟩

/-- the three rows of the copy -/
structure Own3 (w W : World) (B : Nat) (c : Cells) (g1 k1 g2 k2 g3 k3 : Nat) : Prop where
  v : W.ownsRow (w.heap.size + 2) 3 1 (.slice (some ⟨g1, 0, none⟩) c.V.length k1) c.V.length (cellsI c.V)
  n : W.ownsRow (w.heap.size + 2) 129 2 (.slice (some ⟨g2, 0, none⟩) c.N.length k2) c.N.length (cellsP c.N)
  m : W.ownsRow (w.heap.size + 2) 3 1 (.slice (some ⟨g3, 0, none⟩) c.M.length k3) c.M.length (cellsI c.M)
  lv : c.V.length ≤ k1
  ln : c.N.length ≤ k2
  lm : c.M.length ≤ k3
  d12 : g1 < g2
  d23 : g2 < g3
  d3B : g3 < B
theorem Own3.lo {w W : World} {B : Nat} {c : Cells} {g1 k1 g2 k2 g3 k3 : Nat} (h : Own3 w W B c g1 k1 g2 k2 g3 k3) : w.heap.size + 1 < g1 := (h.v.lt g1 rfl).1
theorem Own3.far {w W W' : World} {B g : Nat} {c : Cells} {g1 k1 g2 k2 g3 k3 : Nat} (h : Own3 w W B c g1 k1 g2 k2 g3 k3) (hg : W.grownBy W' (some g)) (e1 : g ≠ g1) (e2 : g ≠ g2) (e3 : g ≠ g3) : Own3 w W' B c g1 k1 g2 k2 g3 k3 :=
  ⟨row_far h.v hg e1, row_far h.n hg e2, row_far h.m hg e3, h.lv, h.ln, h.lm, h.d12, h.d23, h.d3B⟩
theorem Own3.more {w W W' : World} {B : Nat} {c : Cells} {g1 k1 g2 k2 g3 k3 : Nat} (h : Own3 w W B c g1 k1 g2 k2 g3 k3) (q : Q W W') : Own3 w W' B c g1 k1 g2 k2 g3 k3 :=
  ⟨row_kept h.v q (Nat.le_refl _), row_kept h.n q (Nat.le_refl _), row_kept h.m q (Nat.le_refl _), h.lv, h.ln, h.lm, h.d12, h.d23, h.d3B⟩
theorem Own3.out {w W : World} {B : Nat} {c : Cells} {g1 k1 g2 k2 g3 k3 : Nat} (h : Own3 w W B c g1 k1 g2 k2 g3 k3) (q : Q w W) : Out w W c g1 k1 g2 k2 g3 k3 := by
  have := h.d12
  have := h.d23
  have := h.lo
  exact ⟨.of_row h.v, .of_row h.n, .of_row h.m, h.lv, h.ln, h.lm, by omega, by omega, by omega, by omega, by omega, by omega, q⟩
end Go.Proofs.Yteccgjhnifdcfaa.Tr

namespace Go.Proofs.Yteccgjhnifdcfaa.Tr
open Go.RowKit Kit

end Go.Proofs.Yteccgjhnifdcfaa.Tr

namespace Go.Proofs.Yteccgjhnifdcfaa.Tr
open Go.RowKit Kit

theorem q_grown {a b c : World} {row : Option Nat} (q : Q a b) (h : b.grownBy c row) : a.grownBy c row := grown_trans (grows_q q row) h
end Go.Proofs.Yteccgjhnifdcfaa.Tr

namespace Go.Proofs.Yteccgjhnifdcfaa.Tr
open Go.RowKit Kit

end Go.Proofs.Yteccgjhnifdcfaa.Tr

namespace Go.Proofs.Yteccgjhnifdcfaa.Tr
open Go.RowKit Kit

end Go.Proofs.Yteccgjhnifdcfaa.Tr

namespace Go.Proofs.Yteccgjhnifdcfaa.Tr
open Go.RowKit Kit

end Go.Proofs.Yteccgjhnifdcfaa.Tr

namespace Go.Proofs.Yteccgjhnifdcfaa.Tr
open Go.RowKit Kit

end Go.Proofs.Yteccgjhnifdcfaa.Tr

namespace Go.Proofs.Yteccgjhnifdcfaa.Tr
open Go.RowKit Kit

set_option maxRecDepth 100000 in
set_option maxHeartbeats 4000000 in
theorem refRight_any (c : Cells) (A D E : Option Addr) (n1 k1 n2 k2 n3 k3 : Nat) (w : World) (h1 : n1 = c.V.length) (h2 : n2 = c.N.length) (h3 : n3 = c.M.length) (h : Rd w c A k1 D k2 E k3) (hf : Few c 1000000) :
    Calls Try.prog 64 #[.agg #[.slice A n1 k1, .slice D n2 k2, .slice E n3 k3]] w fun e w' => e = .returned (.bool (rightB c)) ∧ Q w w' := by
  subst h1 h2 h3
  have Hf := Lib.hid hf
  obtain ⟨fv, fn, fm⟩ := hf
  have q0 := (Q.refl w).alloc (Obj.cells #[Value.slice A c.V.length k1, Value.slice D c.N.length k2, Value.slice E c.M.length k3] 29)
  have HB := Lib.hid (Box3.new w (Value.slice A c.V.length k1) (Value.slice D c.N.length k2) (Value.slice E c.M.length k3) 29)
  have HR := Lib.hid (h.q q0)
  clear h
  go_enter Try.func64, Try.ntmps64
  go_wp2_with fail
  generalize w.alloc (Obj.cells #[Value.slice A c.V.length k1, Value.slice D c.N.length k2, Value.slice E c.M.length k3] 29) = W0 at *
  go_loopw [3] (fun i wr => ∃ (k : Nat) (p : Int), k ≤ c.M.length ∧ i = .int .i64 k ∧ Hid (rightB c = (mkB c.N.length p (c.M.drop k) && (backs c.N c.V).isSome)) ∧ Hid (0 ≤ p ∧ (p = 0 ∧ k = 0 ∨ 0 < k ∧ c.M[k - 1]? = some p)) ∧ Hid (∃ d, wr = W0.drewN d)) (fun i _ => c.M.length - (intOf i).toNat)
  case atStart => exact ⟨0, 0, Nat.zero_le _, rfl, Lib.hid rfl, Lib.hid ⟨by omega, .inl ⟨rfl, rfl⟩⟩, Lib.hid ⟨0, rfl⟩⟩
  case round =>
    obtain ⟨k, p, hk, rfl, HH, HP, HD⟩ := hrel
    have qr := Lib.hid (q_drewN W0 HD.out)
    have b1 := (HB.out.q qr.out).c1
    have b2 := (HB.out.q qr.out).c2
    by_cases hlt : k < c.M.length
    · have HS := HH.out
      rw [mkB_at _ _ _ k hlt] at HS
      obtain ⟨ad, e, hb, c0⟩ := (HR.out.m.q qr.out).int_at hlt
      rw [e] at b2
      have HE := Lib.hid e
      clear e
      have j0 : (0 : Int) ≤ (k : Int) := Int.natCast_nonneg _
      have j1 : (k : Int) < (c.M.length : Int) := by omega
      obtain ⟨x, hx⟩ : ∃ x, x = c.M[k] := ⟨_, rfl⟩
      have HX := Lib.hid hx
      rw [← hx] at HS c0
      clear hx
      have stop : ∀ b : Bool, Hid (rightB c = b) → Hid (rightB c = b) := fun _ h => h
      by_cases x0 : x < 0
      · have HF : Hid (rightB c = false) := by
          rw [decide_eq_false (show ¬ p ≤ x by have := HP.out.1; omega)] at HS; exact Lib.hid HS
        have d1 : decide (x < 0) = true := decide_eq_true x0
        clear HS x0
        go_wp2_with fail
        go_quiet (fail)
        go_wp2_with fail
        go_ret
        exact ⟨by rw [HF.out]; rfl, q0.trans (q_drewN W0 (by obtain ⟨d, rfl⟩ := HD.out; exact ⟨_, drewN_add _ _ _⟩))⟩
      · have d1 : decide (x < 0) = false := decide_eq_false x0
        by_cases x1 : (c.N.length : Int) < x
        · have HF : Hid (rightB c = false) := by
            rw [decide_eq_false (show ¬ x ≤ (c.N.length : Int) by omega), Bool.and_false] at HS; exact Lib.hid HS
          have d2 : decide ((c.N.length : Int) < x) = true := decide_eq_true x1
          clear HS x0 x1
          go_wp2_with fail
          go_quiet (fail)
          go_wp2_with fail
          go_ret
          exact ⟨by rw [HF.out]; rfl, q0.trans (q_drewN W0 (by obtain ⟨d, rfl⟩ := HD.out; exact ⟨_, drewN_add _ _ _⟩))⟩
        · have d2 : decide ((c.N.length : Int) < x) = false := decide_eq_false x1
          rw [decide_eq_true (show x ≤ (c.N.length : Int) by omega), Bool.and_true] at HS
          rcases k with _ | k
          · have HF : Hid (rightB c = (mkB c.N.length x (c.M.drop (0 + 1)) && (backs c.N c.V).isSome)) := by
              rw [decide_eq_true (show p ≤ x by have := HP.out.2; omega), Bool.true_and] at HS; exact Lib.hid HS
            have HP' : Hid (0 ≤ x ∧ (x = 0 ∧ 0 + 1 = 0 ∨ 0 < 0 + 1 ∧ c.M[0 + 1 - 1]? = some x)) := ⟨by omega, .inr ⟨by omega, by rw [HX.out]; exact List.getElem?_eq_getElem hlt⟩⟩
            have c0' : wr.cell? ad = some (.int .i64 x) := by have := c0; simpa [Addr.add] using this
            have j1' : (0 : Int) < (c.M.length : Int) := by omega
            clear HS x0 x1 c0
            go_wp2_with fail
            go_quiet (fail)
            go_wp2_with fail
            go_roundw
            case rel => exact ⟨0 + 1, x, by omega, by go_num, HF, HP', Lib.hid (by obtain ⟨d, rfl⟩ := HD.out; exact ⟨_, drewN_add _ _ _⟩)⟩
            case measure => simp [intOf]; omega
          · have hp : c.M[k]? = some p := by
              rcases HP.out.2 with ⟨_, h⟩ | ⟨_, h⟩
              · omega
              · simpa using h
            have hk' : k < c.M.length := by omega
            have hpe : c.M[k] = p := by rw [List.getElem?_eq_getElem hk'] at hp; injection hp
            obtain ⟨ad', e', _, c1⟩ := (HR.out.m.q qr.out).int_at hk'
            have hadd : ad' = ad := by rw [HE.out] at e'; injection e' with e'; exact e'.symm
            rw [hadd, hpe] at c1
            clear hadd e' hp hpe hk'
            have c0' : wr.cell? ⟨ad.block, ad.off + (k + 1), none⟩ = some (.int .i64 x) := by have := c0; simpa [Addr.add] using this
            have j2 : ((k : Int) + 1 - 1) = (k : Int) := by omega
            have j3 : decide (0 < (k : Int) + 1) = true := decide_eq_true (by omega)
            have j5 : ((k : Int) + 1).toNat = k + 1 := by omega
            have j6 : (k : Int) + 1 < (c.M.length : Int) := by omega
            have j7 : (0 : Int) ≤ (k : Int) + 1 := by omega
            have j8 : (k : Int) < (c.M.length : Int) := by omega
            have j9 : IntKind.i64.wrap (k : Int) = (k : Int) := IntWalk.i64_in _ (by omega)
            have j10 : (0 : Int) ≤ (k : Int) := by omega
            have j4 : IntKind.i64.wrap ((k : Int) + 1 - 1) = (k : Int) := by rw [j2]; exact IntWalk.i64_in _ (by omega)
            by_cases x2 : x < p
            · have HF : Hid (rightB c = false) := by
                rw [decide_eq_false (show ¬ p ≤ x by omega)] at HS; exact Lib.hid HS
              have d3 : decide (x < p) = true := decide_eq_true x2
              clear HS x0 x1 x2
              go_wp2_with fail
              go_quiet (fail)
              go_wp2_with fail
              go_ret
              exact ⟨by rw [HF.out]; rfl, q0.trans (q_drewN W0 (by obtain ⟨d, rfl⟩ := HD.out; exact ⟨_, drewN_add _ _ _⟩))⟩
            · have HF : Hid (rightB c = (mkB c.N.length x (c.M.drop (k + 1 + 1)) && (backs c.N c.V).isSome)) := by
                rw [decide_eq_true (show p ≤ x by omega), Bool.true_and] at HS; exact Lib.hid HS
              have HP' : Hid (0 ≤ x ∧ (x = 0 ∧ k + 1 + 1 = 0 ∨ 0 < k + 1 + 1 ∧ c.M[k + 1 + 1 - 1]? = some x)) := ⟨by omega, .inr ⟨by omega, by rw [HX.out]; exact List.getElem?_eq_getElem hlt⟩⟩
              have d3 : decide (x < p) = false := decide_eq_false x2
              clear HS x0 x1 x2
              go_wp2_with fail
              go_quiet (fail)
              go_wp2_with fail
              go_roundw
              case rel => exact ⟨k + 1 + 1, x, by omega, by go_num, HF, HP', Lib.hid (by obtain ⟨d, rfl⟩ := HD.out; exact ⟨_, drewN_add _ _ _⟩)⟩
              case measure => simp [intOf]; omega
    · obtain rfl : k = c.M.length := by omega
      have HF : Hid (rightB c = (backs c.N c.V).isSome) := by have := HH.out; rw [mkB_end _ _ _ _ (Nat.le_refl _), Bool.true_and] at this; exact Lib.hid this
      have b0 := (HB.out.q qr.out).c0
      go_wp2_with fail
      refine (refCells_any c _ _ _ _ _ _ _ _ _ _ rfl rfl rfl (HR.out.q qr.out) Hf.out).mono ?_
      rintro e w1 ⟨v, rfl, q1⟩
      go_wp2_with fail
      go_ret
      exact ⟨by rw [HF.out]; rfl, q0.trans (qr.out.trans q1)⟩
end Go.Proofs.Yteccgjhnifdcfaa.Tr

namespace Go.Proofs.Yteccgjhnifdcfaa.Tr
open Go.RowKit Kit

def growC (c : Cells) (x : Int) : Cells := ⟨c.V ++ [x], c.N ++ [(-1, 0)], c.M⟩

end Go.Proofs.Yteccgjhnifdcfaa.Tr

namespace Go.Proofs.Yteccgjhnifdcfaa.Tr
open Go.ChangeShapes Go.WideShapes Go.RowKit Kit Go.Deep Go.Joins

theorem bytes_int : Try.prog.bytesOf 3 = 8 := by kernel_rfl
theorem bytes_note : Try.prog.bytesOf 129 = 16 := by kernel_rfl
theorem cells_int : Try.prog.cellsOf 3 = 1 := by kernel_rfl
section
variable {H : Type} {enc : TypeId × Value → H} {W : World} {base : Nat}
theorem open_ints_cells {fuel : Nat} {v : Value} {x : DataW H × List MemPlace} (h : DataW.trod enc Try.prog W 0 (fun _ => true) true fuel 24 [v] = some x) (hz : ∀ n ∈ x.1.weights Try.prog 24, n ≤ reachBytes) :
    ∃ A n c l, v = .slice A n c ∧ n = l.length ∧ n ≤ c ∧ Rds W W.heap.size A (cellsI l) ∧ l.length ≤ 1152921504606846976 := by
  rcases open_ints Try.underlying24 Try.underlying3 cells_int h with ⟨hcs, hx⟩ | ⟨a, len, cap, zs, hcs, _, hl, _, hlen, hx, hcell, _⟩
  · obtain rfl : v = .slice none 0 0 := by simpa using hcs
    exact ⟨none, 0, 0, [], rfl, rfl, Nat.le_refl _, Rds.nil _ _ _, by simp⟩
  · obtain rfl : v = .slice (some a) len cap := by simpa using hcs
    simp only [if_true] at hlen
    have hw : (((lits .i64 (zs.take len) : List (DataW H))).length + ((lits .i64 (zs.drop len) : List (DataW H))).length) * Try.prog.bytesOf 3 ≤ reachBytes := by
      refine hz _ ?_
      rw [hx]
      simp [DataW.weights, Try.underlying24]
    rw [bytes_int] at hw
    have hll : (zs.take len).length = len := by rw [List.length_take, hlen]; omega
    refine ⟨_, _, _, zs.take len, rfl, hll.symm, hl, fun h0 => ⟨a, rfl, ?_, fun i y hy => ?_⟩, ?_⟩
    · have := hcell 0 (by rw [cellsI_len] at h0; omega)
      have := World.block_lt_of_cell? W _ this
      rwa [add_block] at this
    · unfold cellsI at hy
      rw [List.getElem?_map, Option.map_eq_some_iff] at hy
      obtain ⟨z, hz', rfl⟩ := hy
      have hi : i < len := by have := (List.getElem?_eq_some_iff.1 hz').1; omega
      rw [List.getElem?_take, if_pos hi] at hz'
      rw [hcell i (by omega)]
      simp [hz']
    · simp [lits, reachBytes] at hw
      rw [hll]; omega
theorem open_notes_cells {fuel : Nat} {v : Value} {x : DataW H × List MemPlace} (h : DataW.trod enc Try.prog W 0 (fun _ => true) true fuel 27 [v] = some x) (hz : ∀ n ∈ x.1.weights Try.prog 27, n ≤ reachBytes) :
    ∃ A n c l, v = .slice A n c ∧ n = l.length ∧ n ≤ c ∧ Rds W W.heap.size A (cellsP l) ∧ l.length ≤ 1152921504606846976 := by
  rcases open_slice_pairs Try.underlying27 Try.underlying129 (by kernel_rfl) rfl rfl (by kernel_rfl) (by kernel_rfl) h with ⟨hcs, _⟩ | ⟨ad, len, cap, m, n, V0, V1, D0, D1, P0, P1, hcs, _, hl, hm, hmm, hx, hi⟩
  · obtain rfl : v = .slice none 0 0 := by simpa using hcs
    exact ⟨none, 0, 0, [], rfl, rfl, Nat.le_refl _, Rds.nil _ _ _, by simp⟩
  · obtain rfl : v = .slice (some ad) len cap := by simpa using hcs
    have hw : (((List.range len).map fun i => (.agg [D0 i, D1 i] : DataW H)).length + ((List.range (m - len)).map fun j => (.agg [D0 (len + j), D1 (len + j)] : DataW H)).length) * Try.prog.bytesOf 129 ≤ reachBytes := by
      refine hz _ ?_
      rw [hx]
      simp [DataW.weights, Try.underlying27]
    rw [bytes_note] at hw
    have hlm : len ≤ m := by rw [hmm]; split <;> omega
    have each : ∀ i, i < len → ∃ s : Note, W.cell? (ad.add (i * 2)) = some (.int .i64 s.1) ∧ W.cell? (ad.add (i * 2 + 1)) = some (.int .i64 s.2) := fun i hil => by
      obtain ⟨c0, c1, t0, t1⟩ := hi i (by omega)
      obtain ⟨s0, e0, _, _⟩ := DataW.trod_int Try.underlying3 t0
      obtain ⟨s1, e1, _, _⟩ := DataW.trod_int Try.underlying3 t1
      simp only [List.cons.injEq, and_true] at e0 e1
      exact ⟨(s0, s1), by rw [c0, e0], by rw [c1, e1]⟩
    obtain ⟨q, hq⟩ := choose_lt each
    have hll : ((List.range len).map q).length = len := by simp
    refine ⟨_, _, _, (List.range len).map q, rfl, hll.symm, hl, fun h0 => ⟨ad, rfl, ?_, fun j u hj => ?_⟩, ?_⟩
    · rw [cellsP_len, hll] at h0
      have := (hq 0 (by omega)).1
      have := World.block_lt_of_cell? W _ this
      rwa [add_block] at this
    · rcases Nat.mod_two_eq_zero_or_one j with hp | hp
      · obtain ⟨i, rfl⟩ : ∃ i, j = i * 2 := ⟨j / 2, by omega⟩
        rw [cellsP_even, Option.map_eq_some_iff] at hj
        obtain ⟨s, hs, rfl⟩ := hj
        have hil : i < len := by have := (List.getElem?_eq_some_iff.1 hs).1; rw [hll] at this; exact this
        have e : s = q i := by rw [List.getElem?_map, List.getElem?_range hil] at hs; simpa using hs.symm
        rw [e]
        exact (hq i hil).1
      · obtain ⟨i, rfl⟩ : ∃ i, j = i * 2 + 1 := ⟨j / 2, by omega⟩
        rw [cellsP_odd, Option.map_eq_some_iff] at hj
        obtain ⟨s, hs, rfl⟩ := hj
        have hil : i < len := by have := (List.getElem?_eq_some_iff.1 hs).1; rw [hll] at this; exact this
        have e : s = q i := by rw [List.getElem?_map, List.getElem?_range hil] at hs; simpa using hs.symm
        rw [e]
        exact (hq i hil).2
    · simp [reachBytes] at hw
      rw [hll]; omega
set_option maxRecDepth 100000 in
theorem open_cells3 {f0 f1 f2 : Nat} {v0 v1 v2 : Value} {y0 y1 y2 : DataW H × List MemPlace} (t0 : DataW.trod enc Try.prog W 0 (fun _ => true) true f0 24 [v0] = some y0) (t1 : DataW.trod enc Try.prog W 0 (fun _ => true) true f1 27 [v1] = some y1) (t2 : DataW.trod enc Try.prog W 0 (fun _ => true) true f2 24 [v2] = some y2)
    (hz : ∀ n ∈ DataW.weights Try.prog 29 (.agg [y0.1, y1.1, y2.1]), n ≤ reachBytes) :
    ∃ c A n1 k1 D n2 k2 E n3 k3, v0 = .slice A n1 k1 ∧ v1 = .slice D n2 k2 ∧ v2 = .slice E n3 k3 ∧ n1 = c.V.length ∧ n2 = c.N.length ∧ n3 = c.M.length ∧ Rd W c A k1 D k2 E k3 ∧ Few c 1152921504606846976 := by
  have hw : DataW.weights Try.prog 29 (.agg [y0.1, y1.1, y2.1]) = y0.1.weights Try.prog 24 ++ (y1.1.weights Try.prog 27 ++ (y2.1.weights Try.prog 24 ++ [])) := by
    simp [DataW.weights, Try.underlying29, DataW.weightsEach]
  rw [hw] at hz
  obtain ⟨A, n1, k1, V, e0, h1, g1, r1, l1⟩ := open_ints_cells t0 (fun n hn => hz n (by simp [hn]))
  obtain ⟨D, n2, k2, N, e1, h2, g2, r2, l2⟩ := open_notes_cells t1 (fun n hn => hz n (by simp [hn]))
  obtain ⟨E, n3, k3, M, e2, h3, g3, r3, l3⟩ := open_ints_cells t2 (fun n hn => hz n (by simp [hn]))
  exact ⟨⟨V, N, M⟩, A, n1, k1, D, n2, k2, E, n3, k3, e0, e1, e2, h1, h2, h3, ⟨r1, r2, r3, by show V.length ≤ _; omega, by show N.length ≤ _; omega, by show M.length ≤ _; omega⟩, l1, l2, l3⟩
end

theorem Rds.own {w : World} {B g : Nat} {l : List Int} (h : Rds w B (some ⟨g, 0, none⟩) (cellsI l)) {k : Nat} {x : Int} (hk : l[k]? = some x) : w.cell? ⟨g, k, none⟩ = some (.int .i64 x) := by
  have hl := (List.getElem?_eq_some_iff.1 hk).1
  obtain ⟨ad, e, _, hc⟩ := h (by rw [cellsI_len]; omega)
  injection e with e
  subst e
  have := hc k (.int .i64 x) (by unfold cellsI; rw [List.getElem?_map, hk]; rfl)
  rwa [add_zero_head] at this

end Go.Proofs.Yteccgjhnifdcfaa.Tr

namespace Go.Proofs.Yteccgjhnifdcfaa.Uf
open Go.RowKit Kit Tr

theorem placeU (a m : Int) (w : World) : Calls Try.prog 65 #[.int .i64 a, .int .i64 m] w fun e w' => e = .returned (.bool (decide (0 ≤ a) && decide (a < m))) ∧ w = w' := by
  by_cases h : 0 ≤ a
  · have hd : decide (0 ≤ a) = true := decide_eq_true h
    rw [hd]
    go_enter Try.func65, Try.ntmps65
    go_wp2_with fail
    go_ret
    exact ⟨rfl, rfl⟩
  · have hd : decide (0 ≤ a) = false := decide_eq_false h
    rw [hd]
    go_enter Try.func65, Try.ntmps65
    go_wp2_with fail
    go_ret
    exact ⟨rfl, rfl⟩

set_option maxHeartbeats 2000000 in
/-- the document's order -/
theorem refLess_any (R : List Int) (A : Option Addr) (n c : Nat) (a b : Int) (w : World) (hn : n = R.length) (hr : Rds w w.heap.size A (cellsI R)) :
    Calls Try.prog 34 #[.slice A n c, .int .i64 a, .int .i64 b] w fun e w' => e = .returned (.bool (lessB R a b)) ∧ w = w' := by
  subst hn
  have H : ∀ x : Int, (0 ≤ x ∧ x < R.length) ∨ ¬ 0 ≤ x ∨ (0 ≤ x ∧ ¬ x < R.length) := fun x => by omega
  have HR : Hid (lessB R a b = if rk R a = rk R b then decide (a < b) else decide (rk R a < rk R b)) := Lib.hid rfl
  rcases H a with ha | ha | ha
  · have Hb := H b
    clear H
    obtain ⟨i, rfl⟩ := Int.eq_ofNat_of_zero_le ha.1
    have hi : i < R.length := by omega
    have ea : rk R (i : Int) = R[i] := by unfold rk; rw [if_pos ha]; simp [hi]
    have a1 : decide ((0 : Int) ≤ (i : Int)) = true := decide_eq_true ha.1
    have a2 : decide (i < R.length) = true := decide_eq_true hi
    rcases Hb with hb | hb | hb
    · obtain ⟨j, rfl⟩ := Int.eq_ofNat_of_zero_le hb.1
      have hj : j < R.length := by omega
      have eb : rk R (j : Int) = R[j] := by unfold rk; rw [if_pos hb]; simp [hj]
      have b1 : decide ((0 : Int) ≤ (j : Int)) = true := decide_eq_true hb.1
      have b2 : decide (j < R.length) = true := decide_eq_true hj
      obtain ⟨ad, e, _, c0⟩ := hr.int_at hi
      subst e
      have c1 := hr.int_some hj
      rw [ea, eb] at HR
      clear hr ea eb ha hb
      generalize R[i] = x at *
      generalize R[j] = y at *
      by_cases h : x = y
      · rw [if_pos h] at HR
        have hne : (x != y) = false := by rw [h]; simp
        clear h
        go_enter Try.func34, Try.ntmps34
        go_wp2_with fail
        go_ret
        exact ⟨by rw [HR.out]; first | rfl | simp, rfl⟩
      · rw [if_neg h] at HR
        have hne : (x != y) = true := by simpa using h
        clear h
        go_enter Try.func34, Try.ntmps34
        go_wp2_with fail
        go_ret
        exact ⟨by rw [HR.out]; first | rfl | simp, rfl⟩
    · have eb : rk R b = 0 := by unfold rk; rw [if_neg (fun k => hb k.1)]
      have b1 : decide ((0 : Int) ≤ b) = false := decide_eq_false hb
      obtain ⟨ad, e, _, c0⟩ := hr.int_at hi
      subst e
      rw [ea, eb] at HR
      clear hr ea eb ha hb
      generalize R[i] = x at *
      by_cases h : x = (0 : Int)
      · rw [if_pos h] at HR
        have hne : (x != (0 : Int)) = false := by rw [h]; simp
        clear h
        go_enter Try.func34, Try.ntmps34
        go_wp2_with fail
        go_ret
        exact ⟨by rw [HR.out]; first | rfl | simp, rfl⟩
      · rw [if_neg h] at HR
        have hne : (x != (0 : Int)) = true := by simpa using h
        clear h
        go_enter Try.func34, Try.ntmps34
        go_wp2_with fail
        go_ret
        exact ⟨by rw [HR.out]; first | rfl | simp, rfl⟩
    · have eb : rk R b = 0 := by unfold rk; rw [if_neg (fun k => hb.2 k.2)]
      have b1 : decide ((0 : Int) ≤ b) = true := decide_eq_true hb.1
      have b2 : decide (b < (R.length : Int)) = false := decide_eq_false hb.2
      obtain ⟨ad, e, _, c0⟩ := hr.int_at hi
      subst e
      rw [ea, eb] at HR
      clear hr ea eb ha hb
      generalize R[i] = x at *
      by_cases h : x = (0 : Int)
      · rw [if_pos h] at HR
        have hne : (x != (0 : Int)) = false := by rw [h]; simp
        clear h
        go_enter Try.func34, Try.ntmps34
        go_wp2_with fail
        go_ret
        exact ⟨by rw [HR.out]; first | rfl | simp, rfl⟩
      · rw [if_neg h] at HR
        have hne : (x != (0 : Int)) = true := by simpa using h
        clear h
        go_enter Try.func34, Try.ntmps34
        go_wp2_with fail
        go_ret
        exact ⟨by rw [HR.out]; first | rfl | simp, rfl⟩
  · have Hb := H b
    clear H
    have ea : rk R a = 0 := by unfold rk; rw [if_neg (fun k => ha k.1)]
    have a1 : decide ((0 : Int) ≤ a) = false := decide_eq_false ha
    rcases Hb with hb | hb | hb
    · obtain ⟨j, rfl⟩ := Int.eq_ofNat_of_zero_le hb.1
      have hj : j < R.length := by omega
      have eb : rk R (j : Int) = R[j] := by unfold rk; rw [if_pos hb]; simp [hj]
      have b1 : decide ((0 : Int) ≤ (j : Int)) = true := decide_eq_true hb.1
      have b2 : decide (j < R.length) = true := decide_eq_true hj
      obtain ⟨ad, e, _, c1⟩ := hr.int_at hj
      subst e
      rw [ea, eb] at HR
      clear hr ea eb ha hb
      generalize R[j] = y at *
      by_cases h : (0 : Int) = y
      · rw [if_pos h] at HR
        have hne : ((0 : Int) != y) = false := by rw [h]; simp
        clear h
        go_enter Try.func34, Try.ntmps34
        go_wp2_with fail
        go_ret
        exact ⟨by rw [HR.out]; first | rfl | simp, rfl⟩
      · rw [if_neg h] at HR
        have hne : ((0 : Int) != y) = true := by simpa using h
        clear h
        go_enter Try.func34, Try.ntmps34
        go_wp2_with fail
        go_ret
        exact ⟨by rw [HR.out]; first | rfl | simp, rfl⟩
    · have eb : rk R b = 0 := by unfold rk; rw [if_neg (fun k => hb k.1)]
      have b1 : decide ((0 : Int) ≤ b) = false := decide_eq_false hb
      rw [ea, eb] at HR
      clear hr ea eb ha hb
      rw [if_pos rfl] at HR
      go_enter Try.func34, Try.ntmps34
      go_wp2_with fail
      go_ret
      exact ⟨by rw [HR.out]; first | rfl | simp, rfl⟩
    · have eb : rk R b = 0 := by unfold rk; rw [if_neg (fun k => hb.2 k.2)]
      have b1 : decide ((0 : Int) ≤ b) = true := decide_eq_true hb.1
      have b2 : decide (b < (R.length : Int)) = false := decide_eq_false hb.2
      rw [ea, eb] at HR
      clear hr ea eb ha hb
      rw [if_pos rfl] at HR
      go_enter Try.func34, Try.ntmps34
      go_wp2_with fail
      go_ret
      exact ⟨by rw [HR.out]; first | rfl | simp, rfl⟩
  · have Hb := H b
    clear H
    have ea : rk R a = 0 := by unfold rk; rw [if_neg (fun k => ha.2 k.2)]
    have a1 : decide ((0 : Int) ≤ a) = true := decide_eq_true ha.1
    have a2 : decide (a < (R.length : Int)) = false := decide_eq_false ha.2
    rcases Hb with hb | hb | hb
    · obtain ⟨j, rfl⟩ := Int.eq_ofNat_of_zero_le hb.1
      have hj : j < R.length := by omega
      have eb : rk R (j : Int) = R[j] := by unfold rk; rw [if_pos hb]; simp [hj]
      have b1 : decide ((0 : Int) ≤ (j : Int)) = true := decide_eq_true hb.1
      have b2 : decide (j < R.length) = true := decide_eq_true hj
      obtain ⟨ad, e, _, c1⟩ := hr.int_at hj
      subst e
      rw [ea, eb] at HR
      clear hr ea eb ha hb
      generalize R[j] = y at *
      by_cases h : (0 : Int) = y
      · rw [if_pos h] at HR
        have hne : ((0 : Int) != y) = false := by rw [h]; simp
        clear h
        go_enter Try.func34, Try.ntmps34
        go_wp2_with fail
        go_ret
        exact ⟨by rw [HR.out]; first | rfl | simp, rfl⟩
      · rw [if_neg h] at HR
        have hne : ((0 : Int) != y) = true := by simpa using h
        clear h
        go_enter Try.func34, Try.ntmps34
        go_wp2_with fail
        go_ret
        exact ⟨by rw [HR.out]; first | rfl | simp, rfl⟩
    · have eb : rk R b = 0 := by unfold rk; rw [if_neg (fun k => hb k.1)]
      have b1 : decide ((0 : Int) ≤ b) = false := decide_eq_false hb
      rw [ea, eb] at HR
      clear hr ea eb ha hb
      rw [if_pos rfl] at HR
      go_enter Try.func34, Try.ntmps34
      go_wp2_with fail
      go_ret
      exact ⟨by rw [HR.out]; first | rfl | simp, rfl⟩
    · have eb : rk R b = 0 := by unfold rk; rw [if_neg (fun k => hb.2 k.2)]
      have b1 : decide ((0 : Int) ≤ b) = true := decide_eq_true hb.1
      have b2 : decide (b < (R.length : Int)) = false := decide_eq_false hb.2
      rw [ea, eb] at HR
      clear hr ea eb ha hb
      rw [if_pos rfl] at HR
      go_enter Try.func34, Try.ntmps34
      go_wp2_with fail
      go_ret
      exact ⟨by rw [HR.out]; first | rfl | simp, rfl⟩

theorem upU (V : List Int) (A : Option Addr) (n c m : Nat) (w : World) (hn : n = V.length) (hr : Rds w w.heap.size A (cellsI V)) (hm : m < V.length) (p : Nat) (hp : V[m]? = some (p : Int)) (hpl : p < V.length) :
    Calls Try.prog 51 #[.slice A n c, .int .i64 (m : Int)] w fun e w' => e = .returned (.int .i64 (p : Int)) ∧ w = w' := by
  subst hn
  obtain ⟨ad, rfl, _, c0⟩ := hr.int_at hm
  obtain ⟨_, hp'⟩ := List.getElem?_eq_some_iff.1 hp
  rw [hp'] at c0
  have h0 : (0 : Int) ≤ (m : Int) := by omega
  have h1 : (m : Int) < (V.length : Int) := by omega
  have hd : (decide (0 ≤ (m : Int)) && decide ((m : Int) < (V.length : Int))) = true := by rw [decide_eq_true h0, decide_eq_true h1]; rfl
  have hd2 : (decide (0 ≤ (p : Int)) && decide ((p : Int) < (V.length : Int))) = true := by rw [decide_eq_true (show (0 : Int) ≤ (p : Int) by omega), decide_eq_true (show (p : Int) < (V.length : Int) by omega)]; rfl
  clear hr hp hp'
  go_enter Try.func51, Try.ntmps51
  go_wp2_with (go_at_call 65; refine (placeU _ _ _).mono ?_; rintro e w2 ⟨rfl, rfl⟩; first | rw [hd] | rw [hd2])
  go_ret
  exact ⟨rfl, rfl⟩
end Go.Proofs.Yteccgjhnifdcfaa.Uf

namespace Go.Proofs.Yteccgjhnifdcfaa.Uf
open Go.RowKit Kit Tr

set_option maxRecDepth 100000 in
set_option maxHeartbeats 1000000 in
theorem find_any (R : List Int) (c : Cells) (m : Nat) (A D E : Option Addr) (n1 k1 n2 k2 n3 k3 : Nat) (w : World) (h1 : n1 = c.V.length) (h2 : n2 = c.N.length) (h3 : n3 = c.M.length) (h : Rd w c A k1 D k2 E k3) (hC : Cl R c.V) (hm : m < c.V.length) (hl : c.V.length ≤ 1000000) :
    Calls Try.prog 25 #[.agg #[.slice A n1 k1, .slice D n2 k2, .slice E n3 k3], .int .i64 (m : Int)] w fun e w' => e = .returned (.int .i64 (fst c.V m : Int)) ∧ Q w w' := by
  subst h1 h2 h3
  have q0 := (Q.refl w).alloc (Obj.cells #[Value.slice A c.V.length k1, Value.slice D c.N.length k2, Value.slice E c.M.length k3] 29)
  have HB := Lib.hid (Box3.new w (Value.slice A c.V.length k1) (Value.slice D c.N.length k2) (Value.slice E c.M.length k3) 29)
  have HR := Lib.hid (h.q q0)
  have HC := Lib.hid hC
  have HF : Hid (root c.V (c.V.length - 0) m = fst c.V m) := rfl
  clear h hC
  go_enter Try.func25, Try.ntmps25
  go_upto_region 1 with fail
  generalize w.alloc (Obj.cells #[Value.slice A c.V.length k1, Value.slice D c.N.length k2, Value.slice E c.M.length k3] 29) = W0 at *
  have b0 := HB.out.c0
  go_wp2_with fail
  go_loopw [1, 9] (fun x i wr => ∃ (k y : Nat), k ≤ c.V.length ∧ y < c.V.length ∧ i = .int .i64 k ∧ x = .int .i64 (y : Int) ∧ Hid (root c.V (c.V.length - k) y = fst c.V m) ∧ W0 = wr) (fun _ i _ => c.V.length - (intOf i).toNat)
  case atStart => exact ⟨0, m, Nat.zero_le _, hm, rfl, rfl, HF, rfl⟩
  case round =>
    clear HF
    obtain ⟨k, y, hk, hy, rfl, rfl, HH, rfl⟩ := hrel
    by_cases hlt : k < c.V.length
    · obtain ⟨p1, p2, _⟩ := HC.out.parent hy
      have C := Lib.hid (upU c.V A _ k1 y W0 rfl HR.out.v hy _ p2 p1)
      by_cases e : par c.V y = y
      · have HF : Hid (fst c.V m = y) := by have := HH.out; rw [root_stay e] at this; exact this.symm
        rw [e] at C
        clear p1 p2 e
        go_wp2_with (go_at_call 51; refine C.out.mono ?_; rintro e w2 ⟨rfl, rfl⟩)
        go_ret
        exact ⟨by rw [HF.out]; rfl, q0⟩
      · have HF : Hid (root c.V (c.V.length - (k + 1)) (par c.V y) = fst c.V m) := by
          have := HH.out
          rw [show c.V.length - k = (c.V.length - (k + 1)) + 1 by omega] at this
          unfold root at this
          rw [if_neg e] at this
          exact this
        have e1 : ((par c.V y : Int) == (y : Int)) = false := beq_eq_false_iff_ne.2 (by omega)
        have e2 : (par c.V y == y) = false := by simpa using e
        clear p2 e
        go_wp2_with (go_at_call 51; refine C.out.mono ?_; rintro e w2 ⟨rfl, rfl⟩)
        go_roundw
        case rel => exact ⟨k + 1, par c.V y, by omega, p1, by go_num, rfl, HF, trivial⟩
        case measure => simp [intOf]; omega
    · have HF : Hid (y = fst c.V m) := by
        have := HH.out
        rw [show c.V.length - k = 0 by omega] at this
        exact this
      go_wp2_with fail
      go_ret
      exact ⟨by rw [← HF.out]; rfl, q0⟩

set_option maxRecDepth 100000 in
set_option maxHeartbeats 2000000 in
theorem right5_any (R : List Int) (c : Cells) (A D E F : Option Addr) (n1 k1 n2 k2 n3 k3 n4 k4 : Nat) (w : World) (h1 : n1 = c.V.length) (h2 : n2 = c.N.length) (h3 : n3 = c.M.length) (h4 : n4 = R.length) (h : Rd w c A k1 D k2 E k3) (hR : Rds w w.heap.size F (cellsI R)) (hf : Few c 1000000) :
    Calls Try.prog 48 #[.agg #[.slice A n1 k1, .slice D n2 k2, .slice E n3 k3], .slice F n4 k4] w fun e w' => e = .returned (.bool (clB R c.V && rightB c)) ∧ Q w w' := by
  subst h1 h2 h3 h4
  have Hf := Lib.hid hf
  obtain ⟨fv, fn, fm⟩ := hf
  have q0 := (Q.refl w).alloc (Obj.cells #[Value.slice A c.V.length k1, Value.slice D c.N.length k2, Value.slice E c.M.length k3] 29)
  have HB := Lib.hid (Box3.new w (Value.slice A c.V.length k1) (Value.slice D c.N.length k2) (Value.slice E c.M.length k3) 29)
  have HR := Lib.hid (h.q q0)
  have HRk := Lib.hid (hR.q q0)
  clear h hR
  go_enter Try.func48, Try.ntmps48
  go_wp2_with fail
  generalize w.alloc (Obj.cells #[Value.slice A c.V.length k1, Value.slice D c.N.length k2, Value.slice E c.M.length k3] 29) = W0 at *
  have b0 := HB.out.c0
  have b1 := HB.out.c1
  have b2 := HB.out.c2
  go_loopw [5] (fun i wr => ∃ k : Nat, k ≤ c.V.length ∧ i = .int .i64 k ∧ Hid (∀ n, n < k → okB R c.V n = true) ∧ W0 = wr) (fun i _ => c.V.length - (intOf i).toNat)
  case atStart => exact ⟨0, Nat.zero_le _, rfl, Lib.hid (fun n hn => absurd hn (by omega)), rfl⟩
  case round =>
    obtain ⟨k, hk, rfl, HH, rfl⟩ := hrel
    by_cases hlt : k < c.V.length
    · obtain ⟨ad, e, hb, c0⟩ := HR.out.v.int_at hlt
      have HE := Lib.hid e
      clear e
      have hget : c.V.getD k 0 = c.V[k] := by rw [List.getD_eq_getElem?_getD, List.getElem?_eq_getElem hlt]; rfl
      have HO : Hid (okB R c.V k = ((c.V[k] == (k : Int)) || (decide (0 ≤ c.V[k]) && decide (c.V[k] < c.V.length) && lessB R c.V[k] k))) := by unfold Hid okB; rw [hget]
      clear hget
      have HN : Hid (okB R c.V k = true → ∀ n, n < k + 1 → okB R c.V n = true) := fun hk n hn => by
        by_cases e : n = k
        · subst e; exact hk
        · exact HH.out n (by omega)
      have HZ : Hid (okB R c.V k = false → clB R c.V = false) := fun hk => decide_eq_false (fun h => by have := h k hlt; rw [hk] at this; cases this)
      have b0' : W0.cell? ⟨w.heap.size, 0, none⟩ = some (.slice (some ad) c.V.length k1) := by rw [← HE.out]; exact b0
      generalize c.V[k] = x at *
      by_cases x1 : x = (k : Int)
      · have HK := HN.out (by rw [HO.out, x1]; simp)
        have d1 : (x == (k : Int)) = true := by simpa using x1
        have HK := Lib.hid HK
        clear x1 b0
        go_wp2_with fail
        go_roundw
        case rel => exact ⟨k + 1, by omega, by go_num, HK, trivial⟩
        case measure => simp [intOf]; omega
      · have d1 : (x == (k : Int)) = false := by simpa using x1
        have HO : Hid (okB R c.V k = (decide (0 ≤ x) && decide (x < c.V.length) && lessB R x k)) := by have := HO.out; rw [d1, Bool.false_or] at this; exact this
        clear x1
        by_cases x2 : x < 0
        · have HF := Lib.hid (HZ.out (by rw [HO.out, decide_eq_false (by omega)]; rfl))
          have d2 : decide (x < 0) = true := decide_eq_true x2
          clear x2 b0
          go_wp2_with fail
          go_ret
          exact ⟨by rw [HF.out]; rfl, q0⟩
        · have d2 : decide (x < 0) = false := decide_eq_false x2
          by_cases x3 : (c.V.length : Int) ≤ x
          · have HF := Lib.hid (HZ.out (by rw [HO.out, decide_eq_false (show ¬ x < (c.V.length : Int) by omega), Bool.and_false]; rfl))
            have d3 : decide ((c.V.length : Int) ≤ x) = true := decide_eq_true x3
            clear x2 x3 b0
            go_wp2_with fail
            go_ret
            exact ⟨by rw [HF.out]; rfl, q0⟩
          · have d3 : decide ((c.V.length : Int) ≤ x) = false := decide_eq_false x3
            have C := Lib.hid (refLess_any R F _ k4 x k W0 rfl HRk.out)
            cases hls : lessB R x k
            · have HF := Lib.hid (HZ.out (by rw [HO.out, hls, Bool.and_false]))
              rw [hls] at C
              clear x2 x3 b0 hls
              go_wp2_with (go_at_call 34; refine C.out.mono ?_; rintro e w2 ⟨rfl, rfl⟩)
              go_ret
              exact ⟨by rw [HF.out]; rfl, q0⟩
            · have HK := Lib.hid (HN.out (by rw [HO.out, hls, decide_eq_true (show (0 : Int) ≤ x by omega), decide_eq_true (show x < (c.V.length : Int) by omega)]; rfl))
              rw [hls] at C
              clear x2 x3 b0 hls
              go_wp2_with (go_at_call 34; refine C.out.mono ?_; rintro e w2 ⟨rfl, rfl⟩)
              go_roundw
              case rel => exact ⟨k + 1, by omega, by go_num, HK, trivial⟩
              case measure => simp [intOf]; omega
    · have HT : Hid (clB R c.V = true) := decide_eq_true (fun n hn => HH.out n (by omega))
      have C := Lib.hid (refRight_any c A D E _ k1 _ k2 _ k3 W0 rfl rfl rfl HR.out Hf.out)
      go_wp2_with (go_at_call 64; refine C.out.mono ?_; rintro e w2 ⟨rfl, q2⟩)
      go_ret
      exact ⟨by rw [HT.out]; rfl, q0.trans q2⟩
end Go.Proofs.Yteccgjhnifdcfaa.Uf

namespace Go.Proofs.Yteccgjhnifdcfaa.Ig
open Go.RowKit Kit Tr Uf
open Go.Proofs.Yteccgjhnifdcfaa.Hs (Keys Ints atI refAt_any)
theorem root_next {V : List Int} {j y : Nat} : root V (j + 1) y = root V j (par V y) := by
  show (if par V y = y then y else root V j (par V y)) = _
  by_cases e : par V y = y
  · rw [if_pos e, e, root_stay e]
  · rw [if_neg e]

set_option maxRecDepth 100000 in
set_option maxHeartbeats 1000000 in
theorem refFind_any (R V : List Int) (m : Nat) (A : Option Addr) (n1 k1 : Nat) (b d : Value) (w : World) (h1 : n1 = V.length) (h : Tr.Rds w w.heap.size A (cellsI V)) (hC : Cl R V) (hm : m < V.length) (hl : V.length ≤ 1000000) :
    Calls Try.prog 10 #[.agg #[.slice A n1 k1, b, d], .int .i64 (m : Int)] w fun e w' => e = .returned (.int .i64 (fst V m : Int)) ∧ Q w w' := by
  subst h1
  have q0 := (Q.refl w).alloc (Obj.cells #[Value.slice A V.length k1, b, d] 29)
  have HB := Lib.hid (Box3.new w (Value.slice A V.length k1) b d 29)
  have HR := Lib.hid (h.q q0)
  have HC := Lib.hid hC
  have HF : Hid (root V (V.length - 0) m = fst V m) := rfl
  clear h hC
  go_enter Try.func10, Try.ntmps10
  go_wp2_with fail
  generalize w.alloc (Obj.cells #[Value.slice A V.length k1, b, d] 29) = W0 at *
  have b0 := HB.out.c0
  go_loopw [1, 5] (fun x i wr => ∃ (k y : Nat), k ≤ V.length ∧ y < V.length ∧ i = .int .i64 k ∧ x = .int .i64 (y : Int) ∧ Hid (root V (V.length - k) y = fst V m) ∧ W0 = wr) (fun _ i _ => V.length - (intOf i).toNat)
  case atStart => exact ⟨0, m, Nat.zero_le _, hm, rfl, rfl, HF, rfl⟩
  case round =>
    clear HF
    obtain ⟨k, y, hk, hy, rfl, rfl, HH, rfl⟩ := hrel
    by_cases hlt : k < V.length
    · obtain ⟨p1, p2, _⟩ := HC.out.parent hy
      obtain ⟨ad, e, hb, c0⟩ := HR.out.int_at hy
      rw [HC.out.at hy] at c0
      have HF : Hid (root V (V.length - (k + 1)) (par V y) = fst V m) := by
        have := HH.out
        rw [show V.length - k = (V.length - (k + 1)) + 1 by omega, root_next] at this
        exact this
      have b0' : W0.cell? ⟨w.heap.size, 0, none⟩ = some (.slice (some ad) V.length k1) := by rw [← e]; exact b0
      clear p2 b0 e
      go_wp2_with fail
      go_roundw
      case rel => exact ⟨k + 1, par V y, by omega, p1, by go_num, rfl, HF, trivial⟩
      case measure => simp [intOf]; omega
    · have HF : Hid (y = fst V m) := by
        have := HH.out
        rw [show V.length - k = 0 by omega] at this
        exact this
      go_wp2_with fail
      go_ret
      exact ⟨by rw [← HF.out]; rfl, q0⟩
end Go.Proofs.Yteccgjhnifdcfaa.Ig

namespace Go.Proofs.Yteccgjhnifdcfaa.Ig
open Go.RowKit Kit Tr Uf
open Go.Proofs.Yteccgjhnifdcfaa.Hs (Keys Ints atI refAt_any BoxT)
open Go.Proofs.Yteccgjhnifdcfaa.Tm (Tm termAt refOf_any Box4)
/-- the place of a variable's term -/
def atV (ks : List (List Int)) (n : Int) : Int := atI ks [2, n, 0]
/-- a term's variable, if it is one of the first m -/
def numV (ks : List (List Int)) (m : Nat) (id : Int) : Int :=
  let t := (termAt ks id).getD Tm.none
  if (termAt ks id).isSome = true ∧ t.k = 2 ∧ t.s < (m : Int) then t.s else -1
/-- the one for a term -/
def repV (ks : List (List Int)) (V : List Int) (id : Int) : Int :=
  if numV ks V.length id < 0 then id else atV ks (fst V (numV ks V.length id).toNat : Int)

theorem key_ints (w : World) (x : Int) (t : TypeId) : Ints (w.alloc (.cells #[.int .i64 2, .int .i64 x, .int .i64 0] t)) (w.alloc (.cells #[.int .i64 2, .int .i64 x, .int .i64 0] t)).heap.size (some ⟨w.heap.size, 0, none⟩) [2, x, 0] := fun _ => by
  refine ⟨_, rfl, by simp, fun i y h => ?_⟩
  match i, h with
  | 0, h => simp at h; subst h; simp [Addr.add]
  | 1, h => simp at h; subst h; simp [Addr.add]
  | 2, h => simp at h; subst h; simp [Addr.add]
  | i + 3, h => simp at h

set_option maxRecDepth 100000 in
set_option maxHeartbeats 1000000 in
theorem refAtV_any (A : Option Addr) (n c : Nat) (b : Value) (ks : List (List Int)) (x : Int) (w : World) (hn : n = ks.length) (hk : Keys w w.heap.size A ks) (hl : ks.length ≤ maxLen) (hs : ∀ k ∈ ks, k.length ≤ maxLen) :
    Calls Try.prog 14 #[.agg #[.slice A n c, b], .int .i64 x] w fun e w' => e = .returned (.int .i64 (atV ks x)) ∧ Q w w' := by
  subst hn
  have q0 := (Q.refl w).alloc (Obj.cells #[Value.slice A ks.length c, b] 26)
  have HB := Lib.hid (BoxT.new w (Value.slice A ks.length c) b 26)
  have Hk := Lib.hid ((hk.q (Nat.le_refl _) q0).more q0.size)
  clear hk
  go_enter Try.func14, Try.ntmps14
  go_upto_region 1 with fail
  generalize w.alloc (Obj.cells #[Value.slice A ks.length c, b] 26) = W0 at *
  have b0 := HB.out.c0
  have q1 := (Q.refl W0).alloc (Obj.cells #[.int .i64 2, .int .i64 x, .int .i64 0] 3)
  have C := Lib.hid (refAt_any A (some ⟨W0.heap.size, 0, none⟩) _ c 3 3 ks [2, x, 0] (W0.alloc (Obj.cells #[.int .i64 2, .int .i64 x, .int .i64 0] 3)) rfl rfl ((Hk.out.q (Nat.le_refl _) q1).more q1.size) (key_ints W0 x 3) hl hs)
  go_wp2_with (go_at_call 38; refine C.out.mono ?_; rintro e w2 ⟨rfl, hd⟩)
  go_ret
  exact ⟨rfl, (q0.trans q1).trans (q_drewN _ hd)⟩
end Go.Proofs.Yteccgjhnifdcfaa.Ig

namespace Go.Proofs.Yteccgjhnifdcfaa.Ig
open Go.RowKit Kit Tr Uf
open Go.Proofs.Yteccgjhnifdcfaa.Hs (Keys Ints atI refAt_any BoxT)
open Go.Proofs.Yteccgjhnifdcfaa.Tm (Tm termAt refOf_any Box4)
/-- a graph's box -/
structure Box6 (W : World) (B : Nat) (a b c d e f : Value) : Prop where
  c0 : W.cell? ⟨B, 0, none⟩ = some a
  c1 : W.cell? ⟨B, 1, none⟩ = some b
  c2 : W.cell? ⟨B, 2, none⟩ = some c
  c3 : W.cell? ⟨B, 3, none⟩ = some d
  c4 : W.cell? ⟨B, 4, none⟩ = some e
  c5 : W.cell? ⟨B, 5, none⟩ = some f
  lt : B < W.heap.size
theorem Box6.q {W W' : World} {B : Nat} {a b c d e f : Value} (h : Box6 W B a b c d e f) (q : Q W W') : Box6 W' B a b c d e f :=
  ⟨(q.cell (p := ⟨B, 0, none⟩) h.lt).trans h.c0, (q.cell (p := ⟨B, 1, none⟩) h.lt).trans h.c1, (q.cell (p := ⟨B, 2, none⟩) h.lt).trans h.c2, (q.cell (p := ⟨B, 3, none⟩) h.lt).trans h.c3, (q.cell (p := ⟨B, 4, none⟩) h.lt).trans h.c4, (q.cell (p := ⟨B, 5, none⟩) h.lt).trans h.c5, Nat.lt_of_lt_of_le h.lt q.size⟩
theorem Box6.new (w : World) (a b c d e f : Value) (t : TypeId) : Box6 (w.alloc (.cells #[a, b, c, d, e, f] t)) w.heap.size a b c d e f := ⟨by simp, by simp, by simp, by simp, by simp, by simp, by simp⟩

set_option maxRecDepth 100000 in
set_option maxHeartbeats 2000000 in
theorem refNumber_any (A S Av : Option Addr) (n c m d nv cv : Nat) (r b1 b2 b3 b4 : Value) (ks : List (List Int)) (id : Int) (w : World) (hn : n = ks.length) (hk : Keys w w.heap.size A ks) :
    Calls Try.prog 33 #[.agg #[.slice A n c, .slice S m d], .agg #[r, .slice Av nv cv, b1, b2, b3, b4], .int .i64 id] w fun e w' => e = .returned (.int .i64 (numV ks nv id)) ∧ Q w w' := by
  subst hn
  have q0 := ((Q.refl w).alloc (Obj.cells #[Value.slice A ks.length c, Value.slice S m d] 26)).alloc (Obj.cells #[r, Value.slice Av nv cv, b1, b2, b3, b4] 31)
  have HB := Lib.hid ((BoxT.new w (Value.slice A ks.length c) (Value.slice S m d) 26).q ((Q.refl _).alloc (Obj.cells #[r, Value.slice Av nv cv, b1, b2, b3, b4] 31)))
  have X := Box6.new (w.alloc (Obj.cells #[Value.slice A ks.length c, Value.slice S m d] 26)) r (Value.slice Av nv cv) b1 b2 b3 b4 31
  rw [World.size_alloc] at X
  have HG := Lib.hid X
  have Hk := Lib.hid ((hk.q (Nat.le_refl _) q0).more q0.size)
  have HN : Hid (numV ks nv id = if (termAt ks id).isSome = true ∧ ((termAt ks id).getD Tm.none).k = 2 ∧ ((termAt ks id).getD Tm.none).s < (nv : Int) then ((termAt ks id).getD Tm.none).s else -1) := rfl
  clear hk X
  go_enter Try.func33, Try.ntmps33
  go_upto_region 1 with fail
  generalize (w.alloc (Obj.cells #[Value.slice A ks.length c, Value.slice S m d] 26)).alloc (Obj.cells #[r, Value.slice Av nv cv, b1, b2, b3, b4] 31) = W0 at *
  have b0 := HB.out.c0
  have b1' := HB.out.c1
  have C := Lib.hid (refOf_any A S _ c m d ks id W0 rfl Hk.out)
  go_upto_region 2 with (go_at_call 46; refine C.out.mono ?_; rintro e w2 ⟨At, nt, ct, rfl, rfl, _, q1⟩)
  generalize (termAt ks id).isSome = is at *
  generalize (termAt ks id).getD Tm.none = t at *
  have qt := q1.alloc (Obj.cells #[.int .i64 t.k, .int .i64 t.s, .int .i64 t.p, .slice At t.xs.length ct] 88)
  have g1 := (HG.out.q qt).c1
  have X := Box4.new w2 (.int .i64 t.k) (.int .i64 t.s) (.int .i64 t.p) (.slice At t.xs.length ct) 88
  have x0 := X.c0
  have HQt := Lib.hid qt
  have x1 := X.c1
  clear X C b0 b1' q1
  cases is
  · have HF : Hid (numV ks nv id = -1) := by unfold Hid; rw [HN.out, if_neg (fun h => by cases h.1)]
    go_wp2_with fail
    go_ret
    exact ⟨by rw [HF.out]; rfl, q0.trans qt⟩
  · by_cases h2 : t.k = 2
    · have e2 : (t.k != 2) = false := by simp [h2]
      by_cases hs : t.s < (nv : Int)
      · have d1 : decide ((nv : Int) ≤ t.s) = false := decide_eq_false (by omega)
        have HF : Hid (numV ks nv id = t.s) := by unfold Hid; rw [HN.out, if_pos ⟨rfl, h2, hs⟩]
        clear h2 hs
        go_wp2_with fail
        go_ret
        exact ⟨by rw [HF.out]; rfl, q0.trans qt⟩
      · have d1 : decide ((nv : Int) ≤ t.s) = true := decide_eq_true (by omega)
        have HF : Hid (numV ks nv id = -1) := by unfold Hid; rw [HN.out, if_neg (fun h => hs h.2.2)]
        clear h2 hs
        go_wp2_with fail
        go_ret
        exact ⟨by rw [HF.out]; rfl, q0.trans qt⟩
    · have e2 : (t.k != 2) = true := by simpa using h2
      have HF : Hid (numV ks nv id = -1) := by unfold Hid; rw [HN.out, if_neg (fun h => h2 h.2.1)]
      clear h2
      go_wp2_with fail
      go_ret
      exact ⟨by rw [HF.out]; rfl, q0.trans qt⟩

theorem numV_lt {ks : List (List Int)} {m : Nat} {id : Int} (h : ¬ numV ks m id < 0) : (numV ks m id).toNat < m := by
  have e : numV ks m id = if (termAt ks id).isSome = true ∧ ((termAt ks id).getD Tm.none).k = 2 ∧ ((termAt ks id).getD Tm.none).s < (m : Int) then ((termAt ks id).getD Tm.none).s else -1 := rfl
  by_cases c : (termAt ks id).isSome = true ∧ ((termAt ks id).getD Tm.none).k = 2 ∧ ((termAt ks id).getD Tm.none).s < (m : Int)
  · rw [if_pos c] at e
    rw [e] at h ⊢
    have := c.2.2
    omega
  · rw [if_neg c] at e
    omega

set_option maxRecDepth 100000 in
set_option maxHeartbeats 2000000 in
theorem refRep_any (R V : List Int) (A S Av : Option Addr) (n c m d nv cv : Nat) (r b1 b2 b3 b4 : Value) (ks : List (List Int)) (id : Int) (w : World) (hn : n = ks.length) (hk : Keys w w.heap.size A ks) (hl : ks.length ≤ maxLen) (hs : ∀ k ∈ ks, k.length ≤ maxLen)
    (hnv : nv = V.length) (hv : Tr.Rds w w.heap.size Av (cellsI V)) (hC : Cl R V) (hlv : V.length ≤ 1000000) :
    Calls Try.prog 32 #[.agg #[.slice A n c, .slice S m d], .agg #[r, .slice Av nv cv, b1, b2, b3, b4], .int .i64 id] w fun e w' => e = .returned (.int .i64 (repV ks V id)) ∧ Q w w' := by
  subst hn
  subst hnv
  have q0 := ((Q.refl w).alloc (Obj.cells #[Value.slice A ks.length c, Value.slice S m d] 26)).alloc (Obj.cells #[r, Value.slice Av V.length cv, b1, b2, b3, b4] 31)
  have HB := Lib.hid ((BoxT.new w (Value.slice A ks.length c) (Value.slice S m d) 26).q ((Q.refl _).alloc (Obj.cells #[r, Value.slice Av V.length cv, b1, b2, b3, b4] 31)))
  have X := Box6.new (w.alloc (Obj.cells #[Value.slice A ks.length c, Value.slice S m d] 26)) r (Value.slice Av V.length cv) b1 b2 b3 b4 31
  rw [World.size_alloc] at X
  have HG := Lib.hid X
  have Hk := Lib.hid ((hk.q (Nat.le_refl _) q0).more q0.size)
  have Hv := Lib.hid (hv.q q0)
  have HP : Hid (repV ks V id = if numV ks V.length id < 0 then id else atV ks (fst V (numV ks V.length id).toNat : Int)) := rfl
  have HL := fun h => numV_lt (ks := ks) (m := V.length) (id := id) h
  clear hk hv X
  go_enter Try.func32, Try.ntmps32
  go_upto_region 1 with fail
  generalize (w.alloc (Obj.cells #[Value.slice A ks.length c, Value.slice S m d] 26)).alloc (Obj.cells #[r, Value.slice Av V.length cv, b1, b2, b3, b4] 31) = W0 at *
  have b0 := HB.out.c0
  have b1' := HB.out.c1
  have g0 := HG.out.c0
  have g1 := HG.out.c1
  have g2 := HG.out.c2
  have g3 := HG.out.c3
  have g4 := HG.out.c4
  have g5 := HG.out.c5
  have C := Lib.hid (refNumber_any A S Av _ c m d V.length cv r b1 b2 b3 b4 ks id W0 rfl Hk.out)
  go_upto_region 2 with (go_at_call 33; refine C.out.mono ?_; rintro e w2 ⟨rfl, q1⟩)
  generalize numV ks V.length id = x at *
  clear b0 b1' g0 g1 g2 g3 g4 g5 C
  by_cases hx : x < 0
  · have d0 : decide (x < 0) = true := decide_eq_true hx
    have HF : Hid (repV ks V id = id) := by unfold Hid; rw [HP.out, if_pos hx]
    clear hx HL
    go_wp2_with fail
    go_ret
    exact ⟨by rw [HF.out]; rfl, q0.trans q1⟩
  · have d0 : decide (x < 0) = false := decide_eq_false hx
    have HF : Hid (repV ks V id = atV ks (fst V x.toNat : Int)) := by unfold Hid; rw [HP.out, if_neg hx]
    have hm := HL (by omega)
    obtain ⟨y, rfl⟩ : ∃ y : Nat, x = (y : Int) := ⟨x.toNat, by omega⟩
    rw [Int.toNat_natCast] at HF hm
    have HBq := Lib.hid (HB.out.q q1)
    have HGq := Lib.hid (HG.out.q q1)
    have Hkq := Lib.hid ((Hk.out.q (Nat.le_refl _) q1).more q1.size)
    have Hvq := Lib.hid (Hv.out.q q1)
    have b0 := HBq.out.c0
    have b1' := HBq.out.c1
    have g1 := HGq.out.c1
    have g2 := HGq.out.c2
    have g3 := HGq.out.c3
    have l0 := HBq.out.lt
    have l1 := HGq.out.lt
    have CF : Hid (∀ W, Q w2 W → Calls Try.prog 10 #[.agg #[.slice Av V.length cv, b1, b2], .int .i64 (y : Int)] W fun e W' => e = .returned (.int .i64 (fst V y : Int)) ∧ Q W W') := fun W q => refFind_any R V y Av V.length cv b1 b2 W rfl (Hvq.out.q q) hC hm hlv
    have CA : Hid (∀ W, Q w2 W → Calls Try.prog 14 #[.agg #[.slice A ks.length c, .slice S m d], .int .i64 (fst V y : Int)] W fun e W' => e = .returned (.int .i64 (atV ks (fst V y : Int))) ∧ Q W W') := fun W q => refAtV_any A _ c (.slice S m d) ks _ W rfl ((Hkq.out.q (Nat.le_refl _) q).more q.size) hl hs
    clear hx HL hm hl hs hC hlv
    go_upto_region 4 with fail
    go_region_held3 (fun w' => w'.cell? ⟨w.heap.size, 0, none⟩ = some (.slice A ks.length c) ∧ w'.cell? ⟨w.heap.size, 1, none⟩ = some (.slice S m d) ∧ w'.cell? ⟨w.heap.size + 1, 1, none⟩ = some (.slice Av V.length cv) ∧ w'.cell? ⟨w.heap.size + 1, 2, none⟩ = some b1 ∧ w'.cell? ⟨w.heap.size + 1, 3, none⟩ = some b2)
      (first
        | go_keep
        | exact ⟨(p3.cell (p := ⟨w.heap.size, 0, none⟩) l0).trans b0, (p3.cell (p := ⟨w.heap.size, 1, none⟩) l0).trans b1', (p3.cell (p := ⟨w.heap.size + 1, 1, none⟩) l1).trans g1, (p3.cell (p := ⟨w.heap.size + 1, 2, none⟩) l1).trans g2, (p3.cell (p := ⟨w.heap.size + 1, 3, none⟩) l1).trans g3⟩
        | exact ⟨(p2.cell (p := ⟨w.heap.size, 0, none⟩) l0).trans b0, (p2.cell (p := ⟨w.heap.size, 1, none⟩) l0).trans b1', (p2.cell (p := ⟨w.heap.size + 1, 1, none⟩) l1).trans g1, (p2.cell (p := ⟨w.heap.size + 1, 2, none⟩) l1).trans g2, (p2.cell (p := ⟨w.heap.size + 1, 3, none⟩) l1).trans g3⟩)
      (first
        | (go_at_call 10; (with_reducible refine (CF.out _ (Q.refl w2).drew).mono ?_); rintro e w3 ⟨rfl, q2⟩; have p2 : Q w2 w3 := (Q.refl w2).drew.trans q2)
        | (go_at_call 14; (with_reducible refine (CA.out _ p2).mono ?_); rintro e w4 ⟨rfl, q3⟩; have p3 : Q w2 w4 := p2.trans q3))
    go_wp2_with fail
    go_ret
    exact ⟨by rw [HF.out]; rfl, (q0.trans q1).trans p3⟩
end Go.Proofs.Yteccgjhnifdcfaa.Ig

namespace Go.Proofs.Yteccgjhnifdcfaa.Ig
open Go.RowKit Kit Tr Uf
open Go.Proofs.Yteccgjhnifdcfaa.Hs (Keys Ints atI refAt_any BoxT)
open Go.Proofs.Yteccgjhnifdcfaa.Tm (Tm termAt refOf_any Box4)
/-- may a kind stand in a row of those that are less, greater -/
def kindV (k : Int) (less : Bool) : Bool := if less then (k == 1) || (k == 3) else (k == 0) || (k == 3) || (k == 6)
/-- may a term stand in a variable's row -/
def mayV (R : List Int) (ks : List (List Int)) (m : Nat) (id v : Int) (less : Bool) : Bool :=
  if 0 ≤ numV ks m id then lessB R (numV ks m id) v else (termAt ks id).isSome && kindV ((termAt ks id).getD Tm.none).k less

set_option maxRecDepth 100000 in
set_option maxHeartbeats 4000000 in
theorem refMayV_any (R : List Int) (A S F Av : Option Addr) (n c m d nr cr nv cv : Nat) (b1 b2 b3 b4 : Value) (ks : List (List Int)) (id v : Int) (less : Bool) (w : World) (hn : n = ks.length) (hk : Keys w w.heap.size A ks) (hnr : nr = R.length) (hR : Tr.Rds w w.heap.size F (cellsI R)) :
    Calls Try.prog 35 #[.agg #[.slice A n c, .slice S m d], .agg #[.slice F nr cr, .slice Av nv cv, b1, b2, b3, b4], .int .i64 id, .int .i64 v, .bool less] w fun e w' => e = .returned (.bool (mayV R ks nv id v less)) ∧ Q w w' := by
  subst hn
  subst hnr
  have q0 := ((Q.refl w).alloc (Obj.cells #[Value.slice A ks.length c, Value.slice S m d] 26)).alloc (Obj.cells #[Value.slice F R.length cr, Value.slice Av nv cv, b1, b2, b3, b4] 31)
  have HB := Lib.hid ((BoxT.new w (Value.slice A ks.length c) (Value.slice S m d) 26).q ((Q.refl _).alloc (Obj.cells #[Value.slice F R.length cr, Value.slice Av nv cv, b1, b2, b3, b4] 31)))
  have X := Box6.new (w.alloc (Obj.cells #[Value.slice A ks.length c, Value.slice S m d] 26)) (Value.slice F R.length cr) (Value.slice Av nv cv) b1 b2 b3 b4 31
  rw [World.size_alloc] at X
  have HG := Lib.hid X
  have Hk := Lib.hid ((hk.q (Nat.le_refl _) q0).more q0.size)
  have HR := Lib.hid (hR.q q0)
  have HN : Hid (mayV R ks nv id v less = if 0 ≤ numV ks nv id then lessB R (numV ks nv id) v else (termAt ks id).isSome && kindV ((termAt ks id).getD Tm.none).k less) := rfl
  clear hk hR X
  go_enter Try.func35, Try.ntmps35
  go_upto_region 1 with fail
  generalize (w.alloc (Obj.cells #[Value.slice A ks.length c, Value.slice S m d] 26)).alloc (Obj.cells #[Value.slice F R.length cr, Value.slice Av nv cv, b1, b2, b3, b4] 31) = W0 at *
  have b0 := HB.out.c0
  have b1' := HB.out.c1
  have g0 := HG.out.c0
  have g1 := HG.out.c1
  have g2 := HG.out.c2
  have g3 := HG.out.c3
  have g4 := HG.out.c4
  have g5 := HG.out.c5
  have C := Lib.hid (refNumber_any A S Av _ c m d nv cv (.slice F R.length cr) b1 b2 b3 b4 ks id W0 rfl Hk.out)
  go_upto_region 2 with (go_at_call 33; refine C.out.mono ?_; rintro e w2 ⟨rfl, q1⟩)
  generalize numV ks nv id = x at *
  clear b0 b1' g0 g1 g2 g3 g4 g5 C
  by_cases hx : 0 ≤ x
  · have d0 : decide (0 ≤ x) = true := decide_eq_true hx
    have HF : Hid (mayV R ks nv id v less = lessB R x v) := by unfold Hid; rw [HN.out, if_pos hx]
    have g0 := (HG.out.q q1).c0
    have CL := Lib.hid (refLess_any R F _ cr x v w2 rfl (HR.out.q q1))
    clear hx HN
    go_wp2_with (go_at_call 34; refine CL.out.mono ?_; rintro e w3 ⟨rfl, rfl⟩)
    go_ret
    exact ⟨by rw [HF.out]; rfl, q0.trans q1⟩
  · have d0 : decide (0 ≤ x) = false := decide_eq_false hx
    have HF : Hid (mayV R ks nv id v less = ((termAt ks id).isSome && kindV ((termAt ks id).getD Tm.none).k less)) := by unfold Hid; rw [HN.out, if_neg hx]
    have b0 := (HB.out.q q1).c0
    have b1' := (HB.out.q q1).c1
    have C := Lib.hid (refOf_any A S _ c m d ks id w2 rfl ((Hk.out.q (Nat.le_refl _) q1).more q1.size))
    clear hx HN
    go_upto_region 5 with (go_at_call 46; refine C.out.mono ?_; rintro e w3 ⟨At, nt, ct, rfl, rfl, _, q2⟩)
    generalize (termAt ks id).isSome = is at *
    generalize (termAt ks id).getD Tm.none = t at *
    have qt := q2.alloc (Obj.cells #[.int .i64 t.k, .int .i64 t.s, .int .i64 t.p, .slice At t.xs.length ct] 88)
    have X := Box4.new w3 (.int .i64 t.k) (.int .i64 t.s) (.int .i64 t.p) (.slice At t.xs.length ct) 88
    have x0 := X.c0
    clear X C b0 b1' q2
    cases is
    · go_wp2_with fail
      go_ret
      exact ⟨by rw [HF.out]; rfl, (q0.trans q1).trans qt⟩
    · cases less
      · have HF : Hid (mayV R ks nv id v false = ((t.k == 0) || (t.k == 3) || (t.k == 6))) := by unfold Hid; rw [HF.out]; rfl
        cases e0 : t.k == 0 <;> cases e3 : t.k == 3 <;> cases e6 : t.k == 6
        all_goals
          rw [e0, e3, e6] at HF
          go_wp2_with fail
          go_ret
          exact ⟨by rw [HF.out]; rfl, (q0.trans q1).trans qt⟩
      · have HF : Hid (mayV R ks nv id v true = ((t.k == 1) || (t.k == 3))) := by unfold Hid; rw [HF.out]; rfl
        cases e1 : t.k == 1 <;> cases e3 : t.k == 3
        all_goals
          rw [e1, e3] at HF
          go_wp2_with fail
          go_ret
          exact ⟨by rw [HF.out]; rfl, (q0.trans q1).trans qt⟩
end Go.Proofs.Yteccgjhnifdcfaa.Ig
