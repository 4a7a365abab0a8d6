/-
  Keys that are put one by one: plain facts, and rows of the call's own beside a table.
-/
import Derived.Test.YtdedlkeeifgajaaHashHF
import Derived.Test.YtdedlkeeifgajaaHashZ
import Derived.Deep.Heap
namespace Go.Proofs.Ytdedlkeeifgajaa.Hs
open Go.RowKit Kit

/-- the keys among the first k that are not the same -/
def firstL (l : List (List Int)) (k : Nat) : List (List Int) := (l.take k).foldl putL []
theorem firstL_succ (l : List (List Int)) (k : Nat) (h : k < l.length) : firstL l (k + 1) = putL (firstL l k) l[k] := by
  unfold firstL
  rw [List.take_succ_eq_append_getElem h, List.foldl_append]
  rfl
theorem firstL_zero (l : List (List Int)) : firstL l 0 = [] := by simp [firstL]
theorem putL_len (F : List (List Int)) (key : List Int) : (putL F key).length ≤ F.length + 1 ∧ (putL F key).flatten.length ≤ F.flatten.length + key.length := by
  unfold putL
  split
  · rw [List.flatten_append, List.length_append, List.length_append]
    simp only [List.flatten_cons, List.flatten_nil, List.append_nil, List.length_singleton]
    omega
  · omega
theorem firstL_facts (l : List (List Int)) : ∀ k, k ≤ l.length → Dist (firstL l k) ∧ (firstL l k).length ≤ k ∧ (firstL l k).flatten.length ≤ (l.take k).flatten.length
  | 0, _ => by rw [firstL_zero]; exact ⟨dist0, by simp, by simp⟩
  | k + 1, h => by
    obtain ⟨h1, h2, h3⟩ := firstL_facts l k (by omega)
    have hk : k < l.length := by omega
    rw [firstL_succ l k hk, List.take_succ_eq_append_getElem hk, List.flatten_append, List.length_append]
    have := putL_len (firstL l k) l[k]
    refine ⟨putL_dist h1, by omega, ?_⟩
    simp only [List.flatten_cons, List.flatten_nil, List.append_nil]
    omega
theorem take_flat (l : List (List Int)) (k : Nat) : (l.take k).flatten.length ≤ l.flatten.length := by
  have e : l.flatten = (l.take k).flatten ++ (l.drop k).flatten := by rw [← List.flatten_append, List.take_append_drop]
  rw [e, List.length_append]; omega

/-! ### rows of the call's own -/
theorem own_q {w w' : World} {base n : Nat} {e : TypeId} {v : Value} {xs : List Value} (h : w.ownsRow base e 1 v n xs) (q : Q w w') : w'.ownsRow base e 1 v n xs := by
  obtain ⟨h1, h2 | ⟨g, cap, cur, h3, h4, h5, h6⟩⟩ := h
  · exact ⟨h1, .inl h2⟩
  · exact ⟨h1, .inr ⟨g, cap, cur, h3, h4, (q.block g (Array.getElem?_eq_some_iff.1 h5).1).trans h5, h6⟩⟩
theorem own_set {w : World} {base n : Nat} {e : TypeId} {v : Value} {xs : List Value} (h : w.ownsRow base e 1 v n xs) {a : Addr} (ha : a.block < base) (u : Value) : (w.setCell a u).ownsRow base e 1 v n xs := by
  obtain ⟨h1, h2 | ⟨g, cap, cur, h3, h4, h5, h6⟩⟩ := h
  · exact ⟨h1, .inl h2⟩
  · exact ⟨h1, .inr ⟨g, cap, cur, h3, h4, (Deep.blk_setCell_other w a u g (by omega)).trans h5, h6⟩⟩
abbrev Vals (w : World) (F : List (List Int)) (VS : List Value) : Prop := ∀ (i : Nat) (k : List Int), F[i]? = some k → ∃ a c, k.length ≤ c ∧ VS[i]? = some (Value.slice a k.length c) ∧ Ints w w.heap.size a k
theorem first_keys {w W : World} {base cf : Nat} {Af : Option Addr} {F : List (List Int)} {VS : List Value} (own : W.ownsRow base 23 1 (.slice Af F.length cf) F.length VS) (hv : Vals w F VS) (q : Q w W) : Keys W W.heap.size Af F := fun h0 => by
  obtain ⟨_, _, e, _, hf⟩ := own_form own
  injection e with e1 _ _
  obtain ⟨g, e2, _, _, _⟩ := hf h0
  subst e1
  subst e2
  exact own_keys own hv (fun _ _ => rfl) q (Nat.le_refl _) h0
theorem vals_snoc {w : World} {F : List (List Int)} {VS : List Value} {key : List Int} {a : Option Addr} {c : Nat} (hl : VS.length = F.length) (h : Vals w F VS) (hc : key.length ≤ c) (hi : Ints w w.heap.size a key) : Vals w (F ++ [key]) (VS ++ [.slice a key.length c]) :=
  vals_append hl h (fun i k hk => by
    match i, hk with
    | 0, hk =>
      obtain rfl : key = k := by simpa using hk
      exact ⟨a, c, hc, rfl, hi⟩)

/-- a table in a box that may be written, its memory from block lo on -/
structure TB (W : World) (tb : Nat) (a b : Value) : Prop where
  c0 : W.cell? ⟨tb, 0, none⟩ = some a
  c1 : W.cell? ⟨tb, 1, none⟩ = some b
  f0 : W.frozen? ⟨tb, 0, none⟩ = false
  f1 : W.frozen? ⟨tb, 1, none⟩ = false
  lt : tb < W.heap.size
theorem TB.q {W W' : World} {tb : Nat} {a b : Value} (h : TB W tb a b) (q : Q W W') : TB W' tb a b :=
  ⟨(q.cell (p := ⟨tb, 0, none⟩) h.lt).trans h.c0, (q.cell (p := ⟨tb, 1, none⟩) h.lt).trans h.c1, (q.frozen (p := ⟨tb, 0, none⟩) h.lt).trans h.f0, (q.frozen (p := ⟨tb, 1, none⟩) h.lt).trans h.f1, Nat.lt_of_lt_of_le h.lt q.size⟩
theorem TB.below {W W' : World} {tb B : Nat} {a b : Value} (h : TB W tb a b) (hB : tb < B) (q : Below B W W') : TB W' tb a b :=
  ⟨(q.cell (p := ⟨tb, 0, none⟩) hB).trans h.c0, (q.cell (p := ⟨tb, 1, none⟩) hB).trans h.c1, (q.frozen (p := ⟨tb, 0, none⟩) hB).trans h.f0, (q.frozen (p := ⟨tb, 1, none⟩) hB).trans h.f1, Nat.lt_of_lt_of_le h.lt q.size⟩
theorem TB.set {W : World} {tb : Nat} {a b : Value} (h : TB W tb a b) (u v : Value) : TB ((W.setCell ⟨tb, 0, none⟩ u).setCell ⟨tb, 1, none⟩ v) tb u v := by
  have e0 := World.cell?_setCell_other (w := W.setCell ⟨tb, 0, none⟩ u) (a := ⟨tb, 1, none⟩) (b := ⟨tb, 0, none⟩) (v := v) (by intro h; injection h with _ h; cases h)
  have e1 := World.cell?_setCell_other (w := W) (a := ⟨tb, 0, none⟩) (b := ⟨tb, 1, none⟩) (v := u) (by intro h; injection h with _ h; cases h)
  refine ⟨e0.trans (World.cell?_setCell_same' _ _ _ (by rw [h.c0]; rfl)), World.cell?_setCell_same' _ _ _ (by rw [e1, h.c1]; rfl), ?_, ?_, by have := h.lt; simpa [World.setCell] using this⟩
  · rw [World.frozen?_setCell, World.frozen?_setCell]; exact h.f0
  · rw [World.frozen?_setCell, World.frozen?_setCell]; exact h.f1
def Tab (W : World) (tb base lo : Nat) (A S : Option Addr) (F : List (List Int)) : Prop :=
  ∀ X : World, (∀ p : Addr, p.block ≠ tb → (p.block < base ∨ lo ≤ p.block) → p.block < W.heap.size → X.cell? p = W.cell? p) → Keys X W.heap.size A F ∧ Ints X W.heap.size S (layI F)
theorem Tab.self {W : World} {tb base lo : Nat} {A S : Option Addr} {F : List (List Int)} (h : Tab W tb base lo A S F) : Keys W W.heap.size A F ∧ Ints W W.heap.size S (layI F) := h W fun _ _ _ _ => rfl
/-- what agrees beside has the table, too -/
theorem Tab.on {W W' : World} {tb base lo : Nat} {A S : Option Addr} {F : List (List Int)} (h : Tab W tb base lo A S F) (hz : W.heap.size ≤ W'.heap.size) (hc : ∀ p : Addr, p.block ≠ tb → (p.block < base ∨ lo ≤ p.block) → p.block < W.heap.size → W'.cell? p = W.cell? p) : Tab W' tb base lo A S F :=
  fun X hX => by
    have := h X fun p h0 h1 h2 => (hX p h0 h1 (by omega)).trans (hc p h0 h1 h2)
    exact ⟨this.1.more hz, this.2.more hz⟩
theorem Tab.q {W W' : World} {tb base lo : Nat} {A S : Option Addr} {F : List (List Int)} (h : Tab W tb base lo A S F) (q : Q W W') : Tab W' tb base lo A S F := h.on q.size fun _ _ _ h2 => q.cell h2

/-- between two rounds: the table t in its box, the row of keys, and where they lie -/
structure St (w wr : World) (base tb : Nat) (l F : List (List Int)) (k : Nat) (Af : Option Addr) (cf : Nat) (A : Option Addr) (c : Nat) (S : Option Addr) (d lo : Nat) (VS : List Value) : Prop where
  fs : F = firstL l k
  box : TB wr tb (.slice A F.length c) (.slice S (layI F).length d)
  own : wr.ownsRow base 23 1 (.slice Af F.length cf) F.length VS
  vl : VS.length = F.length
  vals : Vals w F VS
  one : ∀ u ∈ VS, u.oneCell' = true
  tab : Tab wr tb base lo A S F
  low : ∀ b, (Value.slice Af F.length cf).ownBlock = some b → b < lo
  tbl : tb < base ∧ base ≤ lo ∧ lo ≤ wr.heap.size ∧ w.heap.size ≤ tb
  q : Q w wr
theorem St.qq {w wr wr' : World} {base tb : Nat} {l F : List (List Int)} {k : Nat} {Af : Option Addr} {cf : Nat} {A : Option Addr} {c : Nat} {S : Option Addr} {d lo : Nat} {VS : List Value} (h : St w wr base tb l F k Af cf A c S d lo VS) (q : Q wr wr') : St w wr' base tb l F k Af cf A c S d lo VS :=
  ⟨h.fs, h.box.q q, own_q h.own q, h.vl, h.vals, h.one, h.tab.q q, h.low, by have := h.tbl; have := q.size; omega, h.q.trans q⟩
/-- the table is another one: it came of a call, and was stored -/
theorem St.put {w w2 w3 W5 : World} {base tb : Nat} {l F K : List (List Int)} {k : Nat} {Af : Option Addr} {cf : Nat} {A A3 : Option Addr} {c c3 : Nat} {S S3 : Option Addr} {d d3 : Nat} {VS : List Value} {t : TypeId}
    (hbox : TB w2 tb (.slice A F.length c) (.slice S (layI F).length d)) (hown : w2.ownsRow base 23 1 (.slice Af K.length cf) K.length VS) (hvl : VS.length = K.length) (hv : Vals w K VS) (h1 : ∀ u ∈ VS, u.oneCell' = true) (hfs : K = firstL l k) (htb : tb < base ∧ base ≤ w2.heap.size ∧ w.heap.size ≤ tb) (hq : Q w w2) (q3 : Q w2 w3)
    (hF : ∀ W : World, (∀ p : Addr, w2.heap.size ≤ p.block → p.block < w3.heap.size → W.cell? p = w3.cell? p) → Keys W w3.heap.size A3 K ∧ Ints W w3.heap.size S3 (layI K))
    (hW : W5 = ((w3.alloc (.cells #[.slice A3 K.length c3, .slice S3 (layI K).length d3] t)).setCell ⟨tb, 0, none⟩ (.slice A3 K.length c3)).setCell ⟨tb, 1, none⟩ (.slice S3 (layI K).length d3)) :
    St w W5 base tb l K k Af cf A3 c3 S3 d3 w2.heap.size VS := by
  have qa := (Q.refl w3).alloc (.cells #[.slice A3 K.length c3, .slice S3 (layI K).length d3] t)
  have q4 := q3.trans qa
  have hlow : ∀ b, (Value.slice Af K.length cf).ownBlock = some b → b < w2.heap.size := fun b hb => (hown.lt b hb).2
  have hz : W5.heap.size = w3.heap.size + 1 := by rw [hW]; simp [World.setCell]
  have hz3 := q3.size
  have ho : ∀ p : Addr, p.block ≠ tb → W5.cell? p = (w3.alloc (.cells #[.slice A3 K.length c3, .slice S3 (layI K).length d3] t)).cell? p := fun p hp => by rw [hW]; exact set_two_other _ _ _ _ _ hp
  refine ⟨hfs, by rw [hW]; exact (hbox.q q4).set _ _, ?_, hvl, hv, h1, fun X hX => ?_, hlow, by omega, ?_⟩
  · rw [hW]
    exact own_set (own_set (own_q hown q4) (a := ⟨tb, 0, none⟩) htb.1 _) (a := ⟨tb, 1, none⟩) htb.1 _
  · rw [hz] at hX ⊢
    have := hF X fun p h1 h2 => (hX p (by omega) (.inr h1) (by omega)).trans ((ho p (by omega)).trans (qa.cell h2))
    exact ⟨this.1.more (by omega), this.2.more (by omega)⟩
  · rw [hW]
    exact (((hq.trans q3).alloc _).setCell (p := ⟨tb, 0, none⟩) htb.2.2 _).setCell (p := ⟨tb, 1, none⟩) htb.2.2 _
end Go.Proofs.Ytdedlkeeifgajaa.Hs
