/-
  What the proofs lean on, part 3 of 10.
-/
import Derived.Test.YtjgbheidkjgncaaPa
import Derived.Test.YtjgbheidkjgncaaPb
import Derived.Deep.Matrix
import Derived.Deep.SlicePairs
import Derived.Lib.SmallJoins
import Derived.SizedLaws
import Derived.Deep.RegionHeld3
import Derived.Maps.Own
import Derived.Maps.OwnOps
import Derived.Maps.OwnSet
namespace Go.Proofs.Ytjgbheidkjgncaa.Hs
open Go.RowKit Kit

/-- the two blocks that a call lays at its head: the table, and the result -/
structure TwoB (w W : World) (a b x y : Value) : Prop where
  c0 : W.cell? ⟨w.heap.size, 0, none⟩ = some a
  c1 : W.cell? ⟨w.heap.size, 1, none⟩ = some b
  r0 : W.cell? ⟨w.heap.size + 1, 0, none⟩ = some x
  r1 : W.cell? ⟨w.heap.size + 1, 1, none⟩ = some y
  f0 : W.frozen? ⟨w.heap.size + 1, 0, none⟩ = false
  f1 : W.frozen? ⟨w.heap.size + 1, 1, none⟩ = false
  lt : w.heap.size + 1 < W.heap.size
theorem TwoB.q {w W W' : World} {a b x y : Value} (h : TwoB w W a b x y) (q : Q W W') : TwoB w W' a b x y :=
  have l0 : w.heap.size < W.heap.size := by have := h.lt; omega
  ⟨(q.cell (p := ⟨w.heap.size, 0, none⟩) l0).trans h.c0, (q.cell (p := ⟨w.heap.size, 1, none⟩) l0).trans h.c1, (q.cell (p := ⟨w.heap.size + 1, 0, none⟩) h.lt).trans h.r0, (q.cell (p := ⟨w.heap.size + 1, 1, none⟩) h.lt).trans h.r1,
   (q.frozen (p := ⟨w.heap.size + 1, 0, none⟩) h.lt).trans h.f0, (q.frozen (p := ⟨w.heap.size + 1, 1, none⟩) h.lt).trans h.f1, Nat.lt_of_lt_of_le h.lt q.size⟩
theorem TwoB.new (w : World) (a b x y : Value) (t t' : TypeId) : TwoB w ((w.alloc (.cells #[a, b] t)).alloc (.cells #[x, y] t')) a b x y := by
  refine ⟨by simp, by simp, by simp, by simp, by simp, by simp, by simp⟩
theorem set_two {w W : World} {x y u v : Value} (r0 : W.cell? ⟨w.heap.size + 1, 0, none⟩ = some x) (r1 : W.cell? ⟨w.heap.size + 1, 1, none⟩ = some y) :
    ((W.setCell ⟨w.heap.size + 1, 0, none⟩ u).setCell ⟨w.heap.size + 1, 1, none⟩ v).cell? ⟨w.heap.size + 1, 0, none⟩ = some u ∧ ((W.setCell ⟨w.heap.size + 1, 0, none⟩ u).setCell ⟨w.heap.size + 1, 1, none⟩ v).cell? ⟨w.heap.size + 1, 1, none⟩ = some v ∧
    (Q w W → Q w ((W.setCell ⟨w.heap.size + 1, 0, none⟩ u).setCell ⟨w.heap.size + 1, 1, none⟩ v)) := by
  refine ⟨?_, ?_, fun h => (h.setCell (p := ⟨w.heap.size + 1, 0, none⟩) (by show _ ≤ w.heap.size + 1; omega) _).setCell (p := ⟨w.heap.size + 1, 1, none⟩) (by show _ ≤ w.heap.size + 1; omega) _⟩
  · have := World.cell?_setCell_other (w := W.setCell ⟨w.heap.size + 1, 0, none⟩ u) (a := ⟨w.heap.size + 1, 1, none⟩) (b := ⟨w.heap.size + 1, 0, none⟩) (v := v) (by intro h; injection h with _ h; cases h)
    exact this.trans (World.cell?_setCell_same' _ _ _ (by rw [r0]; rfl))
  · have := World.cell?_setCell_other (w := W) (a := ⟨w.heap.size + 1, 0, none⟩) (b := ⟨w.heap.size + 1, 1, none⟩) (v := u) (by intro h; injection h with _ h; cases h)
    exact World.cell?_setCell_same' _ _ _ (by rw [this, r1]; rfl)
theorem TwoB.set {w W : World} {a b x y : Value} (h : TwoB w W a b x y) {g i : Nat} (hg : w.heap.size + 1 < g) (v : Value) : TwoB w (W.setCell ⟨g, i, none⟩ v) a b x y :=
  ⟨(World.cell?_setCell_far _ _ _ _ (by show g ≠ w.heap.size; omega)).trans h.c0, (World.cell?_setCell_far _ _ _ _ (by show g ≠ w.heap.size; omega)).trans h.c1, (World.cell?_setCell_far _ _ _ _ (by show g ≠ w.heap.size + 1; omega)).trans h.r0, (World.cell?_setCell_far _ _ _ _ (by show g ≠ w.heap.size + 1; omega)).trans h.r1,
   by rw [World.frozen?_setCell]; exact h.f0, by rw [World.frozen?_setCell]; exact h.f1, by have := h.lt; simpa [World.setCell] using this⟩
theorem size1_any (n : Nat) (w : World) (hn : n < 1000000) : Calls Try.prog 45 #[.int .i64 ((n : Int) + 1)] w fun e w' => e = .returned (.int .i64 (sizeN (n + 1))) ∧ w = w' := by
  have := size_any (n + 1) w (by omega)
  rwa [Int.natCast_add] at this
theorem set_two_other (W : World) (B : Nat) (u v : Value) (p : Addr) (hp : p.block ≠ B) : ((W.setCell ⟨B, 0, none⟩ u).setCell ⟨B, 1, none⟩ v).cell? p = W.cell? p :=
  (World.cell?_setCell_far _ _ _ _ (fun e => hp e.symm)).trans (World.cell?_setCell_far _ _ _ _ (fun e => hp e.symm))
end Go.Proofs.Ytjgbheidkjgncaa.Hs

namespace Go.Proofs.Ytjgbheidkjgncaa.Hs
open Go.RowKit Kit

/-- where a key stands in a row, from i on; -1 -/
def atF (key : List Int) : List (List Int) → Nat → Int
  | [], _ => -1
  | k :: l, i => if eqL k key then (i : Int) else atF key l (i + 1)
def atI (ks : List (List Int)) (key : List Int) : Int := atF key ks 0
theorem atF_at (key : List Int) (ks : List (List Int)) (i : Nat) (h : i < ks.length) : atF key (ks.drop i) i = if eqL ks[i] key then (i : Int) else atF key (ks.drop (i + 1)) (i + 1) := by
  rw [List.drop_eq_getElem_cons h]; rfl
theorem atF_end (key : List Int) (ks : List (List Int)) (i : Nat) (h : ks.length ≤ i) : atF key (ks.drop i) i = -1 := by
  rw [List.drop_eq_nil_of_le h]; rfl
theorem atF_spec (key : List Int) : ∀ (ks : List (List Int)) (k : Nat), (atF key ks k = -1 ∧ ∀ (i : Nat) (x : List Int), ks[i]? = some x → x ≠ key) ∨ ∃ i : Nat, ks[i]? = some key ∧ atF key ks k = ((k + i : Nat) : Int) ∧ ∀ (j : Nat) (x : List Int), j < i → ks[j]? = some x → x ≠ key
  | [], _ => .inl ⟨rfl, fun i x h => by simp at h⟩
  | y :: l, k => by
    rw [atF]
    cases he : eqL y key
    · have hne : y ≠ key := fun e => by rw [(eqL_iff y key).2 e] at he; cases he
      simp only [Bool.false_eq_true, if_false]
      rcases atF_spec key l (k + 1) with ⟨h1, h2⟩ | ⟨i, h1, h2, h3⟩
      · refine .inl ⟨h1, fun i x hx => ?_⟩
        cases i with
        | zero => obtain rfl : y = x := by simpa using hx
                  exact hne
        | succ i => exact h2 i x (by simpa using hx)
      · refine .inr ⟨i + 1, by simpa using h1, by rw [h2]; congr 1; omega, fun j x hj hx => ?_⟩
        cases j with
        | zero => obtain rfl : y = x := by simpa using hx
                  exact hne
        | succ j => exact h3 j x (by omega) (by simpa using hx)
    · rw [if_pos rfl]
      exact .inr ⟨0, by simp [(eqL_iff y key).1 he], by simp, fun j x hj => by omega⟩
/-- none of a row's keys is the same as another -/
def Dist (ks : List (List Int)) : Prop := ∀ (i j : Nat) (x : List Int), ks[i]? = some x → ks[j]? = some x → i = j
theorem atI_some {ks : List (List Int)} {key : List Int} {i : Nat} (hd : Dist ks) (h : ks[i]? = some key) : atI ks key = i := by
  rcases atF_spec key ks 0 with ⟨_, h2⟩ | ⟨j, h1, h2, _⟩
  · exact absurd rfl (h2 i key h)
  · unfold atI; rw [h2, hd i j key h h1]; omega
theorem atI_cases (ks : List (List Int)) (key : List Int) : (atI ks key = -1 ∧ ∀ (i : Nat) (x : List Int), ks[i]? = some x → x ≠ key) ∨ ∃ i : Nat, ks[i]? = some key ∧ atI ks key = i := by
  rcases atF_spec key ks 0 with h | ⟨i, h1, h2, _⟩
  · exact .inl h
  · exact .inr ⟨i, h1, by unfold atI; rw [h2]; omega⟩

theorem sameP_nat (ks : List (List Int)) (key : List Int) (i : Nat) : sameP ks key (i : Int) = true ↔ ks[i]? = some key := by
  unfold sameP
  by_cases h : i < ks.length
  · simp only [Int.natCast_nonneg, decide_true, Int.toNat_natCast, Bool.true_and, show ((i : Int) < (ks.length : Int)) = True by simp [h], List.getElem?_eq_getElem h, Option.getD_some, eqL_iff, Option.some.injEq]
  · rw [List.getElem?_eq_none (by omega)]
    simp [h]
theorem sameP_none {ks : List (List Int)} {key : List Int} (h : ∀ (i : Nat) x, ks[i]? = some x → x ≠ key) : sameP ks key = nv := by
  funext x
  cases he : sameP ks key x
  · rfl
  · have h0 : 0 ≤ x := by unfold sameP at he; simp only [Bool.and_eq_true, decide_eq_true_eq] at he; exact he.1.1
    obtain ⟨i, rfl⟩ := Int.eq_ofNat_of_zero_le h0
    exact absurd rfl (h i key ((sameP_nat ks key i).1 he))
theorem seekL_congr {p q : Int → Bool} : ∀ {l : List (Nat × Int)}, (∀ x ∈ l, stepOf p x = stepOf q x) → seekL p l = seekL q l
  | [], _ => rfl
  | x :: l, h => by rw [seekL, seekL, h x (List.mem_cons_self ..), seekL_congr fun y hy => h y (List.mem_cons_of_mem _ hy)]

structure Inv (ks : List (List Int)) (n : Nat) (sl : List Int) : Prop where
  range : ∀ (s : Nat) (v : Int), sl[s]? = some v → 0 ≤ v ∧ v ≤ n
  path : ∀ (i : Nat) (k : List Int), i < n → ks[i]? = some k → ∃ J, J < sl.length ∧ sl[(hashN k + J) % sl.length]? = some ((i : Int) + 1) ∧ ∀ j, j < J → sl[(hashN k + j) % sl.length]? ≠ some 0
  few : nz sl ≤ n
theorem Inv.start (ks : List (List Int)) (N : Nat) : Inv ks 0 (List.replicate N 0) :=
  ⟨fun s v h => by rw [List.getElem?_replicate] at h; split at h <;> simp at h; omega, fun i k h => by omega, by rw [nz_replicate]; omega⟩
theorem Inv.step {ks : List (List Int)} {n : Nat} {sl : List Int} {key : List Int} (h : Inv ks n sl) (hn : n < sl.length) (hk : ks[n]? = some key) : Inv ks (n + 1) (putSlot sl key n) := by
  obtain ⟨J, hJ, hz, hb, hs⟩ := free_way (hashN key) (Nat.lt_of_le_of_lt h.few hn)
  have hsl : (hashN key + J) % sl.length < sl.length := Nat.mod_lt _ (by omega)
  have e : putSlot sl key n = sl.set ((hashN key + J) % sl.length) ((n : Int) + 1) := by unfold putSlot slotOf; rw [hs]; rfl
  rw [e]
  obtain ⟨s, hse⟩ : ∃ s, (hashN key + J) % sl.length = s := ⟨_, rfl⟩
  rw [hse] at hz hsl ⊢
  have other : ∀ (t : Nat) (v : Int), sl[t]? = some v → v ≠ 0 → (sl.set s ((n : Int) + 1))[t]? = some v := fun t v ht hv => by
    rw [List.getElem?_set_ne (fun e => by subst e; rw [ht] at hz; injection hz with hz; exact hv hz)]; exact ht
  have nzero : ∀ t : Nat, sl[t]? ≠ some (0 : Int) → (sl.set s ((n : Int) + 1))[t]? ≠ some (0 : Int) := fun t ht => by
    by_cases e : s = t
    · subst e; rw [List.getElem?_set_self hsl]; intro h; injection h with h; omega
    · rw [List.getElem?_set_ne e]; exact ht
  refine ⟨fun t v ht => ?_, fun i k hi hk' => ?_, Nat.le_trans (nz_set _ _ _) (Nat.succ_le_succ h.few)⟩
  · by_cases e : s = t
    · subst e; rw [List.getElem?_set_self hsl] at ht; injection ht with ht; omega
    · rw [List.getElem?_set_ne e] at ht; have := h.range t v ht; omega
  · rw [List.length_set]
    by_cases hin : i < n
    · obtain ⟨J', h1, h2, h3⟩ := h.path i k hin hk'
      exact ⟨J', h1, other _ _ h2 (by omega), fun j hj => nzero _ (h3 j hj)⟩
    · obtain rfl : i = n := by omega
      rw [hk] at hk'
      obtain rfl : key = k := by simpa using hk'
      exact ⟨J, hJ, by rw [hse, List.getElem?_set_self hsl], fun j hj => nzero _ (hb j hj)⟩
theorem layF_inv (ks : List (List Int)) : ∀ (m i : Nat) (sl : List Int), m = ks.length - i → Inv ks i sl → i ≤ ks.length → ks.length < sl.length → Inv ks ks.length (layF (ks.drop i) i sl)
  | 0, i, sl, hm, h, hi, _ => by
    rw [layF_end ks i sl (by omega), show ks.length = i by omega]; exact h
  | m + 1, i, sl, hm, h, hi, hl => by
    have hlt : i < ks.length := by omega
    rw [layF_at ks i sl hlt]
    exact layF_inv ks m (i + 1) _ (by omega) (h.step (by omega) (List.getElem?_eq_getElem hlt)) (by omega) (by rw [putSlot_length]; exact hl)
theorem lay_inv (ks : List (List Int)) : Inv ks ks.length (layI ks) := by
  have := layF_inv ks _ 0 _ rfl (Inv.start ks (sizeN ks.length)) (Nat.zero_le _) (by rw [List.length_replicate]; exact sizeN_gt _)
  simpa [layI] using this

theorem wrap_pred {v : Int} (h : 0 ≤ v ∧ v ≤ 1000000) : wrap64 (v - 1) = v - 1 := by unfold wrap64; omega

/-- a key that is there is found at its place -/
theorem find_there {ks : List (List Int)} {key : List Int} {i : Nat} {sl : List Int} (hi : Inv ks ks.length sl) (hd : Dist ks) (hl : ks.length ≤ 100000) (h : ks[i]? = some key) : ∃ s : Nat, s < sl.length ∧ seekI (sameP ks key) sl (hashN key) = ((s : Int), (i : Int)) := by
  have hin := (List.getElem?_eq_some_iff.1 h).1
  obtain ⟨J, hJ, h2, h3⟩ := hi.path i key hin h
  obtain ⟨J', h1', h2', h3'⟩ := least_of (P := fun j => sl[(hashN key + j) % sl.length]? = some ((i : Int) + 1)) (J + 1) ⟨J, by omega, h2⟩
  have hm : ∀ j, (hashN key + j) % sl.length < sl.length := fun j => Nat.mod_lt _ (by omega)
  refine ⟨(hashN key + J') % sl.length, hm J', seekI_at (J := J') (by omega) (fun j hj => ?_) ?_⟩
  · have hv := List.getElem?_eq_getElem (hm j)
    have r := hi.range _ _ hv
    have n0 := h3 j (by omega)
    have n1 := h3' j hj
    rw [hv] at n0 n1
    obtain ⟨v, hve⟩ : ∃ v, sl[(hashN key + j) % sl.length]'(hm j) = v := ⟨_, rfl⟩
    rw [hve] at hv n0 n1 r
    have n0' : v ≠ 0 := fun e => n0 (by rw [e])
    have n1' : v ≠ (i : Int) + 1 := fun e => n1 (by rw [e])
    simp only [stepOf, visit, hv, Option.getD_some]
    rw [if_neg (by simpa using n0'), wrap_pred (by omega)]
    obtain ⟨t, ht⟩ := Int.eq_ofNat_of_zero_le (show 0 ≤ v - 1 by omega)
    rw [ht]
    have hf : sameP ks key (t : Int) = false := by
      cases hs : sameP ks key (t : Int)
      · rfl
      · have := hd i t key h ((sameP_nat ks key t).1 hs)
        omega
    rw [hf]
    rfl
  · simp only [stepOf, visit, h2', Option.getD_some]
    rw [if_neg (by simp; omega), wrap_pred (by omega), show (i : Int) + 1 - 1 = i by omega, (sameP_nat ks key i).2 h]
    rfl
/-- one that isn't there comes to the first free slot of its way -/
theorem find_not {ks : List (List Int)} {key : List Int} {sl : List Int} (hi : Inv ks ks.length sl) (hl : ks.length < sl.length) (h : ∀ (i : Nat) x, ks[i]? = some x → x ≠ key) : slotOf sl key < sl.length ∧ seekI (sameP ks key) sl (hashN key) = ((slotOf sl key : Int), -1) := by
  obtain ⟨J, hJ, _, _, hs⟩ := free_way (hashN key) (Nat.lt_of_le_of_lt hi.few hl)
  have hm : (hashN key + J) % sl.length < sl.length := Nat.mod_lt _ (by omega)
  rw [sameP_none h]
  unfold slotOf
  rw [hs]
  exact ⟨hm, rfl⟩

theorem layF_snoc (key : List Int) : ∀ (ks : List (List Int)) (i : Nat) (sl : List Int), layF (ks ++ [key]) i sl = putSlot (layF ks i sl) key (i + ks.length)
  | [], i, sl => rfl
  | k :: ks, i, sl => by rw [List.cons_append, layF, layF, layF_snoc key ks, List.length_cons]; congr 1; omega
theorem lay_snoc {ks : List (List Int)} {key : List Int} (h : sizeN (ks.length + 1) = sizeN ks.length) : layI (ks ++ [key]) = (layI ks).set (slotOf (layI ks) key) ((ks.length : Int) + 1) := by
  unfold layI
  rw [List.length_append, List.length_singleton, h, layF_snoc, Nat.zero_add]
  rfl
theorem Dist.snoc {ks : List (List Int)} {key : List Int} (hd : Dist ks) (h : ∀ (i : Nat) x, ks[i]? = some x → x ≠ key) : Dist (ks ++ [key]) := fun i j x hi hj => by
  rw [List.getElem?_append] at hi hj
  split at hi <;> split at hj
  · exact hd i j x hi hj
  · rename_i h1 h2
    have hx : x = key := by
      have := List.mem_of_getElem? hj
      simpa using this
    exact absurd hx (h i x hi)
  · rename_i h1 h2
    have hx : x = key := by
      have := List.mem_of_getElem? hi
      simpa using this
    exact absurd hx (h j x hj)
  · rename_i h1 h2
    have e1 := (List.getElem?_eq_some_iff.1 hi).1
    have e2 := (List.getElem?_eq_some_iff.1 hj).1
    simp at e1 e2
    omega

def putL (ks : List (List Int)) (key : List Int) : List (List Int) := if atI ks key < 0 then ks ++ [key] else ks
def placeI (ks : List (List Int)) (key : List Int) : Int := if atI ks key < 0 then (ks.length : Int) else atI ks key
def newB (ks : List (List Int)) (key : List Int) : Bool := decide (atI ks key < 0)
theorem putL_at {ks : List (List Int)} {key : List Int} (hd : Dist ks) : atI (putL ks key) key = placeI ks key := by
  unfold putL placeI
  rcases atI_cases ks key with ⟨h1, h2⟩ | ⟨i, h1, h2⟩
  · rw [if_pos (by omega), if_pos (by omega)]
    exact atI_some (hd.snoc h2) (by rw [List.getElem?_append_right (Nat.le_refl _)]; simp)
  · rw [if_neg (by omega), if_neg (by omega)]
theorem placeI_nonneg {ks : List (List Int)} {key : List Int} : 0 ≤ placeI ks key := by
  unfold placeI
  split <;> omega
end Go.Proofs.Ytjgbheidkjgncaa.Hs

namespace Go.Proofs.Ytjgbheidkjgncaa.Hs
open Go.RowKit Kit

set_option maxRecDepth 100000 in
set_option maxHeartbeats 400000 in
theorem refInts_any (A B : Option Addr) (n c n' c' : Nat) (l m : List Int) (w : World) (hn : n = l.length) (hn' : n' = m.length) (hr : Ints w w.heap.size A l) (hr' : Ints w w.heap.size B m) (hl : l.length ≤ maxLen) :
    Calls Try.prog 33 #[.slice A n c, .slice B n' c'] w fun e w' => e = .returned (.bool (eqL l m)) ∧ ∃ d, w' = w.drewN d := by
  subst hn
  subst hn'
  unfold maxLen at hl
  by_cases hlen : l.length = m.length
  · have HE := Lib.hid hlen
    have hne : ((l.length : Int) != (m.length : Int)) = false := by simp [hlen]
    clear hlen
    go_enter Try.func33, Try.ntmps33
    go_wp2_with fail
    go_loopw [5] (fun i wr => ∃ k : Nat, k ≤ l.length ∧ i = .int .i64 k ∧ Hid (eqL l m = eqL (l.drop k) (m.drop k)) ∧ ∃ d, wr = w.drewN d) (fun i _ => l.length - (intOf i).toNat)
    case atStart => exact ⟨0, Nat.zero_le _, rfl, Lib.hid (by simp), 0, rfl⟩
    case round =>
      obtain ⟨k, hk, rfl, HF, d, rfl⟩ := hrel
      by_cases hlt : k < l.length
      · have hlt' : k < m.length := by have := HE.out; omega
        obtain ⟨ad, rfl, hb, c0⟩ := hr.at_ hlt
        obtain ⟨ad', rfl, hb', c0'⟩ := hr'.at_ hlt'
        have HS := Lib.hid (eqL_at l m k hlt hlt')
        clear hr hr'
        cases he : (l[k] == m[k])
        · have HS' : Hid (eqL (l.drop k) (m.drop k) = false) := by have := HS.out; rw [he] at this; exact this
          have he' : (l[k] != m[k]) = true := by simpa using he
          clear he
          go_wp2_with fail
          go_region
          all_goals go_wp2_with fail
          all_goals go_ret
          all_goals exact ⟨by rw [HF.out, HS'.out]; rfl, d + 1, rfl⟩
        · have HS' : Hid (eqL (l.drop k) (m.drop k) = eqL (l.drop (k + 1)) (m.drop (k + 1))) := by have := HS.out; rw [he] at this; exact this
          have he' : (l[k] != m[k]) = false := by simpa using he
          clear he
          go_wp2_with fail
          go_region
          all_goals go_wp2_with fail
          all_goals go_roundw
          case rel => exact ⟨k + 1, by omega, by go_num, Lib.hid (HF.out.trans HS'.out), d + 1, rfl⟩
          case measure => simp [intOf]; omega
      · have HS := Lib.hid (eqL_end l m k (by omega) (by have := HE.out; omega))
        go_wp2_with fail
        go_ret
        exact ⟨by rw [HF.out, HS.out]; rfl, d, rfl⟩
  · have hne : ((l.length : Int) != (m.length : Int)) = true := by simp; omega
    have HS := Lib.hid (eqL_len hlen)
    go_enter Try.func33, Try.ntmps33
    go_wp2_with fail
    go_ret
    exact ⟨by rw [HS.out]; rfl, 0, rfl⟩

theorem drewN_add' (w : World) (a b : Nat) : (w.drewN a).drewN b = w.drewN (a + b) := by simp [World.drewN, Nat.add_assoc]

def rowsB : List (List Int) → List (List Int) → Bool
  | [], [] => true
  | x :: l, y :: m => eqL x y && rowsB l m
  | _, _ => false
theorem rowsB_iff : ∀ (l m : List (List Int)), rowsB l m = true ↔ l = m
  | [], [] => by simp [rowsB]
  | [], _ :: _ => by simp [rowsB]
  | _ :: _, [] => by simp [rowsB]
  | x :: l, y :: m => by simp [rowsB, rowsB_iff l m, eqL_iff]
theorem rowsB_len {l m : List (List Int)} (h : l.length ≠ m.length) : rowsB l m = false := by
  cases e : rowsB l m
  · rfl
  · rw [rowsB_iff] at e; subst e; exact absurd rfl h
theorem rowsB_at (l m : List (List Int)) (k : Nat) (h1 : k < l.length) (h2 : k < m.length) : rowsB (l.drop k) (m.drop k) = (eqL l[k] m[k] && rowsB (l.drop (k + 1)) (m.drop (k + 1))) := by
  rw [List.drop_eq_getElem_cons h1, List.drop_eq_getElem_cons h2]; rfl
theorem rowsB_end (l m : List (List Int)) (k : Nat) (h1 : l.length ≤ k) (h2 : m.length ≤ k) : rowsB (l.drop k) (m.drop k) = true := by
  rw [List.drop_eq_nil_of_le h1, List.drop_eq_nil_of_le h2]; rfl

set_option maxRecDepth 100000 in
set_option maxHeartbeats 1000000 in
theorem refRows_any (A B : Option Addr) (n c n' c' : Nat) (l m : List (List Int)) (w : World) (hn : n = l.length) (hn' : n' = m.length) (hr : Keys w w.heap.size A l) (hr' : Keys w w.heap.size B m) (hl : l.length ≤ maxLen) (hs : ∀ k ∈ l, k.length ≤ maxLen) :
    Calls Try.prog 34 #[.slice A n c, .slice B n' c'] w fun e w' => e = .returned (.bool (rowsB l m)) ∧ ∃ d, w' = w.drewN d := by
  subst hn
  subst hn'
  unfold maxLen at hl
  by_cases hlen : l.length = m.length
  · have HE := Lib.hid hlen
    have hne : ((l.length : Int) != (m.length : Int)) = false := by simp [hlen]
    clear hlen
    go_enter Try.func34, Try.ntmps34
    go_wp2_with fail
    go_loopw [5] (fun i wr => ∃ k : Nat, k ≤ l.length ∧ i = .int .i64 k ∧ Hid (rowsB l m = rowsB (l.drop k) (m.drop k)) ∧ Hid (∃ d, wr = w.drewN d)) (fun i _ => l.length - (intOf i).toNat)
    case atStart => exact ⟨0, Nat.zero_le _, rfl, Lib.hid (by simp), Lib.hid ⟨0, rfl⟩⟩
    case round =>
      obtain ⟨k, hk, rfl, HF, HD⟩ := hrel
      have hrr : Keys wr wr.heap.size A l := by obtain ⟨d, rfl⟩ := HD.out; exact hr
      have hrr' : Keys wr wr.heap.size B m := by obtain ⟨d, rfl⟩ := HD.out; exact hr'
      clear hr hr'
      by_cases hlt : k < l.length
      · have hlt' : k < m.length := by have := HE.out; omega
        obtain ⟨ad, rfl, hb, a, c1, _, c0, hi⟩ := hrr.at_ hlt
        obtain ⟨ad', rfl, hb', a', c1', _, c0', hi'⟩ := hrr'.at_ hlt'
        have HS := Lib.hid (rowsB_at l m k hlt hlt')
        have C : Hid (∀ n, Calls Try.prog 33 #[.slice a l[k].length c1, .slice a' m[k].length c1'] (wr.drewN n) fun e w' => e = .returned (.bool (eqL l[k] m[k])) ∧ ∃ m', w' = (wr.drewN n).drewN m') := fun n =>
          refInts_any a a' _ c1 _ c1' l[k] m[k] (wr.drewN n) rfl rfl hi hi' (hs _ (List.getElem_mem hlt))
        have j0 : (0 : Int) ≤ (k : Int) := Int.natCast_nonneg _
        have j1 : (k : Int) < (l.length : Int) := by omega
        have j2 : (k : Int) < (m.length : Int) := by omega
        clear hrr hrr' hi hi'
        cases he : eqL l[k] m[k]
        · rw [he] at C HS
          have HS' : Hid (rowsB (l.drop k) (m.drop k) = false) := HS.out
          clear HS
          go_wp2_with fail
          go_quiet (first | (go_at_call 33; exact Calls.quiet_of (C.out _)))
          go_wp2_with fail
          go_ret
          exact ⟨by rw [HF.out, HS'.out]; rfl, by obtain ⟨d, rfl⟩ := HD.out; exact ⟨_, drewN_add' _ _ _⟩⟩
        · rw [he] at C HS
          have HS' : Hid (rowsB (l.drop k) (m.drop k) = rowsB (l.drop (k + 1)) (m.drop (k + 1))) := HS.out
          clear HS
          go_wp2_with fail
          go_quiet (first | (go_at_call 33; exact Calls.quiet_of (C.out _)))
          go_wp2_with fail
          go_roundw
          case rel => exact ⟨k + 1, by omega, by go_num, Lib.hid (HF.out.trans HS'.out), Lib.hid (by obtain ⟨d, rfl⟩ := HD.out; exact ⟨_, drewN_add' _ _ _⟩)⟩
          case measure => simp [intOf]; omega
      · have HS := Lib.hid (rowsB_end l m k (by omega) (by have := HE.out; omega))
        go_wp2_with fail
        go_ret
        exact ⟨by rw [HF.out, HS.out]; rfl, HD.out⟩
  · have hne : ((l.length : Int) != (m.length : Int)) = true := by simp; omega
    have HS := Lib.hid (rowsB_len hlen)
    go_enter Try.func34, Try.ntmps34
    go_wp2_with fail
    go_ret
    exact ⟨by rw [HS.out]; rfl, 0, rfl⟩

set_option maxRecDepth 100000 in
set_option maxHeartbeats 1000000 in
theorem refAt_any (A E : Option Addr) (n c ke ce : Nat) (ks : List (List Int)) (key : List Int) (w : World) (hn : n = ks.length) (hke : ke = key.length) (hr : Keys w w.heap.size A ks) (he : Ints w w.heap.size E key) (hl : ks.length ≤ maxLen) (hs : ∀ k ∈ ks, k.length ≤ maxLen) :
    Calls Try.prog 18 #[.slice A n c, .slice E ke ce] w fun e w' => e = .returned (.int .i64 (atI ks key)) ∧ ∃ d, w' = w.drewN d := by
  subst hn
  subst hke
  unfold maxLen at hl
  go_enter Try.func18, Try.ntmps18
  go_wp2_with fail
  go_loopw [5] (fun i wr => ∃ k : Nat, k ≤ ks.length ∧ i = .int .i64 k ∧ Hid (atI ks key = atF key (ks.drop k) k) ∧ ∃ d, wr = w.drewN d) (fun i _ => ks.length - (intOf i).toNat)
  case atStart => exact ⟨0, Nat.zero_le _, rfl, Lib.hid rfl, 0, rfl⟩
  case round =>
    obtain ⟨k, hk, rfl, HF, d, rfl⟩ := hrel
    by_cases hlt : k < ks.length
    · obtain ⟨ad, rfl, hb, a, c1, _, c0, hi⟩ := hr.at_ hlt
      have Hi := Lib.hid hi
      have HS := Lib.hid (atF_at key ks k hlt)
      have Hm := Lib.hid (hs _ (List.getElem_mem hlt))
      have j0 : (0 : Int) ≤ (k : Int) := Int.natCast_nonneg _
      have j1 : (k : Int) < (ks.length : Int) := by omega
      clear hi
      cases heq : eqL ks[k] key
      · have HS' : Hid (atF key (ks.drop k) k = atF key (ks.drop (k + 1)) (k + 1)) := by have := HS.out; rw [heq] at this; exact this
        have Hq := Lib.hid heq
        clear heq HS
        go_wp2_with fail
        refine (refInts_any a E _ c1 _ ce ks[k] key _ rfl rfl (by exact Hi.out) (by exact he) Hm.out).mono ?_
        rintro e w' ⟨rfl, d', rfl⟩
        rw [Hq.out]
        go_wp2_with fail
        go_roundw
        case rel => exact ⟨k + 1, by omega, by go_num, Lib.hid (HF.out.trans HS'.out), d + d', rfl⟩
        case measure => simp [intOf]; omega
      · have HS' : Hid (atF key (ks.drop k) k = (k : Int)) := by have := HS.out; rw [heq] at this; exact this
        have Hq := Lib.hid heq
        clear heq HS
        go_wp2_with fail
        refine (refInts_any a E _ c1 _ ce ks[k] key _ rfl rfl (by exact Hi.out) (by exact he) Hm.out).mono ?_
        rintro e w' ⟨rfl, d', rfl⟩
        rw [Hq.out]
        go_wp2_with fail
        go_ret
        exact ⟨by rw [HF.out, HS'.out]; rfl, d + d', rfl⟩
    · have HS := Lib.hid (atF_end key ks k (by omega))
      go_wp2_with fail
      go_ret
      exact ⟨by rw [HF.out, HS.out]; rfl, d, rfl⟩
end Go.Proofs.Ytjgbheidkjgncaa.Hs

namespace Go.Proofs.Ytjgbheidkjgncaa.Hs
open Go.RowKit Kit

theorem Q.of_drewN {w w' : World} (h : ∃ d, w' = w.drewN d) : Q w w' := by obtain ⟨d, rfl⟩ := h; exact (Q.refl w).drewN d

def tabB (ks : List (List Int)) (sl : List Int) (ks' : List (List Int)) (sl' : List Int) : Bool := rowsB ks ks' && eqL sl sl'

set_option maxRecDepth 100000 in
set_option maxHeartbeats 1000000 in
theorem refSame_any (A S A' S' : Option Addr) (n c m d n' c' m' d' : Nat) (ks ks' : List (List Int)) (sl sl' : List Int) (w : World) (hn : n = ks.length) (hm : m = sl.length) (hn' : n' = ks'.length) (hm' : m' = sl'.length)
    (hk : Keys w w.heap.size A ks) (hS : Ints w w.heap.size S sl) (hk' : Keys w w.heap.size A' ks') (hS' : Ints w w.heap.size S' sl') (hl : ks.length ≤ maxLen) (hs : ∀ k ∈ ks, k.length ≤ maxLen) (hsl : sl.length ≤ maxLen) :
    Calls Try.prog 19 #[.agg #[.slice A n c, .slice S m d], .agg #[.slice A' n' c', .slice S' m' d']] w fun e w' => e = .returned (.bool (tabB ks sl ks' sl')) ∧ Q w w' := by
  subst hn
  subst hm
  subst hn'
  subst hm'
  have q0 := ((Q.refl w).alloc (Obj.cells #[Value.slice A ks.length c, Value.slice S sl.length d] 26)).alloc (Obj.cells #[Value.slice A' ks'.length c', Value.slice S' sl'.length d'] 26)
  have Hk := Lib.hid ((hk.q (Nat.le_refl _) q0).more q0.size)
  have HS := Lib.hid ((hS.q (Nat.le_refl _) q0).more q0.size)
  have Hk' := Lib.hid ((hk'.q (Nat.le_refl _) q0).more q0.size)
  have HS' := Lib.hid ((hS'.q (Nat.le_refl _) q0).more q0.size)
  have HB := Lib.hid (TwoB.new w (Value.slice A ks.length c) (Value.slice S sl.length d) (Value.slice A' ks'.length c') (Value.slice S' sl'.length d') 26 26)
  have Hs := Lib.hid hs
  clear hk hS hk' hS' hs
  cases hr : rowsB ks ks'
  · have HR : Hid (tabB ks sl ks' sl' = false) := by unfold Hid tabB; rw [hr]; rfl
    have Hr := Lib.hid hr
    clear hr
    go_enter Try.func19, Try.ntmps19
    go_wp2_with fail
    refine (refRows_any _ _ _ _ _ _ ks ks' _ rfl rfl Hk.out Hk'.out hl Hs.out).mono ?_
    rintro e w1 ⟨rfl, hd⟩
    have q1 := Q.of_drewN hd
    rw [Hr.out]
    clear hd
    go_wp2_with fail
    go_ret
    exact ⟨by rw [HR.out]; rfl, q0.trans q1⟩
  · have HR : Hid (tabB ks sl ks' sl' = eqL sl sl') := by unfold Hid tabB; rw [hr]; rfl
    have Hr := Lib.hid hr
    clear hr
    go_enter Try.func19, Try.ntmps19
    go_wp2_with fail
    refine (refRows_any _ _ _ _ _ _ ks ks' _ rfl rfl Hk.out Hk'.out hl Hs.out).mono ?_
    rintro e w1 ⟨rfl, hd⟩
    have q1 := Q.of_drewN hd
    rw [Hr.out]
    have HB1 := Lib.hid (HB.out.q q1)
    have c1 := HB1.out.c1
    have r1 := HB1.out.r1
    clear hd
    go_wp2_with fail
    refine (refInts_any _ _ _ _ _ _ sl sl' _ rfl rfl ((HS.out.q (Nat.le_refl _) q1).more q1.size) ((HS'.out.q (Nat.le_refl _) q1).more q1.size) hsl).mono ?_
    rintro e w2 ⟨rfl, hd⟩
    have q2 := Q.of_drewN hd
    clear hd
    go_wp2_with fail
    go_ret
    exact ⟨by rw [HR.out]; rfl, (q0.trans q1).trans q2⟩

def fewF (n : Nat) : List (List Int) → Nat
  | [] => n
  | k :: l => if n ≤ 2000 then fewF (n + 1 + k.length) l else n
def fewB (ks : List (List Int)) (m : Nat) : Bool := decide (fewF m ks ≤ 2000)
theorem fewF_at (n : Nat) (ks : List (List Int)) (i : Nat) (h : i < ks.length) (hn : n ≤ 2000) : fewF n (ks.drop i) = fewF (n + 1 + ks[i].length) (ks.drop (i + 1)) := by
  rw [List.drop_eq_getElem_cons h, fewF, if_pos hn]
theorem fewF_big (n : Nat) (ks : List (List Int)) (hn : ¬ n ≤ 2000) : fewF n ks = n := by
  cases ks with
  | nil => rfl
  | cons k l => rw [fewF, if_neg hn]
theorem fewF_end (n : Nat) (ks : List (List Int)) (i : Nat) (h : ks.length ≤ i) : fewF n (ks.drop i) = n := by
  rw [List.drop_eq_nil_of_le h]; rfl
theorem fewF_sum : ∀ (ks : List (List Int)) (n : Nat), fewF n ks ≤ 2000 → n + ks.length + ks.flatten.length ≤ 2000
  | [], n, h => by simpa [fewF] using h
  | k :: l, n, h => by
    rw [fewF] at h
    by_cases hn : n ≤ 2000
    · rw [if_pos hn] at h
      have := fewF_sum l _ h
      rw [List.length_cons, List.flatten_cons, List.length_append]; omega
    · rw [if_neg hn] at h; omega
theorem few_sum {ks : List (List Int)} {m : Nat} (h : fewB ks m = true) : m + ks.length + ks.flatten.length ≤ 2000 := fewF_sum ks m (of_decide_eq_true h)

set_option maxRecDepth 100000 in
set_option maxHeartbeats 1000000 in
theorem refFew_any (A S : Option Addr) (n c m d : Nat) (ks : List (List Int)) (w : World) (hn : n = ks.length) (hk : Keys w w.heap.size A ks) (hl : ks.length ≤ 1152921504606846976) (hs : ∀ k ∈ ks, k.length ≤ 1152921504606846976) (hm : m ≤ 1152921504606846976) :
    Calls Try.prog 22 #[.agg #[.slice A n c, .slice S m d]] w fun e w' => e = .returned (.bool (fewB ks m)) ∧ Q w w' := by
  subst hn
  have q0 := (Q.refl w).alloc (Obj.cells #[Value.slice A ks.length c, Value.slice S m d] 26)
  have Hk := Lib.hid (hk.q (Nat.le_refl _) q0)
  clear hk
  go_enter Try.func22, Try.ntmps22
  go_wp2_with fail
  have c0 : (w.alloc (Obj.cells #[Value.slice A ks.length c, Value.slice S m d] 26)).cell? ⟨w.heap.size, 0, none⟩ = some (.slice A ks.length c) := by simp
  generalize w.alloc (Obj.cells #[Value.slice A ks.length c, Value.slice S m d] 26) = W at *
  go_loopw [3, 4] (fun s i wr => ∃ (k a : Nat), k ≤ ks.length ∧ i = .int .i64 k ∧ s = .int .i64 a ∧ a ≤ 2305843009213693952 ∧ Hid (fewF m ks = fewF a (ks.drop k)) ∧ W = wr) (fun _ i _ => ks.length - (intOf i).toNat)
  case atStart => exact ⟨0, m, Nat.zero_le _, rfl, rfl, by omega, Lib.hid (by simp), rfl⟩
  case round =>
    obtain ⟨k, a, hk, rfl, rfl, ha, HF, rfl⟩ := hrel
    by_cases hlt : k < ks.length
    · by_cases h2 : a ≤ 2000
      · obtain ⟨ad, rfl, hb, a1, c1, _, k0, _⟩ := Hk.out.at_ hlt
        have HS := Lib.hid (fewF_at a ks k hlt h2)
        have hs1 := hs _ (List.getElem_mem hlt)
        go_wp2_with fail
        go_roundw
        case rel => exact ⟨k + 1, a + 1 + ks[k].length, by omega, by go_num, by go_num, by omega, Lib.hid (HF.out.trans HS.out), trivial⟩
        case measure => simp [intOf]; omega
      · have HS := Lib.hid (fewF_big a (ks.drop k) h2)
        have HR : Hid (fewB ks m = false) := by unfold Hid fewB; rw [HF.out, HS.out]; exact decide_eq_false h2
        go_wp2_with fail
        go_ret
        exact ⟨by rw [HR.out]; simp; omega, q0⟩
    · have HS := Lib.hid (fewF_end a ks k (by omega))
      have HR : Hid (fewB ks m = decide (a ≤ 2000)) := by unfold Hid fewB; rw [HF.out, HS.out]
      go_wp2_with fail
      go_ret
      exact ⟨by rw [HR.out]; simp; omega, q0⟩
end Go.Proofs.Ytjgbheidkjgncaa.Hs

namespace Go.Proofs.Ytjgbheidkjgncaa.Hs
open Go.RowKit Kit

theorem lay_lt (ks : List (List Int)) : ks.length < (layI ks).length := by rw [layI_length]; exact sizeN_gt _
theorem findR_any (A S E : Option Addr) (n c m d ke ce : Nat) (ks : List (List Int)) (key : List Int) (w : World) (hn : n = ks.length) (hm : m = (layI ks).length) (hke : ke = key.length) (hk : Keys w w.heap.size A ks) (hS : Ints w w.heap.size S (layI ks)) (he : Ints w w.heap.size E key)
    (hd : Dist ks) (hs : ∀ k ∈ ks, k.length ≤ maxLen) (hkl : key.length ≤ maxLen) (hl : ks.length ≤ 5000) :
    Calls Try.prog 54 #[.agg #[.slice A n c, .slice S m d], .slice E ke ce] w fun e w' => e = .returned (.int .i64 (atI ks key)) ∧ Q w w' := by
  have hz : (layI ks).length ≤ 100000 := by rw [layI_length]; have := sizeN_le ks.length; omega
  have h := find_any A S E n c m d ke ce ks (layI ks) key w hn hm hke hk hS he hs hkl (by omega)
  rcases atI_cases ks key with ⟨h1, h2⟩ | ⟨i, h1, h2⟩
  · rw [(find_not (lay_inv ks) (lay_lt ks) h2).2] at h
    rw [h1]; exact h
  · obtain ⟨s, _, h4⟩ := find_there (lay_inv ks) hd (by omega) h1
    rw [h4] at h
    rw [h2]; exact h

theorem seek_part {ks : List (List Int)} {sl : List Int} {k : Nat} (hk : k < ks.length) (hi : Inv ks k sl) (hd : Dist ks) (hl : ks.length ≤ 100000) : seekI (sameP ks ks[k]) sl (hashN ks[k]) = seekI nv sl (hashN ks[k]) := by
  unfold seekI
  refine seekL_congr fun x hx => ?_
  obtain ⟨j, hj, rfl⟩ := visits_get _ _ _ _ hx
  have hm : (hashN ks[k] + j) % sl.length < sl.length := Nat.mod_lt _ (by omega)
  have hv := List.getElem?_eq_getElem hm
  have r := hi.range _ _ hv
  obtain ⟨v, hve⟩ : ∃ v, sl[(hashN ks[k] + j) % sl.length]'hm = v := ⟨_, rfl⟩
  rw [hve] at hv r
  simp only [stepOf, visit, hv, Option.getD_some]
  by_cases h0 : v = 0
  · rw [h0]; rfl
  · have hb : (v == 0) = false := by simpa using h0
    rw [hb, wrap_pred (by omega)]
    simp only [Bool.false_eq_true, if_false]
    obtain ⟨t, ht⟩ := Int.eq_ofNat_of_zero_le (show 0 ≤ v - 1 by omega)
    rw [ht]
    have hf : sameP ks ks[k] (t : Int) = false := by
      cases hs : sameP ks ks[k] (t : Int)
      · rfl
      · have := hd k t ks[k] (List.getElem?_eq_getElem hk) ((sameP_nat ks ks[k] t).1 hs)
        omega
    rw [hf]
    rfl

set_option maxRecDepth 100000 in
set_option maxHeartbeats 1000000 in
theorem rightT_any (A S : Option Addr) (n c m d : Nat) (ks : List (List Int)) (w : World) (hn : n = ks.length) (hm : m = sizeN ks.length) (hk : Keys w w.heap.size A ks) (hS : Ints w w.heap.size S (layI ks)) (hd : Dist ks) (hs : ∀ k ∈ ks, k.length ≤ maxLen) (hl : ks.length ≤ 5000) :
    Calls Try.prog 36 #[.agg #[.slice A n c, .slice S m d]] w fun e w' => e = .returned (.bool true) ∧ Q w w' := by
  subst hn
  have hN := sizeN_le ks.length
  have hG := sizeN_gt ks.length
  have hmk := make_ints (sizeN ks.length) (by omega)
  have HI : Hid (layI ks = layF ks 0 (List.replicate m 0)) := by unfold Hid; rw [layI, hm]
  rw [← hm] at hmk hN hG
  have HE := Lib.hid hm
  clear hm
  have q0 := (Q.refl w).alloc (Obj.cells #[Value.slice A ks.length c, Value.slice S m d] 26)
  have Hk := Lib.hid ((hk.q (Nat.le_refl _) q0).more q0.size)
  have HS := Lib.hid ((hS.q (Nat.le_refl _) q0).more q0.size)
  have Hs := Lib.hid hs
  clear hk hS hs
  go_enter Try.func36, Try.ntmps36
  go_wp2_with fail
  have k0 : (w.alloc (Obj.cells #[Value.slice A ks.length c, Value.slice S m d] 26)).cell? ⟨w.heap.size, 0, none⟩ = some (.slice A ks.length c) := by simp
  have k1 : (w.alloc (Obj.cells #[Value.slice A ks.length c, Value.slice S m d] 26)).cell? ⟨w.heap.size, 1, none⟩ = some (.slice S m d) := by simp
  have hlt : w.heap.size < (w.alloc (Obj.cells #[Value.slice A ks.length c, Value.slice S m d] 26)).heap.size := by simp
  generalize w.alloc (Obj.cells #[Value.slice A ks.length c, Value.slice S m d] 26) = W0 at *
  have C : Hid (∀ n, Calls Try.prog 45 #[.int .i64 (ks.length : Int)] (W0.drewN n) fun e w' => e = .returned (.int .i64 m) ∧ ∃ m', w' = (W0.drewN n).drewN m') := fun n => by
    rw [HE.out]
    exact (size_any ks.length (W0.drewN n) (by omega)).mono fun _ _ ⟨he, hw⟩ => ⟨he, 0, hw.symm⟩
  go_quiet (first | (go_at_call 45; exact Calls.quiet_of (C.out _)))
  have q1 : Q W0 (W0.drewN nq) := (Q.refl W0).drewN nq
  have k0' : (W0.drewN nq).cell? ⟨w.heap.size, 0, none⟩ = some (.slice A ks.length c) := k0
  have k1' : (W0.drewN nq).cell? ⟨w.heap.size, 1, none⟩ = some (.slice S m d) := k1
  have q01 := q0.trans q1
  have Hk1 := Lib.hid ((Hk.out.q (Nat.le_refl _) q1).more q1.size)
  have HS1 := Lib.hid ((HS.out.q (Nat.le_refl _) q1).more q1.size)
  have hlt1 : w.heap.size < (W0.drewN nq).heap.size := hlt
  clear k0 k1 C Hk HS
  generalize W0.drewN nq = W1 at *
  have HM := Lib.hid (OwnI.made W1 m 3)
  have HNv := Lib.hid (Inv.start ks m)
  go_wp2_with fail
  clear hmk
  go_loopw [23] (fun i wr => ∃ (k : Nat) (sl : List Int), k ≤ ks.length ∧ i = .int .i64 k ∧ Hid (sl.length = m) ∧ Hid (Inv ks k sl) ∧ Hid (layI ks = layF (ks.drop k) k sl) ∧ Hid (OwnI wr W1.heap.size sl) ∧ Q W1 wr) (fun i _ => ks.length - (intOf i).toNat)
  case atStart => exact ⟨0, _, Nat.zero_le _, rfl, Lib.hid (by simp), HNv, HI, HM, (Q.refl _).alloc _⟩
  case round =>
    obtain ⟨k, sl, hkl, rfl, HL, HV, HF, HO, qr⟩ := hrel
    have k0r := (qr.cell (p := ⟨w.heap.size, 0, none⟩) hlt1).trans k0'
    have k1r := (qr.cell (p := ⟨w.heap.size, 1, none⟩) hlt1).trans k1'
    by_cases hlt2 : k < ks.length
    · obtain ⟨ad, rfl, hb, a, c1, hle, c0, hi⟩ := (Hk1.out.q (Nat.le_refl _) qr).at_ hlt2
      have Hi := Lib.hid (hi.more qr.size)
      have Hkr := Lib.hid ((Hk1.out.q (Nat.le_refl _) qr).more qr.size)
      have Hm := Lib.hid (Hs.out _ (List.getElem_mem hlt2))
      have HS := Lib.hid (layF_at ks k sl hlt2)
      have HV' := Lib.hid (HV.out.step (by have := HL.out; omega) (List.getElem?_eq_getElem hlt2))
      obtain ⟨J, hJ, hz, hbf, hsk⟩ := free_way (hashN ks[k]) (show nz sl < sl.length by have := HV.out.few; have := HL.out; omega)
      have hm2 : (hashN ks[k] + J) % sl.length < sl.length := Nat.mod_lt _ (by omega)
      obtain ⟨s, hse⟩ : ∃ s, (hashN ks[k] + J) % sl.length = s := ⟨_, rfl⟩
      rw [hse] at hsk hm2
      have HP : Hid (putSlot sl ks[k] k = sl.set s ((k : Int) + 1)) := by unfold Hid putSlot slotOf; rw [hsk]; rfl
      rw [← seek_part hlt2 HV.out hd (by omega)] at hsk
      have Hsk := Lib.hid hsk
      have hsN : s < m := by have := HL.out; omega
      have Hm2 := Lib.hid hm2
      have hltr : w.heap.size < wr.heap.size := by have := qr.size; omega
      have HLs := Lib.hid HL.out.symm
      clear hi hz hbf hsk hse hm2 hle
      go_upto_region 7 with fail
      go_region_held3 (fun w' => w'.cell? ⟨w.heap.size, 0, none⟩ = some (.slice (some ad) ks.length c) ∧ w'.cell? ⟨w.heap.size, 1, none⟩ = some (.slice S m d))
        (first
          | go_keep
          | exact ⟨(p1.cell (p := ⟨w.heap.size, 0, none⟩) hltr).trans k0r, (p1.cell (p := ⟨w.heap.size, 1, none⟩) hltr).trans k1r⟩
          | exact ⟨((p1.trans q2).cell (p := ⟨w.heap.size, 0, none⟩) hltr).trans k0r, ((p1.trans q2).cell (p := ⟨w.heap.size, 1, none⟩) hltr).trans k1r⟩)
        (first
          | (go_at_call 41; refine (hashN_any _ _ _ ks[k] _ rfl (by exact Hi.out) Hm.out).mono ?_; rintro e w' ⟨rfl, rfl⟩)
          | (go_at_call 42; refine (sameAsQ_any _ _ _ _ _ _ ks ks[k] _ rfl rfl (by exact Hkr.out) (by exact Hi.out) Hs.out).mono ?_; rintro e w1 ⟨Bk, Be, rfl, q1, hC⟩; have HC := Lib.hid hC; clear hC; have p1 := (Q.refl wr).drew.trans q1)
          | (go_at_call 40; refine (seek_same _ _ _ sl _ (sameP ks ks[k]) Bk Be _ HLs.out (by exact ((HO.out.ints.q (Nat.le_refl _) p1).more p1.size)) (hashN_lt _) (by have := HL.out; omega) HC.out).mono ?_; rintro e w2 ⟨rfl, q2⟩; rw [Hsk.out]))
      have q02 := p1.trans q2
      have HO3 := Lib.hid (HO.out.q q02)
      have hc3 := (HO3.out.at_ Hm2.out).1
      have hf3 := (HO3.out.at_ Hm2.out).2
      clear q1 q2 p1 HC k0r k1r
      go_wp2_with fail
      go_roundw
      case rel => exact ⟨k + 1, sl.set s ((k : Int) + 1), by omega, by go_num, Lib.hid (by rw [List.length_set]; exact HL.out), by rw [← HP.out]; exact HV', Lib.hid (by rw [HF.out, HS.out, HP.out]), Lib.hid (HO3.out.set Hm2.out _), (qr.trans q02).setCell (p := ⟨W1.heap.size, s, none⟩) (Nat.le_refl _) _⟩
      case measure => simp [intOf]; omega
    · have HS := Lib.hid (layF_end ks k sl (by omega))
      have hE : eqL sl (layI ks) = true := (eqL_iff _ _).2 (by rw [HF.out, HS.out])
      have HLs := Lib.hid HL.out.symm
      have HLl : Hid (m = (layI ks).length) := by rw [layI_length]; exact HE
      go_wp2_with fail
      refine (equal_any _ _ _ _ _ _ sl (layI ks) _ HLs.out HLl.out HO.out.ints ((HS1.out.q (Nat.le_refl _) qr).more qr.size) (by unfold maxLen; have := HL.out; omega)).mono ?_
      rintro e w' ⟨rfl, hdr⟩
      have q3 := Q.of_drewN hdr
      rw [hE]
      clear hdr
      go_wp2_with fail
      go_ret
      exact ⟨rfl, (q01.trans qr).trans q3⟩
end Go.Proofs.Ytjgbheidkjgncaa.Hs

namespace Go.Proofs.Ytjgbheidkjgncaa.Hs
open Go.RowKit Kit

theorem dist0 : Dist [] := fun i j x h => by simp at h
end Go.Proofs.Ytjgbheidkjgncaa.Hs

namespace Go.Proofs.Ytjgbheidkjgncaa.Hs
open Go.RowKit Kit

def rdF (ks : List (List Int)) : List (List Int) → Nat → Bool
  | [], _ => true
  | k :: l, i => (atI ks k == (i : Int)) && rdF ks l (i + 1)
def rightB (ks : List (List Int)) (sl : List Int) : Bool := rdF ks ks 0 && eqL sl (layI ks)
theorem rdF_at (ks : List (List Int)) (i : Nat) (h : i < ks.length) : rdF ks (ks.drop i) i = ((atI ks ks[i] == (i : Int)) && rdF ks (ks.drop (i + 1)) (i + 1)) := by
  rw [List.drop_eq_getElem_cons h]; rfl
theorem rdF_end (ks : List (List Int)) (i : Nat) (h : ks.length ≤ i) : rdF ks (ks.drop i) i = true := by
  rw [List.drop_eq_nil_of_le h]; rfl
theorem rdF_get (ks : List (List Int)) : ∀ (l : List (List Int)) (k : Nat), rdF ks l k = true → ∀ (i : Nat) (x : List Int), l[i]? = some x → atI ks x = ((k + i : Nat) : Int)
  | [], _, _, i, x, hx => by simp at hx
  | y :: l, k, h, i, x, hx => by
    simp only [rdF, Bool.and_eq_true, beq_iff_eq] at h
    cases i with
    | zero => obtain rfl : y = x := by simpa using hx
              rw [h.1]; rfl
    | succ i => rw [rdF_get ks l (k + 1) h.2 i x (by simpa using hx)]; congr 1; omega
theorem rdF_dist {ks : List (List Int)} (h : rdF ks ks 0 = true) : Dist ks := fun i j x hi hj => by
  have h1 := rdF_get ks ks 0 h i x hi
  have h2 := rdF_get ks ks 0 h j x hj
  omega
theorem rdF_of {ks : List (List Int)} (hd : Dist ks) : ∀ (l : List (List Int)) (k : Nat), (∀ (i : Nat) (x : List Int), l[i]? = some x → ks[k + i]? = some x) → rdF ks l k = true
  | [], _, _ => rfl
  | y :: l, k, h => by
    simp only [rdF, Bool.and_eq_true, beq_iff_eq]
    refine ⟨atI_some hd (by simpa using h 0 y rfl), rdF_of hd l (k + 1) fun i x hx => ?_⟩
    have := h (i + 1) x (by simpa using hx)
    rwa [show k + 1 + i = k + (i + 1) by omega]
theorem right_iff (ks : List (List Int)) (sl : List Int) : rightB ks sl = true ↔ Dist ks ∧ sl = layI ks := by
  unfold rightB
  rw [Bool.and_eq_true, eqL_iff]
  exact ⟨fun h => ⟨rdF_dist h.1, h.2⟩, fun h => ⟨rdF_of h.1 ks 0 fun i x hx => by simpa using hx, h.2⟩⟩

set_option maxRecDepth 100000 in
set_option maxHeartbeats 1000000 in
theorem refRight_any (A S : Option Addr) (n c m d : Nat) (ks : List (List Int)) (sl : List Int) (w : World) (hn : n = ks.length) (hm : m = sl.length) (hk : Keys w w.heap.size A ks) (hS : Ints w w.heap.size S sl) (hs : ∀ k ∈ ks, k.length ≤ maxLen) (hl : ks.length ≤ 5000) (hsl : sl.length ≤ maxLen) :
    Calls Try.prog 23 #[.agg #[.slice A n c, .slice S m d]] w fun e w' => e = .returned (.bool (rightB ks sl)) ∧ Q w w' := by
  subst hn
  subst hm
  have q0 := (Q.refl w).alloc (Obj.cells #[Value.slice A ks.length c, Value.slice S sl.length d] 26)
  have Hk := Lib.hid ((hk.q (Nat.le_refl _) q0).more q0.size)
  have HS := Lib.hid ((hS.q (Nat.le_refl _) q0).more q0.size)
  have Hs := Lib.hid hs
  clear hk hS hs
  go_enter Try.func23, Try.ntmps23
  go_wp2_with fail
  have k0 : (w.alloc (Obj.cells #[Value.slice A ks.length c, Value.slice S sl.length d] 26)).cell? ⟨w.heap.size, 0, none⟩ = some (.slice A ks.length c) := by simp
  have k1 : (w.alloc (Obj.cells #[Value.slice A ks.length c, Value.slice S sl.length d] 26)).cell? ⟨w.heap.size, 1, none⟩ = some (.slice S sl.length d) := by simp
  have hlt : w.heap.size < (w.alloc (Obj.cells #[Value.slice A ks.length c, Value.slice S sl.length d] 26)).heap.size := by simp
  generalize w.alloc (Obj.cells #[Value.slice A ks.length c, Value.slice S sl.length d] 26) = W0 at *
  go_loopw [3] (fun i wr => ∃ k : Nat, k ≤ ks.length ∧ i = .int .i64 k ∧ Hid (rdF ks ks 0 = rdF ks (ks.drop k) k) ∧ Hid (∃ d, wr = W0.drewN d)) (fun i _ => ks.length - (intOf i).toNat)
  case atStart => exact ⟨0, Nat.zero_le _, rfl, Lib.hid rfl, Lib.hid ⟨0, rfl⟩⟩
  case round =>
    obtain ⟨k, hkl, rfl, HF, HD⟩ := hrel
    have k0r : wr.cell? ⟨w.heap.size, 0, none⟩ = some (.slice A ks.length c) := by obtain ⟨d, rfl⟩ := HD.out; exact k0
    have k1r : wr.cell? ⟨w.heap.size, 1, none⟩ = some (.slice S sl.length d) := by obtain ⟨d, rfl⟩ := HD.out; exact k1
    have Hkr : Hid (Keys wr wr.heap.size A ks) := by obtain ⟨d, rfl⟩ := HD.out; exact Hk.out
    have HSr : Hid (Ints wr wr.heap.size S sl) := by obtain ⟨d, rfl⟩ := HD.out; exact HS.out
    have qr : Q W0 wr := Q.of_drewN HD.out
    clear k0 k1 Hk HS
    by_cases hlt2 : k < ks.length
    · obtain ⟨ad, rfl, hb, a, c1, _, c0, hi⟩ := Hkr.out.at_ hlt2
      have HS2 := Lib.hid (rdF_at ks k hlt2)
      have C : Hid (∀ n, Calls Try.prog 18 #[.slice (some ad) ks.length c, .slice a ks[k].length c1] (wr.drewN n) fun e w' => e = .returned (.int .i64 (atI ks ks[k])) ∧ ∃ m', w' = (wr.drewN n).drewN m') := fun n =>
        refAt_any (some ad) a _ c _ c1 ks ks[k] (wr.drewN n) rfl rfl Hkr.out hi (by unfold maxLen; omega) Hs.out
      have j0 : (0 : Int) ≤ (k : Int) := Int.natCast_nonneg _
      have j1 : (k : Int) < (ks.length : Int) := by omega
      clear hi
      cases he : (atI ks ks[k] == (k : Int))
      · have hne : (atI ks ks[k] != (k : Int)) = true := by simpa using he
        have HR : Hid (rightB ks sl = false) := by unfold Hid rightB; rw [HF.out, HS2.out, he]; rfl
        clear he
        go_wp2_with fail
        go_quiet (first | (go_at_call 18; exact Calls.quiet_of (C.out _)))
        go_wp2_with fail
        go_ret
        exact ⟨by rw [HR.out]; rfl, (q0.trans qr).drewN _⟩
      · have hne : (atI ks ks[k] != (k : Int)) = false := by simpa using he
        have HR : Hid (rdF ks (ks.drop k) k = rdF ks (ks.drop (k + 1)) (k + 1)) := by unfold Hid; rw [HS2.out, he]; rfl
        clear he
        go_wp2_with fail
        go_quiet (first | (go_at_call 18; exact Calls.quiet_of (C.out _)))
        go_wp2_with fail
        go_roundw
        case rel => exact ⟨k + 1, by omega, by go_num, Lib.hid (HF.out.trans HR.out), Lib.hid (by obtain ⟨d, rfl⟩ := HD.out; exact ⟨_, drewN_add' _ _ _⟩)⟩
        case measure => simp [intOf]; omega
    · have HR : Hid (rightB ks sl = eqL sl (layI ks)) := by unfold Hid rightB; rw [HF.out, rdF_end ks k (by omega)]; rfl
      have hltr : w.heap.size < wr.heap.size := by have := qr.size; omega
      have HLl : Hid (sizeN ks.length = (layI ks).length) := Lib.hid (layI_length ks).symm
      go_wp2_with fail
      go_region_held3 (fun w' => w'.cell? ⟨w.heap.size, 0, none⟩ = some (.slice A ks.length c) ∧ w'.cell? ⟨w.heap.size, 1, none⟩ = some (.slice S sl.length d))
        (first
          | go_keep
          | exact ⟨(p1.cell (p := ⟨w.heap.size, 0, none⟩) hltr).trans k0r, (p1.cell (p := ⟨w.heap.size, 1, none⟩) hltr).trans k1r⟩
          | exact ⟨((p1.trans q2).cell (p := ⟨w.heap.size, 0, none⟩) hltr).trans k0r, ((p1.trans q2).cell (p := ⟨w.heap.size, 1, none⟩) hltr).trans k1r⟩)
        (first
          | (go_at_call 39; refine (refLay_any _ _ _ ks _ rfl (by exact Hkr.out) (by omega) Hs.out).mono ?_; rintro e w1 ⟨g, rfl, hg, hO, q1⟩; have HO := Lib.hid hO; clear hO; have p1 := (Q.refl wr).drew.trans q1)
          | (go_at_call 33; refine (refInts_any _ _ _ _ _ _ sl (layI ks) _ rfl HLl.out (by exact ((HSr.out.q (Nat.le_refl _) p1).more p1.size)) (by exact HO.out.ints) hsl).mono ?_; rintro e w2 ⟨rfl, hd2⟩; have q2 := Q.of_drewN hd2; clear hd2))
      go_wp2_with fail
      go_ret
      exact ⟨by rw [HR.out]; rfl, ((q0.trans qr).trans p1).trans q2⟩
end Go.Proofs.Ytjgbheidkjgncaa.Hs

namespace Go.Proofs.Ytjgbheidkjgncaa.Hs
open Go.ChangeShapes Go.WideShapes Go.RowKit Kit Go.Deep Go.Joins

theorem bytes_int : Try.prog.bytesOf 3 = 8 := by kernel_rfl
theorem bytes_ints : Try.prog.bytesOf 24 = 24 := by kernel_rfl
theorem cells_int : Try.prog.cellsOf 3 = 1 := by kernel_rfl
theorem cells_ints : Try.prog.cellsOf 24 = 1 := by kernel_rfl
theorem cells_rows : Try.prog.cellsOf 23 = 1 := by kernel_rfl

theorem weights_all {H : Type} {P : Program} {e : TypeId} : ∀ {ds : List (DataW H)} {d : DataW H}, d ∈ ds → ∀ n ∈ d.weights P e, n ∈ DataW.weightsAll P e ds
  | x :: l, d, h, n, hn => by
    simp only [DataW.weightsAll, List.mem_append]
    rcases List.mem_cons.1 h with rfl | h
    · exact .inl hn
    · exact .inr (weights_all h n hn)

section
variable {H : Type} {enc : TypeId × Value → H} {W : World} {base : Nat}
set_option maxRecDepth 100000 in
theorem open_row_cells {fuel : Nat} {v : Value} {x : DataW H × List MemPlace} (h : DataW.trod enc Try.prog W 0 (fun _ => true) true fuel 24 [v] = some x) (hz : ∀ n ∈ x.1.weights Try.prog 24, n ≤ reachBytes) :
    ∃ A n c l, v = .slice A n c ∧ n = l.length ∧ n ≤ c ∧ Ints W W.heap.size A l ∧ l.length ≤ 1152921504606846976 := by
  rcases open_ints Try.underlying24 Try.underlying3 cells_int h with ⟨hcs, hx⟩ | ⟨a, len, cap, zs, hcs, _, hl, _, hlen, hx, hcell, _⟩
  · obtain rfl : v = .slice none 0 0 := by simpa using hcs
    exact ⟨none, 0, 0, [], rfl, rfl, Nat.le_refl _, fun h => absurd h (by simp), by simp⟩
  · obtain rfl : v = .slice (some a) len cap := by simpa using hcs
    simp only [if_true] at hlen
    have hw : (((lits .i64 (zs.take len) : List (DataW H))).length + ((lits .i64 (zs.drop len) : List (DataW H))).length) * Try.prog.bytesOf 3 ≤ reachBytes := by
      refine hz _ ?_
      rw [hx]
      simp [DataW.weights, Try.underlying24]
    rw [bytes_int] at hw
    have hll : (zs.take len).length = len := by rw [List.length_take, hlen]; omega
    refine ⟨_, _, _, zs.take len, rfl, hll.symm, hl, fun h0 => ⟨a, rfl, ?_, fun i y hy => ?_⟩, ?_⟩
    · have := hcell 0 (by omega)
      have := World.block_lt_of_cell? W _ this
      rwa [add_block] at this
    · have hi : i < len := by have := (List.getElem?_eq_some_iff.1 hy).1; omega
      rw [List.getElem?_take, if_pos hi] at hy
      rw [hcell i (by omega)]
      simp [hy]
    · simp [lits, reachBytes] at hw
      rw [hll]; omega
set_option maxRecDepth 100000 in
theorem open_rows_cells {fuel : Nat} {v : Value} {x : DataW H × List MemPlace} (h : DataW.trod enc Try.prog W 0 (fun _ => true) true fuel 23 [v] = some x) (hz : ∀ n ∈ x.1.weights Try.prog 23, n ≤ reachBytes) :
    ∃ A n c ks, v = .slice A n c ∧ n = ks.length ∧ Keys W W.heap.size A ks ∧ ks.length ≤ 1152921504606846976 ∧ ∀ k ∈ ks, k.length ≤ 1152921504606846976 := by
  rcases open_int_rows Try.underlying23 Try.underlying24 Try.underlying3 cells_ints cells_int h with ⟨hcs, hx⟩ | ⟨a, len, cap, A, L, C, Z, hcs, _, hl, _, hx, hi⟩
  · obtain rfl : v = .slice none 0 0 := by simpa using hcs
    exact ⟨none, 0, 0, [], rfl, rfl, fun h => absurd h (by simp), by simp, by simp⟩
  · obtain rfl : v = .slice (some a) len cap := by simpa using hcs
    have hwr : ∀ r, r < len → ∀ n ∈ (intRow .i64 (A r) (L r) (Z r) : DataW H).weights Try.prog 24, n ≤ reachBytes := fun r hr n hn => by
      refine hz _ ?_
      rw [hx]
      simp only [DataW.weights, Try.underlying23, List.mem_cons, List.mem_append]
      exact .inr (.inl (weights_all (List.mem_map.2 ⟨r, by simpa using hr, rfl⟩) n hn))
    have hlen : len ≤ 1152921504606846976 := by
      have := hz ((((List.range len).map fun r => (intRow .i64 (A r) (L r) (Z r) : DataW H)).length + ((List.range (cap - len)).map fun j => (intRow .i64 (A (len + j)) (L (len + j)) (Z (len + j)) : DataW H)).length) * Try.prog.bytesOf 24) (by
        rw [hx]
        simp only [DataW.weights, Try.underlying23]
        exact List.mem_cons_self ..)
      rw [bytes_ints] at this
      simp [reachBytes] at this
      omega
    have hL : ∀ r, r < len → L r ≤ 1152921504606846976 := fun r hr => by
      obtain ⟨_, h1, _, h3, _, h5, _⟩ := hi r (by omega)
      cases hA : A r with
      | none => have := h5 hA; omega
      | some a' =>
        have := hwr r hr (((lits .i64 ((Z r).take (L r)) : List (DataW H)).length + (lits .i64 ((Z r).drop (L r)) : List (DataW H)).length) * Try.prog.bytesOf 3) (by
          rw [hA]
          simp [intRow, DataW.weights, Try.underlying24])
        rw [bytes_int] at this
        simp [lits, reachBytes] at this
        omega
    have hT : ∀ r, r < len → ((Z r).take (L r)).length = L r := fun r hr => by
      obtain ⟨_, h1, _, h3, _⟩ := hi r (by omega)
      rw [List.length_take]; omega
    refine ⟨_, _, _, (List.range len).map fun r => (Z r).take (L r), rfl, by simp, fun h0 => ⟨a, rfl, ?_, fun i k hk => ?_⟩, by simpa using hlen, fun k hk => ?_⟩
    · have h0' : 0 < len := by simpa using h0
      have := (hi 0 (by omega)).1
      have := World.block_lt_of_cell? W _ this
      rwa [add_block] at this
    · have hil : i < len := by have := (List.getElem?_eq_some_iff.1 hk).1; simpa using this
      obtain rfl : (Z i).take (L i) = k := by simpa [hil] using hk
      obtain ⟨h0', h1, _, h3, _, h5, h6⟩ := hi i (by omega)
      rw [hT i hil]
      refine ⟨A i, C i, h1, h0', fun hp => ?_⟩
      rw [hT i hil] at hp
      cases hA : A i with
      | none => have := h5 hA; omega
      | some a' =>
        obtain ⟨_, hc⟩ := h6 a' hA
        refine ⟨a', rfl, ?_, fun j y hy => ?_⟩
        · have := World.block_lt_of_cell? W _ (hc 0 (by omega))
          rwa [add_block] at this
        · have hj : j < L i := by have := (List.getElem?_eq_some_iff.1 hy).1; rw [hT i hil] at this; exact this
          rw [List.getElem?_take, if_pos hj] at hy
          rw [hc j (by omega)]
          simp [hy]
    · obtain ⟨r, hr, rfl⟩ := List.mem_map.1 hk
      have hr' : r < len := by simpa using hr
      rw [hT r hr']
      exact hL r hr'
end
end Go.Proofs.Ytjgbheidkjgncaa.Hs

namespace Go.Proofs.Ytjgbheidkjgncaa.Hs
open Go.RowKit Kit

theorem few_lens {ks : List (List Int)} {m : Nat} (hf : fewB ks m = true) : ∀ k ∈ ks, k.length ≤ maxLen := fun k hk => by have := few_sum hf; have := mem_len hk; unfold maxLen; omega
theorem new_again {ks : List (List Int)} {key : List Int} (hd : Dist ks) : newB (putL ks key) key = false := by
  have h := putL_at (key := key) hd
  have h0 := @placeI_nonneg ks key
  unfold newB
  exact decide_eq_false (by omega)

end Go.Proofs.Ytjgbheidkjgncaa.Hs

namespace Go.Proofs.Ytjgbheidkjgncaa.Hs
open Go.RowKit Kit

end Go.Proofs.Ytjgbheidkjgncaa.Hs

namespace Go.Proofs.Ytjgbheidkjgncaa.Sg
open Go.RowKit Kit

def inB (lo hi c : Int) : Bool := decide (lo ≤ c) && decide (c ≤ hi)

def goesB (c : Int) : Bool := inB 97 122 c || inB 65 90 c || inB 48 57 c || (c == 95)

def restB (l : List UInt8) : Bool := (l.drop 1).all fun c => goesB c.toNat
/-- a name whose first byte lies from lo to hi -/
def nameB (lo hi : Int) (l : List UInt8) : Bool :=
  match l with
  | [] => false
  | c :: _ => decide (l.length ≤ 20) && inB lo hi c.toNat && restB l

def argB (c : Int) : Bool := c == 43 || c == 45 || c == 61
def argsB (l : List UInt8) : Bool := decide (l.length ≤ 8) && l.all fun c => argB c.toNat
abbrev Sig := ByteArray × ByteArray
theorem add_block (a : Addr) (n : Nat) : (a.add n).block = a.block := by unfold Addr.add; split <;> rfl
theorem add_succ (a : Addr) (n : Nat) : a.add (n + 1) = ⟨(a.add n).block, (a.add n).off + 1, none⟩ := by
  unfold Addr.add
  by_cases h : n = 0 <;> simp [h, Nat.add_assoc]

/-- two texts are the same -/
def eqS (a b : ByteArray) : Bool := a.toList == b.toList
/-- where the first constructor of a name stands, from k on; -1 -/
def findI (t : ByteArray) : List Sig → Nat → Int
  | [], _ => -1
  | s :: l, k => if eqS s.1 t then k else findI t l (k + 1)
def conB (t : ByteArray) : Bool := nameB 97 122 t.data.toList
def partsB (t : ByteArray) : Bool := argsB t.data.toList

def rightG (L : List Sig) : List Sig → Nat → Bool
  | [], _ => true
  | s :: l, k => (conB s.1 && partsB s.2 && (findI s.1 L 0 == (k : Int))) && rightG L l (k + 1)
def rightB (l : List Sig) : Bool := decide (l.length ≤ 64) && rightG l l 0
def letB (c : Int) : Bool := inB 97 122 c || inB 65 90 c
def figB (c : Int) : Bool := inB 48 57 c || (c == 95)
def okAt (k : Nat) (c : Int) : Bool := letB c || (!(k == 0) && figB c)
end Go.Proofs.Ytjgbheidkjgncaa.Sg

namespace Go.Proofs.Ytjgbheidkjgncaa.Tm
open Go.RowKit Kit Hs

end Go.Proofs.Ytjgbheidkjgncaa.Tm

namespace Go.Proofs.Ytjgbheidkjgncaa.Tm
open Go.RowKit Kit Hs

end Go.Proofs.Ytjgbheidkjgncaa.Tm

namespace Go.Proofs.Ytjgbheidkjgncaa.Tm
open Go.RowKit Kit Hs

theorem setCell_ne {W : World} {B i j : Nat} {v u : Value} (h : i ≠ j) (hc : W.cell? ⟨B, j, none⟩ = some u) : (W.setCell ⟨B, i, none⟩ v).cell? ⟨B, j, none⟩ = some u := by
  have := World.cell?_setCell_other (w := W) (a := ⟨B, i, none⟩) (b := ⟨B, j, none⟩) (v := v) (by intro e; injection e with _ e; exact h e)
  exact this.trans hc
theorem setCell_eq {W : World} {B i : Nat} {v u : Value} (hc : W.cell? ⟨B, i, none⟩ = some u) : (W.setCell ⟨B, i, none⟩ v).cell? ⟨B, i, none⟩ = some v := World.cell?_setCell_same' _ _ _ (by rw [hc]; rfl)
end Go.Proofs.Ytjgbheidkjgncaa.Tm

namespace Go.Proofs.Ytjgbheidkjgncaa.Tm
open Go.RowKit Kit Hs Go.Maps

def partsN (k : Int) : Int := if k = 4 then 2 else if k = 5 then 2 else if k = 6 then 1 else 0
def Wf (k : Int) : Prop := -9223372036854775808 ≤ k ∧ k ≤ 9223372036854775807
theorem Wf.lit {k : Int} (h : Wf k) : (Lit.int .i64 k).wf = true := WalkArith.wf_i64 h

end Go.Proofs.Ytjgbheidkjgncaa.Tm

namespace Go.Proofs.Ytjgbheidkjgncaa.Tm
open Go.RowKit Kit Hs

end Go.Proofs.Ytjgbheidkjgncaa.Tm

namespace Go.Proofs.Ytjgbheidkjgncaa.Tm
open Go.RowKit Kit Hs

end Go.Proofs.Ytjgbheidkjgncaa.Tm

namespace Go.Proofs.Ytjgbheidkjgncaa.Tm
open Go.RowKit Kit Hs

end Go.Proofs.Ytjgbheidkjgncaa.Tm

namespace Go.Proofs.Ytjgbheidkjgncaa.Tm
open Go.RowKit Kit Hs

end Go.Proofs.Ytjgbheidkjgncaa.Tm
