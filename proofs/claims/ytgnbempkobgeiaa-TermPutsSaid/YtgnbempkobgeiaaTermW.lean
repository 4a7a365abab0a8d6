/-
  Of what a term is made: marks in a row of bools, plain; and contract of term.Below.
-/
import Derived.Test.YtgnbempkobgeiaaTermV
namespace Go.Proofs.Ytgnbempkobgeiaa.Tm
open Go.RowKit Kit Hs

/-! ### marks -/
def argsOf (ks : List (List Int)) (y : Nat) : List Int := ((termAt ks (y : Int)).getD .none).xs
def markAll (at' : Nat) : List Int → List Bool → List Bool
  | [], mk => mk
  | x :: r, mk => markAll at' r (if isPl x at' then mk.set x.toNat true else mk)
def belF (ks : List (List Int)) : Nat → List Bool → List Int → List Int
  | 0, _, out => out
  | n + 1, mk, out => if mk[n]?.getD false then belF ks n (markAll n (argsOf ks n) mk) (out ++ [(n : Int)]) else belF ks n mk out
def belowL (ks : List (List Int)) (id : Nat) : List Int := (belF ks (id + 1) ((List.replicate (id + 1) false).set id true) []).reverse
theorem markAll_at (a : Nat) (xs : List Int) (mk : List Bool) (j : Nat) (h : j < xs.length) : markAll a (xs.drop j) mk = markAll a (xs.drop (j + 1)) (if isPl xs[j] a then mk.set xs[j].toNat true else mk) := by
  rw [List.drop_eq_getElem_cons h]; rfl
theorem markAll_end (a : Nat) (xs : List Int) (mk : List Bool) (j : Nat) (h : xs.length ≤ j) : markAll a (xs.drop j) mk = mk := by
  rw [List.drop_eq_nil_of_le h]; rfl
theorem markAll_length (a : Nat) : ∀ (xs : List Int) (mk : List Bool), (markAll a xs mk).length = mk.length
  | [], _ => rfl
  | x :: r, mk => by rw [markAll, markAll_length a r]; split <;> simp
theorem belF_yes {ks : List (List Int)} {n : Nat} {mk : List Bool} {out : List Int} (h : mk[n]? = some true) : belF ks (n + 1) mk out = belF ks n (markAll n (argsOf ks n) mk) (out ++ [(n : Int)]) := by rw [belF, h]; rfl
theorem belF_no {ks : List (List Int)} {n : Nat} {mk : List Bool} {out : List Int} (h : mk[n]? = some false) : belF ks (n + 1) mk out = belF ks n mk out := by rw [belF, h]; rfl

/-- block g holds these bools, from its head on, and may be written -/
def OwnB (w : World) (g : Nat) (mk : List Bool) : Prop := g < w.heap.size ∧ ∀ i b, mk[i]? = some b → w.cell? ⟨g, i, none⟩ = some (.bool b) ∧ w.frozen? ⟨g, i, none⟩ = false
theorem OwnB.q {w w' : World} {g : Nat} {mk : List Bool} (h : OwnB w g mk) (q : Q w w') : OwnB w' g mk :=
  ⟨Nat.lt_of_lt_of_le h.1 q.size, fun i x hx => ⟨(q.cell (p := ⟨g, i, none⟩) h.1).trans (h.2 i x hx).1, (q.frozen (p := ⟨g, i, none⟩) h.1).trans (h.2 i x hx).2⟩⟩
theorem OwnB.grown {w w' : World} {g : Nat} {mk : List Bool} {row : Option Nat} (h : OwnB w g mk) (hg : w.grownBy w' row) (hne : some g ≠ row) : OwnB w' g mk :=
  ⟨Nat.lt_of_lt_of_le h.1 hg.size, fun i x hx => ⟨(hg.cell_far ⟨g, i, none⟩ h.1 hne).trans (h.2 i x hx).1, (hg.frozen_far ⟨g, i, none⟩ h.1 hne).trans (h.2 i x hx).2⟩⟩
theorem OwnB.set {w : World} {g : Nat} {mk : List Bool} (h : OwnB w g mk) {s : Nat} (hs : s < mk.length) (v : Bool) : OwnB (w.setCell ⟨g, s, none⟩ (.bool v)) g (mk.set s v) := by
  refine ⟨by simp [World.setCell]; exact h.1, fun i x hx => ?_⟩
  rw [World.frozen?_setCell]
  have hc := h.2 s _ (List.getElem?_eq_getElem hs)
  by_cases hi : s = i
  · subst hi
    rw [List.getElem?_set_self hs] at hx
    obtain rfl : v = x := by simpa using hx
    exact ⟨setCell_eq hc.1, hc.2⟩
  · rw [List.getElem?_set_ne hi] at hx
    exact ⟨setCell_ne hi (h.2 i x hx).1, (h.2 i x hx).2⟩
theorem OwnB.made (w : World) (n : Nat) (t : TypeId) : OwnB (w.alloc (.cells (madeCells #[.bool false] n) t)) w.heap.size (List.replicate n false) := by
  refine ⟨by simp, fun i x hx => ?_⟩
  have hi : i < n := by have := (List.getElem?_eq_some_iff.1 hx).1; simpa using this
  have e : x = false := by rw [List.getElem?_replicate, if_pos hi] at hx; simpa using hx.symm
  subst e
  refine ⟨?_, World.frozen?_alloc_at _ _ _ _ rfl⟩
  rw [cell_of_row _ _ _ _ _ _ (heap_alloc_new w _)]
  simp [madeCells, hi, Nat.mod_one]
theorem boolInfo : (Try.prog.info? 4).map (fun i => (i.zero, i.size, i.bytes)) = some (some (.bool false), 1, 1) := by kernel_rfl
theorem make_bools (n : Nat) (hn : n ≤ 100000000) (u : World) : (Instr.makeSlice 46 (.int .i64 (n : Int)) (.int .i64 (n : Int))).run Try.prog u = .ok (.slice (some ⟨u.heap.size, 0, none⟩) n n) (u.alloc (.cells (madeCells #[.bool false] n) 4)) := by
  obtain ⟨i0, hi, hz0, hz1, hz2⟩ := info_parts boolInfo
  have h := run_make (P := Try.prog) u 46 4 i0 _ Try.underlying46 hi hz0 .i64 .i64 (n : Int) (n : Int) (by omega) (by omega) (by rw [hz2]; omega) (by omega)
  rw [hz1, Nat.mul_one] at h
  exact h
theorem grown_set (w : World) (b i : Nat) (v : Value) : w.grownBy (w.setCell ⟨b, i, none⟩ v) (some b) :=
  ⟨rfl, rfl, rfl, by simp [World.setCell], fun k _ hk => Below.heap_setCell _ _ _ _ (fun e => hk (by simp [e]))⟩
end Go.Proofs.Ytgnbempkobgeiaa.Tm
