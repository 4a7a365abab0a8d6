/-
  Plain: what is done behind a mark, and taken back.
-/
import Derived.Test.YtodmompfnlcjpaaTrailO
import Derived.Test.YtodmompfnlcjpaaTrailS
namespace Go.Proofs.Ytodmompfnlcjpaa.Tr
open Go.RowKit Kit

theorem mkB_mono {n n' : Int} (h : n ≤ n') : ∀ {p : Int} {M : List Int}, mkB n p M = true → mkB n' p M = true
  | _, [], _ => rfl
  | p, x :: l, hm => by
    rw [mkB, Bool.and_eq_true, Bool.and_eq_true, decide_eq_true_eq, decide_eq_true_eq] at hm ⊢
    exact ⟨⟨hm.1.1, by omega⟩, mkB_mono h hm.2⟩
theorem mkB_last {n : Int} : ∀ {p : Int} {M : List Int}, mkB n p M = true → p ≤ n → M.getLastD p ≤ n ∧ p ≤ M.getLastD p
  | p, [], _, h => ⟨h, Int.le_refl _⟩
  | p, x :: l, hm, _ => by
    rw [mkB, Bool.and_eq_true, Bool.and_eq_true, decide_eq_true_eq, decide_eq_true_eq] at hm
    have := mkB_last hm.2 hm.1.2
    have e : (x :: l).getLastD p = l.getLastD x := by cases l <;> simp [List.getLastD]
    rw [e]
    exact ⟨this.1, by omega⟩
theorem mkB_cut {n x : Int} : ∀ {p : Int} {M : List Int}, mkB n p (M ++ [x]) = true → mkB x p M = true
  | _, [], _ => rfl
  | p, y :: l, hm => by
    rw [List.cons_append, mkB, Bool.and_eq_true, Bool.and_eq_true, decide_eq_true_eq, decide_eq_true_eq] at hm
    rw [mkB, Bool.and_eq_true, Bool.and_eq_true, decide_eq_true_eq, decide_eq_true_eq]
    have h := mkB_last hm.2 hm.1.2
    rw [List.getLastD_concat] at h
    exact ⟨⟨hm.1.1, h.2⟩, mkB_cut hm.2⟩
theorem mkB_front {n : Int} {p : Int} {a b : List Int} (h : mkB n p (a ++ b) = true) : mkB n p a = true := by
  rw [mkB_append, Bool.and_eq_true] at h; exact h.1
theorem right_parts {c : Cells} (h : rightB c = true) : mkB c.N.length 0 c.M = true ∧ (backs c.N c.V).isSome = true := by
  unfold rightB at h; rwa [Bool.and_eq_true] at h
theorem right_mk {c : Cells} (h1 : mkB c.N.length 0 c.M = true) (h2 : (backs c.N c.V).isSome = true) : rightB c = true := by unfold rightB; rw [h1, h2]; rfl
theorem right_mark {c : Cells} (h : rightB c = true) : rightB (markC c) = true := by
  obtain ⟨h1, h2⟩ := right_parts h
  refine right_mk ?_ h2
  show mkB c.N.length 0 (c.M ++ [(c.N.length : Int)]) = true
  rw [mkB_append, h1, Bool.true_and, mkB, mkB]
  have := (mkB_last h1 (by omega)).1
  rw [decide_eq_true this, decide_eq_true (Int.le_refl _)]; rfl
theorem backs_snoc {N : List Note} {x : Note} {V V' : List Int} (h : back1 x V = some V') : backs (N ++ [x]) V = backs N V' := by
  unfold backs
  rw [List.reverse_append]
  show (back1 x V).bind (backR N.reverse) = _
  rw [h]; rfl
theorem back1_grow (V : List Int) (x : Int) : back1 (-1, 0) (V ++ [x]) = some V := by
  rw [back1_cut 0 _ (by simp)]; simp
theorem back1_set {V : List Int} {a : Nat} (x : Int) (ha : a < V.length) : back1 ((a : Int), V.getD a 0) (V.set a x) = some V := by
  rw [back1_put a _ _ (by rw [List.length_set]; exact ha)]; simp [ha]
theorem right_snoc {c d : Cells} {x : Note} (h : rightB c = true) (hM : d.M = c.M) (hN : d.N = c.N ++ [x]) (hb : back1 x d.V = some c.V) : rightB d = true := by
  obtain ⟨h1, h2⟩ := right_parts h
  refine right_mk ?_ ?_
  · rw [hM, hN]; exact mkB_mono (by simp; omega) h1
  · rw [hN, backs_snoc hb]; exact h2

structure Beh (c d : Cells) (dp : Nat) : Prop where
  ext : ∃ E : List Int, d.M = c.M ++ (c.N.length : Int) :: E ∧ E.length = dp
  le : c.N.length ≤ d.N.length
  tk : d.N.take c.N.length = c.N
  bk : backR (d.N.drop c.N.length).reverse d.V = some c.V
  rt : rightB d = true
theorem Beh.len {c d : Cells} {dp : Nat} (h : Beh c d dp) : d.M.length = c.M.length + 1 + dp := by
  obtain ⟨E, e, hE⟩ := h.ext
  rw [e, List.length_append, List.length_cons]; omega
theorem beh_start {c : Cells} (h : rightB c = true) : Beh c (markC c) 0 :=
  ⟨⟨[], rfl, rfl⟩, Nat.le_refl _, by simp [markC], by simp [markC, backR], right_mark h⟩
theorem beh_mark {c d : Cells} {dp : Nat} (h : Beh c d dp) : Beh c (markC d) (dp + 1) := by
  obtain ⟨E, e, hE⟩ := h.ext
  exact ⟨⟨E ++ [(d.N.length : Int)], by show d.M ++ [_] = _; rw [e]; simp, by simp [hE]⟩, h.le, h.tk, h.bk, right_mark h.rt⟩
theorem beh_snoc {c d d' : Cells} {dp : Nat} {x : Note} (h : Beh c d dp) (hM : d'.M = d.M) (hN : d'.N = d.N ++ [x]) (hb : back1 x d'.V = some d.V) : Beh c d' dp := by
  refine ⟨by rw [hM]; exact h.ext, by rw [hN, List.length_append]; have := h.le; omega, ?_, ?_, right_snoc h.rt hM hN hb⟩
  · rw [hN, List.take_append_of_le_length h.le]; exact h.tk
  · rw [hN, List.drop_append_of_le_length h.le, List.reverse_append]
    show (back1 x d'.V).bind (backR (d.N.drop c.N.length).reverse) = _
    rw [hb]; exact h.bk
theorem beh_grow {c d : Cells} {dp : Nat} (x : Int) (h : Beh c d dp) : Beh c (growC d x) dp := beh_snoc (x := (-1, 0)) h rfl rfl (back1_grow _ _)
theorem beh_set {c d : Cells} {dp a : Nat} (x : Int) (ha : a < d.V.length) (h : Beh c d dp) : Beh c (setC d a x) dp := beh_snoc (x := ((a : Int), d.V.getD a 0)) h rfl rfl (back1_set x ha)
theorem beh_split {c d : Cells} {dp : Nat} (h : Beh c d (dp + 1)) : ∃ (E : List Int) (m : Nat), d.M = (c.M ++ (c.N.length : Int) :: E) ++ [(m : Int)] ∧ E.length = dp ∧ c.N.length ≤ m ∧ m ≤ d.N.length := by
  obtain ⟨E, e, hE⟩ := h.ext
  have hne : E ≠ [] := by intro h0; rw [h0] at hE; simp at hE
  have he := (List.dropLast_concat_getLast hne).symm
  obtain ⟨h1, _⟩ := right_parts h.rt
  rw [e, mkB_append, Bool.and_eq_true, mkB, Bool.and_eq_true, Bool.and_eq_true, decide_eq_true_eq, decide_eq_true_eq] at h1
  have h2 := mkB_last h1.2.2 h1.2.1.2
  rw [he, List.getLastD_concat] at h2
  refine ⟨E.dropLast, (E.getLast hne).toNat, ?_, by rw [List.length_dropLast, hE]; rfl, by omega, by omega⟩
  rw [Int.toNat_of_nonneg (by omega), e]
  conv => lhs; rw [he]
  simp
theorem take_M {d : Cells} {L : List Int} {x : Int} (h : d.M = L ++ [x]) : d.M.take (d.M.length - 1) = L ∧ d.M[d.M.length - 1]? = some x := by
  rw [h]; simp
theorem beh_keep {c d : Cells} {dp : Nat} (h : Beh c d (dp + 1)) : Beh c (keepC d) dp := by
  obtain ⟨E, m, e, hE, _, _⟩ := beh_split h
  obtain ⟨h1, h2⟩ := right_parts h.rt
  refine ⟨⟨E, (take_M e).1, hE⟩, h.le, h.tk, h.bk, right_mk ?_ h2⟩
  show mkB d.N.length 0 (d.M.take _) = true
  rw [(take_M e).1]
  rw [e] at h1
  exact mkB_front h1
theorem backs_split (N : List Note) (m : Nat) (V : List Int) : backs N V = (backR (N.drop m).reverse V).bind (backR (N.take m).reverse) := by
  unfold backs
  conv => lhs; rw [← List.take_append_drop m N, List.reverse_append]
  exact backR_append _ _ _
theorem beh_back {c d : Cells} {dp : Nat} (h : Beh c d (dp + 1)) : ∃ (m : Nat) (V' : List Int), d.M[d.M.length - 1]? = some (m : Int) ∧ m ≤ d.N.length ∧ backR (d.N.drop m).reverse d.V = some V' ∧ Beh c (backC d m V') dp := by
  obtain ⟨E, m, e, hE, hle, hm⟩ := beh_split h
  obtain ⟨h1, h2⟩ := right_parts h.rt
  rw [backs_split _ m] at h2
  cases hV : backR (d.N.drop m).reverse d.V with
  | none => rw [hV] at h2; cases h2
  | some V' =>
    rw [hV] at h2
    refine ⟨m, V', (take_M e).2, hm, hV, ⟨E, (take_M e).1, hE⟩, ?_, ?_, ?_, right_mk ?_ h2⟩
    · show _ ≤ (d.N.take m).length; rw [List.length_take]; omega
    · show (d.N.take m).take _ = _
      rw [List.take_take, Nat.min_eq_left hle]; exact h.tk
    · have hb := h.bk
      have hsp : d.N.drop c.N.length = (d.N.take m).drop c.N.length ++ d.N.drop m := by
        conv => lhs; rw [← List.take_append_drop m d.N]
        rw [List.drop_append_of_le_length (by rw [List.length_take]; omega)]
      rw [hsp, List.reverse_append, backR_append, hV] at hb
      exact hb
    · show mkB (d.N.take m).length 0 (d.M.take _) = true
      rw [(take_M e).1, List.length_take, Nat.min_eq_left hm]
      rw [e] at h1
      exact mkB_cut h1
theorem beh_end {c d : Cells} (h : Beh c d 0) : d.M[d.M.length - 1]? = some ((c.N.length : Nat) : Int) ∧ backC d c.N.length c.V = c := by
  obtain ⟨E, e, hE⟩ := h.ext
  obtain rfl := List.eq_nil_of_length_eq_zero hE
  obtain ⟨h1, h2⟩ := take_M (d := d) (L := c.M) (x := (c.N.length : Int)) e
  refine ⟨h2, ?_⟩
  unfold backC
  rw [h1, h.tk]
theorem few_keep {c : Cells} {m : Nat} (h : Few c m) : Few (keepC c) m := ⟨h.1, h.2.1, by have := h.2.2; show (c.M.take _).length ≤ m; rw [List.length_take]; omega⟩
theorem few_back {c : Cells} {m k : Nat} {V' : List Int} (h : Few c m) (hv : backR (c.N.drop k).reverse c.V = some V') : Few (backC c k V') m :=
  ⟨by have := backR_len hv; have := h.1; show V'.length ≤ m; omega, by have := h.2.1; show (c.N.take _).length ≤ m; rw [List.length_take]; omega, by have := h.2.2; show (c.M.take _).length ≤ m; rw [List.length_take]; omega⟩

/-! ### rows of steps -/
abbrev Stp := Int × Int × Int
def cellsS : List Stp → List Value
  | [] => []
  | s :: l => .int .i64 s.1 :: .int .i64 s.2.1 :: .int .i64 s.2.2 :: cellsS l
theorem cellsS_len (l : List Stp) : (cellsS l).length = l.length * 3 := by
  induction l with
  | nil => rfl
  | cons s l ih => simp [cellsS, ih]; omega
theorem cellsS_at (l : List Stp) (i : Nat) (s : Stp) (h : l[i]? = some s) : (cellsS l)[i * 3]? = some (.int .i64 s.1) ∧ (cellsS l)[i * 3 + 1]? = some (.int .i64 s.2.1) ∧ (cellsS l)[i * 3 + 2]? = some (.int .i64 s.2.2) := by
  induction l generalizing i with
  | nil => simp at h
  | cons x l ih =>
    cases i with
    | zero => obtain rfl : x = s := by simpa using h
              exact ⟨rfl, rfl, rfl⟩
    | succ i =>
      rw [show (i + 1) * 3 = i * 3 + 1 + 1 + 1 by omega]
      have := ih i (by simpa using h)
      simpa [cellsS] using this
theorem Rds.step_at {w : World} {B : Nat} {A : Option Addr} {l : List Stp} (h : Rds w B A (cellsS l)) {k : Nat} (hk : k < l.length) :
    ∃ ad, A = some ad ∧ ad.block < B ∧ w.cell? (ad.add (k * 3)) = some (.int .i64 l[k].1) ∧ w.cell? ⟨(ad.add (k * 3)).block, (ad.add (k * 3)).off + 1, none⟩ = some (.int .i64 l[k].2.1) ∧ w.cell? ⟨(ad.add (k * 3)).block, (ad.add (k * 3)).off + 2, none⟩ = some (.int .i64 l[k].2.2) := by
  obtain ⟨ad, e, hlt, hc⟩ := h (by rw [cellsS_len]; omega)
  obtain ⟨h0, h1, h2⟩ := cellsS_at l k _ (List.getElem?_eq_getElem hk)
  refine ⟨ad, e, hlt, hc _ _ h0, ?_, ?_⟩
  · rw [← add_succ]; exact hc _ _ h1
  · have := hc _ _ h2
    rw [show k * 3 + 2 = k * 3 + 1 + 1 by omega, add_succ, add_succ] at this
    exact this
end Go.Proofs.Ytodmompfnlcjpaa.Tr
