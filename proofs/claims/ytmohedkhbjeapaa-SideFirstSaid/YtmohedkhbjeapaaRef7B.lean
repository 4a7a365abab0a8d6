/-
  Plain: expressions as trees, rows of nodes as what a stack makes of them; where a node's expression begins.
-/
import Derived.Test.YtmohedkhbjeapaaRef7A
namespace Go.Proofs.Ytmohedkhbjeapaa.Ex
open Go.RowKit Kit Rw Nm

inductive Ex where
  | mk (n : Tg) (ks : List Ex) : Ex
mutual
def Ex.nodes : Ex → List Tg
  | .mk n ks => nodesL ks ++ [n]
def nodesL : List Ex → List Tg
  | [] => []
  | e :: r => e.nodes ++ nodesL r
end
def Ex.root : Ex → Tg
  | .mk n _ => n
def Ex.kids : Ex → List Ex
  | .mk _ ks => ks
def Ex.size (e : Ex) : Nat := e.nodes.length
theorem size_pos (e : Ex) : 0 < e.size := by cases e; simp [Ex.size, Ex.nodes]
theorem nodesL_app (a b : List Ex) : nodesL (a ++ b) = nodesL a ++ nodesL b := by
  induction a with
  | nil => rfl
  | cons e a ih => simp only [List.cons_append, nodesL, ih, List.append_assoc]
/-- how many parts, as a length -/
def np (t : Tg) : Nat := (partsN t).toNat
mutual
def Ex.wf : Ex → Prop
  | .mk n ks => ks.length = np n ∧ wfL ks
def wfL : List Ex → Prop
  | [] => True
  | e :: r => e.wf ∧ wfL r
end
theorem wfL_iff (l : List Ex) : wfL l ↔ ∀ e ∈ l, e.wf := by
  induction l with
  | nil => simp [wfL]
  | cons e l ih => simp [wfL, ih]

def push (st : List Ex) (n : Tg) : Option (List Ex) := if np n ≤ st.length then some (.mk n (st.take (np n)).reverse :: st.drop (np n)) else none
def runS (st : List Ex) : List Tg → Option (List Ex)
  | [] => some st
  | n :: l => (push st n).bind fun st' => runS st' l
theorem run_app (st : List Ex) (a b : List Tg) : runS st (a ++ b) = (runS st a).bind fun st' => runS st' b := by
  induction a generalizing st with
  | nil => rfl
  | cons n a ih =>
    simp only [List.cons_append, runS]
    cases push st n with
    | none => rfl
    | some st' => exact ih st'
theorem run_snoc (st : List Ex) (a : List Tg) (n : Tg) : runS st (a ++ [n]) = (runS st a).bind fun st' => push st' n := by
  rw [run_app]
  congr 1
  funext st'
  simp only [runS]
  cases push st' n <;> rfl

mutual
/-- the nodes of a tree put it on the stack -/
theorem run_tree : ∀ (e : Ex) (st : List Ex), e.wf → runS st e.nodes = some (e :: st)
  | .mk n ks, st, h => by
    obtain ⟨h1, h2⟩ := h
    show runS st (nodesL ks ++ [n]) = _
    rw [run_snoc, run_trees ks st h2]
    show push (ks.reverse ++ st) n = _
    have e : np n ≤ (ks.reverse ++ st).length := by simp; omega
    unfold push
    rw [if_pos e, List.take_append_of_le_length (by simp; omega), List.take_of_length_le (by simp; omega), List.reverse_reverse, List.drop_append_of_le_length (by simp; omega), List.drop_of_length_le (by simp; omega)]
    rfl
theorem run_trees : ∀ (ks : List Ex) (st : List Ex), wfL ks → runS st (nodesL ks) = some (ks.reverse ++ st)
  | [], st, _ => rfl
  | e :: r, st, h => by
    obtain ⟨h1, h2⟩ := h
    show runS st (e.nodes ++ nodesL r) = _
    rw [run_app, run_tree e st h1]
    show runS (e :: st) (nodesL r) = _
    rw [run_trees r (e :: st) h2]
    simp
end
theorem push_some {st st' : List Ex} {n : Tg} (h : push st n = some st') : np n ≤ st.length ∧ st' = .mk n (st.take (np n)).reverse :: st.drop (np n) := by
  unfold push at h
  split at h
  · rename_i hn; injection h with h; exact ⟨hn, h.symm⟩
  · cases h
/-- what is on the stack are trees, whose nodes, from below, are what was put -/
theorem run_inv (l : List Tg) : ∀ (st0 st : List Ex), wfL st0 → runS st0 l = some st → wfL st ∧ nodesL st.reverse = nodesL st0.reverse ++ l := by
  induction l with
  | nil => intro st0 st h0 h; injection h with h; subst h; exact ⟨h0, by simp⟩
  | cons n l ih =>
    intro st0 st h0 h
    simp only [runS] at h
    cases hp : push st0 n with
    | none => rw [hp] at h; cases h
    | some st1 =>
      rw [hp] at h
      obtain ⟨hn, rfl⟩ := push_some hp
      have hw : wfL (Ex.mk n (st0.take (np n)).reverse :: st0.drop (np n)) := by
        rw [wfL_iff] at h0
        refine ⟨⟨by simp; omega, (wfL_iff _).2 fun e he => h0 e (List.mem_of_mem_take (List.mem_reverse.1 he))⟩, (wfL_iff _).2 fun e he => h0 e (List.mem_of_mem_drop he)⟩
      obtain ⟨h1, h2⟩ := ih _ st hw h
      refine ⟨h1, ?_⟩
      rw [h2]
      simp only [List.reverse_cons, nodesL_app, nodesL, Ex.nodes, List.append_nil]
      have e : st0.reverse = (st0.drop (np n)).reverse ++ (st0.take (np n)).reverse := by rw [← List.reverse_append, List.take_append_drop]
      rw [e, nodesL_app]
      simp [List.append_assoc]
theorem run_nodes {l : List Tg} {st : List Ex} (h : runS [] l = some st) : wfL st ∧ nodesL st.reverse = l := by
  have := run_inv l [] st (by trivial) h
  simpa [nodesL] using this
/-- the top tree's nodes are the last ones; without them the rest stands on the stack -/
theorem run_pop {l : List Tg} {c : Ex} {st : List Ex} (h : runS [] l = some (c :: st)) : c.wf ∧ c.size ≤ l.length ∧ runS [] (l.take (l.length - c.size)) = some st ∧ l.drop (l.length - c.size) = c.nodes := by
  obtain ⟨h1, h2⟩ := run_nodes h
  obtain ⟨hc, hs⟩ := h1
  simp only [List.reverse_cons, nodesL_app, nodesL, List.append_nil] at h2
  have hl : l.length = (nodesL st.reverse).length + c.size := by rw [← h2, List.length_append]; rfl
  have e : l.length - c.size = (nodesL st.reverse).length := by omega
  refine ⟨hc, by omega, ?_, ?_⟩
  · rw [e, ← h2, List.take_append_of_le_length (Nat.le_refl _), List.take_length, run_trees _ _ ((wfL_iff _).2 fun x hx => (wfL_iff _).1 hs x (List.mem_reverse.1 hx))]
    simp
  · rw [e, ← h2, List.drop_append_of_le_length (Nat.le_refl _), List.drop_length]; simp
/-- what stands on the stack behind the first j nodes -/
theorem run_take {l : List Tg} {st : List Ex} (h : runS [] l = some st) (j : Nat) : ∃ st', runS [] (l.take j) = some st' := by
  rw [← List.take_append_drop j l, run_app] at h
  cases hp : runS [] (l.take j) with
  | none => rw [hp] at h; cases h
  | some st' => exact ⟨st', rfl⟩
theorem run_next {l : List Tg} {j : Nat} (hj : j < l.length) {st : List Ex} (h : runS [] (l.take j) = some st) {st' : List Ex} (h' : runS [] (l.take (j + 1)) = some st') :
    np l[j] ≤ st.length ∧ st' = .mk l[j] (st.take (np l[j])).reverse :: st.drop (np l[j]) := by
  rw [List.take_succ_eq_append_getElem hj, run_snoc, h] at h'
  exact push_some h'
/-- the tree that ends at a node -/
def treeAt (l : List Tg) (j : Nat) : Option Ex := (runS [] (l.take (j + 1))).bind List.head?
def startOf (l : List Tg) (j : Nat) : Nat := match treeAt l j with
  | some c => j + 1 - c.size
  | none => 0
theorem start_of {l : List Tg} {j : Nat} {c : Ex} {st : List Ex} (h : runS [] (l.take (j + 1)) = some (c :: st)) : startOf l j = j + 1 - c.size := by
  unfold startOf treeAt; rw [h]; rfl
/-- one part back: from behind it to where it begins -/
theorem back_one {l : List Tg} {p : Nat} (hp : p ≤ l.length) {c : Ex} {st : List Ex} (h : runS [] (l.take p) = some (c :: st)) :
    0 < p ∧ c.size ≤ p ∧ startOf l (p - 1) = p - c.size ∧ runS [] (l.take (p - c.size)) = some st ∧ treeAt l (p - 1) = some c := by
  have hlen : (l.take p).length = p := by rw [List.length_take]; omega
  obtain ⟨_, h2, h3, _⟩ := run_pop h
  rw [hlen] at h2 h3
  have hs := size_pos c
  have e : p - 1 + 1 = p := by omega
  refine ⟨by omega, h2, ?_, ?_, ?_⟩
  · have := start_of (l := l) (j := p - 1) (c := c) (st := st) (by rw [e]; exact h)
    rw [this, e]
  · rw [List.take_take, Nat.min_eq_left (by omega)] at h3
    exact h3
  · unfold treeAt; rw [e, h]; rfl
end Go.Proofs.Ytmohedkhbjeapaa.Ex
