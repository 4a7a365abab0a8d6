/-
  Plain: where the expressions of two nodes begin; an expression within one is no deeper.
-/
import Derived.Test.YtmbdbmjnibfmgaaDoorExprF
namespace Go.Proofs.YtmbdbmjnibfmgaaDoor.Ex
open Go.RowKit Kit Rw
open Go.Proofs.YtmbdbmjnibfmgaaDoor.Nm

theorem run_frame (st : List Ex) : ∀ (l : List Tg) (a b : List Ex), runS a l = some b → runS (a ++ st) l = some (b ++ st)
  | [], a, b, h => by injection h with h; subst h; rfl
  | n :: l, a, b, h => by
    simp only [runS] at h ⊢
    cases hp : push a n with
    | none => rw [hp] at h; cases h
    | some a' =>
      rw [hp] at h
      obtain ⟨hn, rfl⟩ := push_some hp
      have e : push (a ++ st) n = some (.mk n (a.take (np n)).reverse :: a.drop (np n) ++ st) := by
        unfold push
        rw [if_pos (by simp; omega), List.take_append_of_le_length hn, List.drop_append_of_le_length hn]
        rfl
      rw [e]
      exact run_frame st l _ b h
theorem deep_le_kid (n : Tg) (ks : List Ex) (e : Ex) (he : e ∈ ks) : e.deep ≤ (Ex.mk n ks).deep := by
  simp only [Ex.deep]
  induction ks with
  | nil => cases he
  | cons f ks ih =>
    simp only [deepL]
    rcases List.mem_cons.1 he with rfl | he
    · exact Nat.le_trans (Nat.le_add_right _ _) (Nat.le_max_left ..)
    · exact Nat.le_trans (ih he) (Nat.le_max_right ..)
theorem run_deep : ∀ (l : List Tg) (a b : List Ex), runS a l = some b → ∀ e ∈ a, ∃ f ∈ b, e.deep ≤ f.deep
  | [], a, b, h => by injection h with h; subst h; exact fun e he => ⟨e, he, Nat.le_refl _⟩
  | n :: l, a, b, h => by
    simp only [runS] at h
    cases hp : push a n with
    | none => rw [hp] at h; cases h
    | some a' =>
      rw [hp] at h
      obtain ⟨hn, rfl⟩ := push_some hp
      have ih := run_deep l _ b h
      intro e he
      rw [← List.take_append_drop (np n) a] at he
      rcases List.mem_append.1 he with he | he
      · obtain ⟨f, hf, hd⟩ := ih (.mk n (a.take (np n)).reverse) (List.mem_cons_self ..)
        exact ⟨f, hf, Nat.le_trans (deep_le_kid n _ e (List.mem_reverse.2 he)) hd⟩
      · exact ih e (List.mem_cons_of_mem _ he)
/-- the expression of a node of a row of one -/
theorem sub_tree {l : List Tg} {x : Ex} (h : runS [] l = some [x]) {i : Nat} (hi : i < l.length) : ∃ c : Ex, (l.take (i + 1)).drop (startOf l i) = c.nodes ∧ c.wf ∧ c.deep ≤ x.deep ∧ startOf l i + c.size = i + 1 := by
  obtain ⟨sk, hsk⟩ := run_take h i
  obtain ⟨sn, hsn⟩ := run_take h (i + 1)
  obtain ⟨hnp, rfl⟩ := run_next hi hsk hsn
  have hs := start_of hsn
  have hl : (l.take (i + 1)).length = i + 1 := by rw [List.length_take]; omega
  obtain ⟨h1, h2, h3, h4⟩ := run_pop hsn
  rw [hl] at h2 h4
  have hrest : runS (.mk l[i] (sk.take (np l[i])).reverse :: sk.drop (np l[i])) (l.drop (i + 1)) = some [x] := by
    have := h
    rw [← List.take_append_drop (i + 1) l, run_app, hsn] at this
    exact this
  obtain ⟨f, hf, hd⟩ := run_deep _ _ _ hrest (.mk l[i] (sk.take (np l[i])).reverse) (List.mem_cons_self ..)
  rw [List.mem_singleton.1 hf] at hd
  exact ⟨_, by rw [hs]; exact h4, h1, hd, by rw [hs]; omega⟩
theorem start_le {l : List Tg} {x : Ex} (h : runS [] l = some [x]) {i : Nat} (hi : i < l.length) : startOf l i ≤ i := by
  obtain ⟨c, _, _, _, e⟩ := sub_tree h hi
  have := size_pos c
  omega
theorem start_last {l : List Tg} {x : Ex} (h : runS [] l = some [x]) {k : Nat} (hk : l.length = k + 1) : startOf l k = 0 := by
  have e : l.take (k + 1) = l := by rw [← hk, List.take_length]
  have hs := h
  rw [← e] at hs
  rw [start_of hs]
  have h2 := (run_nodes h).2
  simp only [List.reverse_cons, List.reverse_nil, List.nil_append, nodesL, List.append_nil] at h2
  have : x.size = l.length := by unfold Ex.size; rw [h2]
  omega
/-- two expressions are apart, or one is in the other -/
theorem start_nest {l : List Tg} {x : Ex} (h : runS [] l = some [x]) {i k : Nat} (hik : i < k) (hk : k < l.length) : i < startOf l k ∨ startOf l k ≤ startOf l i := by
  rcases Nat.lt_or_ge i (startOf l k) with hlt | hge
  · exact .inl hlt
  right
  obtain ⟨sn, hsn⟩ := run_take h (k + 1)
  obtain ⟨sk, hsk⟩ := run_take h k
  obtain ⟨hnp, rfl⟩ := run_next hk hsk hsn
  have hs := start_of hsn
  have hl : (l.take (k + 1)).length = k + 1 := by rw [List.length_take]; omega
  obtain ⟨h1, h2, h3, h4⟩ := run_pop hsn
  rw [hl, ← hs] at h3 h4
  generalize Ex.mk l[k] (sk.take (np l[k])).reverse = c at *
  -- the nodes of the later one's expression up to the earlier node
  have hsk' : startOf l k ≤ k := start_le h hk
  rw [List.take_take, Nat.min_eq_left (by omega)] at h3
  have hpre : (l.take (i + 1)).drop (startOf l k) = c.nodes.take (i + 1 - startOf l k) := by
    rw [← h4, List.drop_take, List.drop_take, List.take_take, Nat.min_eq_left (by omega)]
  have hc := run_tree c [] h1
  obtain ⟨su, hsu⟩ := run_take hc (i + 1 - startOf l k)
  rw [← hpre] at hsu
  have hfr := run_frame (sk.drop (np l[k])) _ _ _ hsu
  rw [List.nil_append] at hfr
  have hsi : runS [] (l.take (i + 1)) = some (su ++ sk.drop (np l[k])) := by
    have e : l.take (i + 1) = l.take (startOf l k) ++ (l.take (i + 1)).drop (startOf l k) := by
      have := (List.take_append_drop (startOf l k) (l.take (i + 1))).symm
      rwa [List.take_take, Nat.min_eq_left (by omega)] at this
    rw [e, run_app, h3]
    exact hfr
  obtain ⟨hw, hn⟩ := run_nodes hsu
  have hplen : ((l.take (i + 1)).drop (startOf l k)).length = i + 1 - startOf l k := by rw [List.length_drop, List.length_take]; omega
  cases su with
  | nil =>
    have := congrArg List.length hn
    rw [hplen] at this
    simp [nodesL] at this
    omega
  | cons ci su =>
    have hsz : ci.size ≤ i + 1 - startOf l k := by
      have := congrArg List.length hn
      rw [hplen] at this
      simp only [List.reverse_cons, nodesL_app, nodesL, List.append_nil, List.length_append] at this
      unfold Ex.size
      omega
    rw [start_of hsi]
    omega
end Go.Proofs.YtmbdbmjnibfmgaaDoor.Ex
