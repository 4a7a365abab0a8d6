/-
  Plain: brackets open in a tree's text; tokens of a text as memory has them.
-/
import Derived.Test.YtmbdbmjnibfmgaaDoorExprU
import Derived.Test.YtmbdbmjnibfmgaaDoorRef7R
namespace Go.Proofs.YtmbdbmjnibfmgaaDoor.Ex
open Go.RowKit Kit Rw
open Go.Proofs.YtmbdbmjnibfmgaaDoor.Nm

/-- as many brackets end as open -/
def Flat (s : List UInt8) : Prop := ∀ o, endO o s = o
/-- so many are open at once somewhere -/
def DeepS (s : List UInt8) (D : Nat) : Prop := ∀ o, okL o s = true → o + (D : Int) ≤ 40
theorem Flat.app {a b : List UInt8} (h : Flat a) (k : Flat b) : Flat (a ++ b) := fun o => by rw [endO_app, h, k]
theorem Flat.nil : Flat [] := fun _ => rfl
theorem Flat.calm {s : List UInt8} (h : Calm s) : Flat s := fun o => h.end_ o
theorem Flat.one {c : UInt8} (h : c ≠ 40 ∧ c ≠ 41) : Flat [c] := Flat.calm fun b hb => by
  rw [List.mem_singleton.1 hb]; exact h
theorem Flat.brack {a : List UInt8} (h : Flat a) : Flat (40 :: (a ++ [41])) := fun o => by
  show endO (stepO o 40) (a ++ [41]) = o
  rw [endO_app, h]
  show stepO (stepO o 40) 41 = o
  simp [stepO]
theorem DeepS.left {a b : List UInt8} {D : Nat} (h : DeepS a D) : DeepS (a ++ b) D := fun o ho => by
  rw [okL_app, Bool.and_eq_true] at ho
  exact h o ho.1
theorem DeepS.right {a b : List UInt8} {D : Nat} (ha : Flat a) (h : DeepS b D) : DeepS (a ++ b) D := fun o ho => by
  rw [okL_app, Bool.and_eq_true, ha o] at ho
  exact h o ho.2
theorem DeepS.brack {a : List UInt8} {D : Nat} (h : DeepS a D) : DeepS (40 :: (a ++ [41])) (D + 1) := fun o ho => by
  have : okL (o + 1) (a ++ [41]) = true := by
    simp only [okL] at ho
    rw [show stepO o 40 = o + 1 by simp [stepO]] at ho
    split at ho
    · cases ho
    · exact ho
  rw [okL_app, Bool.and_eq_true] at this
  have := h (o + 1) this.1
  omega
theorem DeepS.zero {c : UInt8} {r : List UInt8} (h : c ≠ 40 ∧ c ≠ 41) : DeepS (c :: r) 0 := fun o ho => by
  simp only [okL] at ho
  rw [show stepO o c = o by simp [stepO, h.1, h.2]] at ho
  split at ho
  · cases ho
  · omega
theorem DeepS.max {s : List UInt8} {D E : Nat} (h : DeepS s D) (k : DeepS s E) : DeepS s (Nat.max D E) := fun o ho => by
  have h1 := h o ho
  have h2 := k o ho
  show o + ((Nat.max D E : Nat) : Int) ≤ 40
  rcases Nat.le_total D E with hd | hd
  · rw [show Nat.max D E = E from Nat.max_eq_right hd]; exact h2
  · rw [show Nat.max D E = D from Nat.max_eq_left hd]; exact h1
theorem DeepS.mono {s : List UInt8} {D E : Nat} (h : DeepS s D) (hE : E ≤ D) : DeepS s E := fun o ho => by have := h o ho; omega
def Good8 (e : Ex) : Prop := Flat e.text ∧ DeepS e.text e.deep
/-- the expressions of a constructor, behind its bracket -/
theorem con_flat (ks : List Ex) (h : ∀ e ∈ ks, Good8 e) : Flat (conL false (textsP ks)) := by
  induction ks with
  | nil => exact Flat.nil
  | cons e ks ih =>
    show Flat (44 :: (e.text ++ conL false (textsP ks)))
    exact (Flat.one (c := 44) (by decide)).app ((h e (by simp)).1.app (ih fun x hx => h x (List.mem_cons_of_mem _ hx)))
theorem con_deep (ks : List Ex) (h : ∀ e ∈ ks, Good8 e) : ∀ e ∈ ks, DeepS (conL false (textsP ks)) e.deep := by
  induction ks with
  | nil => intro e he; cases he
  | cons f ks ih =>
    intro e he
    show DeepS (44 :: (f.text ++ conL false (textsP ks))) e.deep
    have hf := h f (by simp)
    refine DeepS.right (a := [44]) (Flat.one (c := 44) (by decide)) ?_
    rcases List.mem_cons.1 he with rfl | he
    · exact hf.2.left
    · exact DeepS.right hf.1 (ih (fun x hx => h x (List.mem_cons_of_mem _ hx)) e he)
theorem deepL_max (k : Int) (s : List UInt8) (ks : List Ex) (h0 : DeepS s 0) (h : ∀ e ∈ ks, DeepS s (e.deep + 1)) : DeepS s (deepL k ks) := by
  induction ks with
  | nil => exact h0
  | cons e ks ih =>
    simp only [deepL]
    refine DeepS.max (DeepS.mono (h e (by simp)) ?_) (ih fun x hx => h x (List.mem_cons_of_mem _ hx))
    split <;> omega
theorem side_good (k : Int) (first : Bool) (e : Ex) (h : Good8 e) : Flat (sideL k first (e.root.1, e.text)) ∧ DeepS (sideL k first (e.root.1, e.text)) (e.deep + (if (e.root.1 = 4 ∨ e.root.1 = 5) ∧ (first = false ∨ e.root.1 ≠ k) then 1 else 0)) := by
  unfold sideL
  by_cases hc : (e.root.1 = 4 ∨ e.root.1 = 5) ∧ (first = false ∨ e.root.1 ≠ k)
  · rw [if_pos hc, if_pos hc]
    exact ⟨h.1.brack, h.2.brack⟩
  · rw [if_neg hc, if_neg hc]
    exact h
theorem inBr_side (k : Int) (hk : k = 4 ∨ k = 5) (pk : Int) (first : Bool) : (if inBr k pk (!first) = true then 1 else 0 : Nat) = if (pk = 4 ∨ pk = 5) ∧ (first = false ∨ pk ≠ k) then 1 else 0 := by
  have e : inBr k pk (!first) = (if pk = 4 ∨ pk = 5 then (!first || (pk != k)) else false) := by
    unfold inBr
    exact if_neg (by omega)
  rw [e]
  by_cases h : pk = 4 ∨ pk = 5
  · rw [if_pos h]
    cases first
    · rw [if_pos (by rfl), if_pos ⟨h, .inl rfl⟩]
    · by_cases hq : pk = k
      · rw [if_neg (by simp [hq]), if_neg (by simp [hq])]
      · rw [if_pos (by simp [hq]), if_pos ⟨h, .inr hq⟩]
  · rw [if_neg h, if_neg (by decide), if_neg (fun x => h x.1)]
theorem calm_nm {n : Tg} (hm : mayN n = true) (h : n.1 = 2 ∨ n.1 = 3 ∨ n.1 = 6) : Calm (nm n) ∧ nm n ≠ [] := by
  have key : ∃ lo hi : Int, 65 ≤ lo ∧ nameB lo hi (nm n) = true := by
    unfold mayN at hm
    rcases h with h | h | h
    · rw [if_neg (by omega), if_pos h, Bool.and_eq_true] at hm; exact ⟨_, _, by decide, hm.1⟩
    · exact ⟨_, _, by decide, con_names hm (.inl h)⟩
    · exact ⟨_, _, by decide, con_names hm (.inr h)⟩
  obtain ⟨lo, hi, h1, h2⟩ := key
  refine ⟨calm_name h1 h2, fun e => by rw [e] at h2; cases h2⟩
theorem deep_step (n : Tg) (ks : List Ex) (hm : mayN n = true) (hk : ks.length = np n) (h : ∀ e ∈ ks, Good8 e) : Flat (txt n (textsP ks)) ∧ DeepS (txt n (textsP ks)) (deepL n.1 ks) := by
  have hks := may_kinds hm
  have two : n.1 = 4 ∨ n.1 = 5 → ∃ e f, ks = [e, f] := fun hh => by
    have := np_two hm hh
    rw [this] at hk
    match ks, hk with
    | [e, f], _ => exact ⟨e, f, rfl⟩
  have none : n.1 = 0 ∨ n.1 = 1 ∨ n.1 = 2 → ks = [] := fun hh => by
    refine List.eq_nil_of_length_eq_zero ?_
    rw [hk]
    have := (parts_nat hm).1
    have hz : n.2.2 = 0 := by
      unfold mayN at hm
      by_cases h01 : n.1 = 0 ∨ n.1 = 1
      · rw [if_pos h01, Bool.and_eq_true, beq_iff_eq] at hm; exact hm.2
      · rw [if_neg h01, if_pos (by omega), Bool.and_eq_true, beq_iff_eq] at hm; exact hm.2
    unfold partsN at this
    rw [if_neg (by omega), hz] at this
    omega
  have name0 : n.1 = 2 ∨ n.1 = 3 ∨ n.1 = 6 → ∀ r, DeepS (nm n ++ r) 0 := fun hh r => by
    obtain ⟨c1, c2⟩ := calm_nm hm hh
    cases hn : nm n with
    | nil => exact absurd hn c2
    | cons c x =>
      rw [hn] at c1
      exact DeepS.zero (c1 c (by simp))
  unfold txt
  by_cases h0 : n.1 = 0
  · rw [if_pos h0, none (.inl h0)]; exact ⟨Flat.one (by decide), DeepS.zero (by decide)⟩
  rw [if_neg h0]
  by_cases h1 : n.1 = 1
  · rw [if_pos h1, none (.inr (.inl h1))]; exact ⟨Flat.one (by decide), DeepS.zero (by decide)⟩
  rw [if_neg h1]
  by_cases h3 : n.1 = 3
  · rw [if_pos h3, List.append_assoc]
    have hf := Flat.calm (calm_nm hm (.inr (.inl h3))).1
    cases ks with
    | nil =>
      simp only [textsP, conL, if_true, List.append_nil]
      exact ⟨hf, by have := name0 (.inr (.inl h3)) []; rwa [List.append_nil] at this⟩
    | cons e ks =>
      rw [if_neg (by simp [textsP])]
      have e1 : conL true (textsP (e :: ks)) ++ [41] = 40 :: ((e.text ++ conL false (textsP ks)) ++ [41]) := rfl
      rw [e1]
      have he := h e (by simp)
      have hfl : Flat (e.text ++ conL false (textsP ks)) := he.1.app (con_flat ks fun x hx => h x (List.mem_cons_of_mem _ hx))
      refine ⟨hf.app hfl.brack, deepL_max _ _ _ (name0 (.inr (.inl h3)) _) fun x hx => DeepS.right hf (DeepS.brack ?_)⟩
      rcases List.mem_cons.1 hx with rfl | hx
      · exact he.2.left
      · exact DeepS.right he.1 (con_deep ks (fun y hy => h y (List.mem_cons_of_mem _ hy)) x hx)
  rw [if_neg h3]
  have join : ∀ (k : Int) (c : UInt8), (c ≠ 40 ∧ c ≠ 41) → (k = 4 ∨ k = 5) → n.1 = k → Flat (sideL k true (nth (textsP ks) 0) ++ c :: sideL k false (nth (textsP ks) 1)) ∧ DeepS (sideL k true (nth (textsP ks) 0) ++ c :: sideL k false (nth (textsP ks) 1)) (deepL n.1 ks) := fun k c hc hk45 hnk => by
    obtain ⟨e, f, rfl⟩ := two (by rw [hnk]; exact hk45)
    obtain ⟨s1, s2⟩ := side_good k true e (h e (by simp))
    obtain ⟨t1, t2⟩ := side_good k false f (h f (by simp))
    refine ⟨s1.app ((Flat.one hc).app t1), ?_⟩
    rw [hnk]
    simp only [deepL, List.isEmpty_cons, List.isEmpty_nil]
    have i1 := inBr_side k hk45 e.root.1 true
    have i2 := inBr_side k hk45 f.root.1 false
    rw [Bool.not_true] at i1
    rw [Bool.not_false] at i2
    rw [i1, i2, Nat.max_zero]
    exact DeepS.max s2.left (DeepS.right s1 (DeepS.right (a := [c]) (Flat.one hc) t2))
  by_cases h4 : n.1 = 4
  · rw [if_pos h4]; exact join 4 124 (by decide) (.inl rfl) h4
  rw [if_neg h4]
  by_cases h5 : n.1 = 5
  · rw [if_pos h5]; exact join 5 38 (by decide) (.inr rfl) h5
  rw [if_neg h5]
  by_cases h6 : n.1 = 6
  · rw [if_pos h6]
    obtain ⟨hnp, m, hm1, hm2, hm3⟩ := np_proj hm h6
    rw [hnp] at hk
    obtain ⟨e, rfl⟩ : ∃ e, ks = [e] := by
      match ks, hk with
      | [e], _ => exact ⟨e, rfl⟩
    have he := h e (by simp)
    have hf := Flat.calm (calm_nm hm (.inr (.inr h6))).1
    have hd : figD n.2.2.toNat ≠ 40 ∧ figD n.2.2.toNat ≠ 41 := by
      rw [hm1, Int.toNat_natCast]
      have : m = 1 ∨ m = 2 ∨ m = 3 ∨ m = 4 ∨ m = 5 ∨ m = 6 ∨ m = 7 ∨ m = 8 := by omega
      rcases this with rfl | rfl | rfl | rfl | rfl | rfl | rfl | rfl <;> decide
    have e1 : nm n ++ 126 :: figD n.2.2.toNat :: 40 :: ((nth (textsP [e]) 0).2 ++ [41]) = nm n ++ ([126] ++ ([figD n.2.2.toNat] ++ (40 :: (e.text ++ [41])))) := rfl
    rw [e1]
    have hpre := (Flat.one (c := 126) (by decide)).app (Flat.one hd)
    refine ⟨hf.app ((Flat.one (c := 126) (by decide)).app ((Flat.one hd).app he.1.brack)), deepL_max _ _ _ (name0 (.inr (.inr h6)) _) fun x hx => ?_⟩
    rw [List.mem_singleton.1 hx]
    exact DeepS.right hf (DeepS.right (Flat.one (c := 126) (by decide)) (DeepS.right (Flat.one hd) he.2.brack))
  · rw [if_neg h6]
    have h2 : n.1 = 2 := by omega
    rw [none (.inr (.inr h2))]
    exact ⟨Flat.calm (calm_nm hm (.inl h2)).1, by have := name0 (.inl h2) []; rwa [List.append_nil] at this⟩
mutual
theorem deep_tree : ∀ (e : Ex), e.wf → (∀ t ∈ e.nodes, mayN t = true) → Good8 e
  | .mk n ks, hw, hm => deep_step n ks (hm n (by simp [Ex.nodes])) hw.1 (deep_trees ks hw.2 fun t ht => hm t (by simp [Ex.nodes, ht]))
theorem deep_trees : ∀ (ks : List Ex), wfL ks → (∀ t ∈ nodesL ks, mayN t = true) → ∀ e ∈ ks, Good8 e
  | [], _, _ => fun _ h => by cases h
  | e :: ks, hw, hm => fun x hx => by
    rcases List.mem_cons.1 hx with h | hx
    · rw [h]; exact deep_tree e hw.1 fun t ht => hm t (by simp [nodesL, ht])
    · exact deep_trees ks hw.2 (fun t ht => hm t (by simp [nodesL, ht])) x hx
end
/-- what the document's Right of a row says -/
theorem right_tree {l : List Tg} (h : rightB l = true) : (∀ t ∈ l, mayN t = true) ∧ ∃ x : Ex, runS [] l = some [x] ∧ x.wf ∧ x.nodes = l ∧ x.deep ≤ 40 ∧ textAt l (l.length - 1) = x.text ∧ 0 < l.length := by
  unfold rightB at h
  cases hc : countN 0 l with
  | none => rw [hc] at h; cases h
  | some k =>
    rw [hc] at h
    have hk : k = 1 := by
      match k, h with
      | 1, _ => rfl
    subst hk
    simp only at h
    obtain ⟨hm, st, hr, hl⟩ := count_run l [] 1 hc
    obtain ⟨x, rfl⟩ : ∃ x, st = [x] := by
      match st, hl with
      | [x], _ => exact ⟨x, rfl⟩
    obtain ⟨h1, h2⟩ := run_nodes hr
    have h2 : x.nodes = l := by simpa [nodesL] using h2
    have hpos : 0 < l.length := by
      have := size_pos x
      unfold Ex.size at this
      rwa [h2] at this
    have htx : textAt l (l.length - 1) = x.text := by
      refine text_of ?_
      unfold treeAt
      rw [show l.length - 1 + 1 = l.length by omega, List.take_length, hr]
      rfl
    rw [htx] at h
    have hg := deep_tree x h1.1 (by rw [h2]; exact hm)
    exact ⟨hm, x, hr, h1.1, h2, by have := hg.2 0 h; omega, htx, hpos⟩

theorem at_lx {l : List Lx.Tk} {ts : List TT} (h : l.map ktT = ts) : At (l.map Lx.tg) 0 ts := fun i hi => by
  subst h
  simp only [List.length_map] at hi
  refine ⟨by simp; omega, ?_, ?_⟩
  · simp [ktT, Lx.tg]
  · simp [ktT, Lx.tg]
theorem lx_length {l : List Lx.Tk} {ts : List TT} (h : l.map ktT = ts) : (l.map Lx.tg).length = ts.length := by subst h; simp
end Go.Proofs.YtmbdbmjnibfmgaaDoor.Ex
