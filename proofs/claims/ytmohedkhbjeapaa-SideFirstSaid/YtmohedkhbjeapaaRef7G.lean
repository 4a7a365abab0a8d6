/-
  Plain: which rows are one tree's, by counting; how many brackets are open in a text; how long texts are.
-/
import Derived.Test.YtmohedkhbjeapaaRef7F
namespace Go.Proofs.Ytmohedkhbjeapaa.Ex
open Go.RowKit Kit Rw Nm

/-- how many trees stand behind a row; none: a node may not be, or lacks parts -/
def countN : Nat → List Tg → Option Nat
  | m, [] => some m
  | m, t :: l => if mayN t = true ∧ np t ≤ m then countN (m - np t + 1) l else none
theorem count_run : ∀ (l : List Tg) (st : List Ex) (k : Nat), countN st.length l = some k → (∀ t ∈ l, mayN t = true) ∧ ∃ st', runS st l = some st' ∧ st'.length = k
  | [], st, k, h => by injection h with h; exact ⟨by simp, st, rfl, h⟩
  | t :: l, st, k, h => by
    simp only [countN] at h
    split at h
    · rename_i hc
      obtain ⟨hm, hp⟩ := hc
      have e : push st t = some (.mk t (st.take (np t)).reverse :: st.drop (np t)) := by unfold push; rw [if_pos hp]
      obtain ⟨h1, st', h2, h3⟩ := count_run l (.mk t (st.take (np t)).reverse :: st.drop (np t)) k (by simpa using h)
      refine ⟨?_, st', by simp only [runS, e]; exact h2, h3⟩
      intro x hx
      rcases List.mem_cons.1 hx with rfl | hx
      · exact hm
      · exact h1 x hx
    · cases h
theorem run_count : ∀ (l : List Tg) (st st' : List Ex), (∀ t ∈ l, mayN t = true) → runS st l = some st' → countN st.length l = some st'.length
  | [], st, st', _, h => by injection h with h; subst h; rfl
  | t :: l, st, st', hm, h => by
    simp only [runS] at h
    cases hp : push st t with
    | none => rw [hp] at h; cases h
    | some st1 =>
      rw [hp] at h
      obtain ⟨hn, rfl⟩ := push_some hp
      have := run_count l _ st' (fun x hx => hm x (List.mem_cons_of_mem _ hx)) h
      simp only [countN]
      rw [if_pos ⟨hm t (List.mem_cons_self ..), hn⟩]
      simpa using this
theorem count_at (l : List Tg) (k m : Nat) (h : k < l.length) : countN m (l.drop k) = if mayN l[k] = true ∧ np l[k] ≤ m then countN (m - np l[k] + 1) (l.drop (k + 1)) else none := by
  rw [List.drop_eq_getElem_cons h]; rfl
theorem count_end (l : List Tg) (k m : Nat) (h : l.length ≤ k) : countN m (l.drop k) = some m := by
  rw [List.drop_eq_nil_of_le h]; rfl

/-! ### brackets that are open -/
def stepO (o : Int) (b : UInt8) : Int := if b = 40 then o + 1 else if b = 41 then o - 1 else o
def okL (o : Int) : List UInt8 → Bool
  | [] => true
  | b :: r => if 40 < stepO o b then false else okL (stepO o b) r
def endO (o : Int) : List UInt8 → Int
  | [] => o
  | b :: r => endO (stepO o b) r
theorem okL_at (l : List UInt8) (k : Nat) (o : Int) (h : k < l.length) : okL o (l.drop k) = if 40 < stepO o l[k] then false else okL (stepO o l[k]) (l.drop (k + 1)) := by
  rw [List.drop_eq_getElem_cons h]; rfl
theorem okL_end (l : List UInt8) (k : Nat) (o : Int) (h : l.length ≤ k) : okL o (l.drop k) = true := by
  rw [List.drop_eq_nil_of_le h]; rfl
theorem okL_app (a b : List UInt8) (o : Int) : okL o (a ++ b) = (okL o a && okL (endO o a) b) := by
  induction a generalizing o with
  | nil => simp [okL, endO]
  | cons x a ih =>
    simp only [List.cons_append, okL, endO]
    split
    · rfl
    · exact ih _
theorem endO_app (a b : List UInt8) (o : Int) : endO o (a ++ b) = endO (endO o a) b := by
  induction a generalizing o with
  | nil => rfl
  | cons x a ih => exact ih _
theorem okL_less (l : List UInt8) (o p : Int) (h : p ≤ o) (hk : okL o l = true) : okL p l = true := by
  induction l generalizing o p with
  | nil => rfl
  | cons b l ih =>
    simp only [okL] at hk ⊢
    have hs : stepO p b ≤ stepO o b := by by_cases h0 : b = 40 <;> by_cases h1 : b = 41 <;> simp [stepO, h0, h1] <;> omega
    split at hk
    · cases hk
    · rename_i hn
      rw [if_neg (by omega)]
      exact ih _ _ hs hk
/-- bytes that are no brackets -/
def Calm (l : List UInt8) : Prop := ∀ b ∈ l, b ≠ 40 ∧ b ≠ 41
theorem Calm.end_ {l : List UInt8} (h : Calm l) (o : Int) : endO o l = o := by
  induction l with
  | nil => rfl
  | cons b l ih =>
    obtain ⟨h1, h2⟩ := h b (List.mem_cons_self ..)
    have : stepO o b = o := by unfold stepO; rw [if_neg h1, if_neg h2]
    simp only [endO, this]
    exact ih fun x hx => h x (List.mem_cons_of_mem _ hx)
theorem Calm.ok {l : List UInt8} (h : Calm l) {o : Int} (ho : o ≤ 40) : okL o l = true := by
  induction l with
  | nil => rfl
  | cons b l ih =>
    obtain ⟨h1, h2⟩ := h b (List.mem_cons_self ..)
    have : stepO o b = o := by unfold stepO; rw [if_neg h1, if_neg h2]
    simp only [okL, this]
    rw [if_neg (by omega)]
    exact ih fun x hx => h x (List.mem_cons_of_mem _ hx)
theorem calm_name {lo hi : Int} (hlo : 65 ≤ lo) {l : List UInt8} (h : nameB lo hi l = true) : Calm l := by
  have key : ∀ b : UInt8, 42 ≤ (b.toNat : Int) → b ≠ 40 ∧ b ≠ 41 := fun b hb => by
    constructor <;> (rintro rfl; revert hb; decide)
  match l with
  | [] => cases h
  | c :: l =>
    simp only [nameB, Bool.and_eq_true, decide_eq_true_eq, inB] at h
    obtain ⟨⟨_, h1, h2⟩, h3⟩ := h
    intro b hb
    rcases List.mem_cons.1 hb with rfl | hb
    · exact key _ (by omega)
    · have : goesB b.toNat = true := by
        unfold restB at h3
        exact List.all_eq_true.1 h3 b (by simpa using hb)
      refine key _ ?_
      simp only [goesB, inB, Bool.or_eq_true, Bool.and_eq_true, decide_eq_true_eq, beq_iff_eq] at this
      omega

/-! ### how long a text is -/
theorem total7_app (a b : List Tg) : total7 (a ++ b) = total7 a + total7 b := by
  induction a with
  | nil => simp [total7]
  | cons x a ih => simp only [List.cons_append, total7, ih]; omega
theorem total7_drop (l : List Tg) (k : Nat) : total7 (l.drop k) ≤ total7 l := by
  have := total7_app (l.take k) (l.drop k)
  rw [List.take_append_drop] at this
  omega
theorem total7_mem {l : List Tg} {t : Tg} (h : t ∈ l) : t.2.1.size ≤ total7 l := by
  induction l with
  | nil => cases h
  | cons x l ih =>
    simp only [total7]
    rcases List.mem_cons.1 h with rfl | h
    · omega
    · have := ih h; omega
theorem nm_len (t : Tg) : (nm t).length = t.2.1.size := by simp [nm]
theorem conL_len (b : Bool) (ks : List Ex) (h : ∀ e ∈ ks, e.text.length + 2 ≤ 3 * total7 e.nodes) : (conL b (textsP ks)).length + ks.length ≤ 3 * total7 (nodesL ks) := by
  induction ks generalizing b with
  | nil => simp [textsP, conL]
  | cons e ks ih =>
    simp only [textsP, conL, nodesL, total7_app, List.length_cons, List.length_append]
    have h1 := h e (List.mem_cons_self ..)
    have h2 := ih false fun x hx => h x (List.mem_cons_of_mem _ hx)
    omega
theorem nth_cons0 (e : Ex) (ks : List Ex) : nth (textsP (e :: ks)) 0 = (e.root.1, e.text) := rfl
theorem nth_cons1 (e f : Ex) (ks : List Ex) : nth (textsP (e :: f :: ks)) 1 = (f.root.1, f.text) := rfl
theorem txt_len (n : Tg) (ks : List Ex) (hm : mayN n = true) (hk : ks.length = np n) (h : ∀ e ∈ ks, e.text.length + 2 ≤ 3 * total7 e.nodes) :
    (txt n (textsP ks)).length + 2 ≤ 3 * (total7 (nodesL ks) + 1 + n.2.1.size) := by
  have hks := may_kinds hm
  have hn := nm_len n
  unfold txt
  by_cases h0 : n.1 = 0
  · rw [if_pos h0]; simp only [List.length_cons, List.length_nil]; omega
  rw [if_neg h0]
  by_cases h1 : n.1 = 1
  · rw [if_pos h1]; simp only [List.length_cons, List.length_nil]; omega
  rw [if_neg h1]
  by_cases h3 : n.1 = 3
  · rw [if_pos h3]
    have hc := conL_len true ks h
    rw [List.length_append, List.length_append]
    cases ks with
    | nil => simp [textsP, conL] at hc ⊢; omega
    | cons e ks =>
      rw [if_neg (by simp [textsP])]
      simp only [List.length_cons, List.length_nil] at hc ⊢
      omega
  rw [if_neg h3]
  have two : n.1 = 4 ∨ n.1 = 5 → ∃ e f, ks = [e, f] := fun hh => by
    have := np_two hm hh
    rw [this] at hk
    match ks, hk with
    | [e, f], _ => exact ⟨e, f, rfl⟩
  by_cases h4 : n.1 = 4
  · rw [if_pos h4]
    obtain ⟨e, f, rfl⟩ := two (.inl h4)
    rw [nth_cons0, nth_cons1]
    have s1 := sideL_len 4 true (e.root.1, e.text)
    have s2 := sideL_len 4 false (f.root.1, f.text)
    have t1 := h e (by simp)
    have t2 := h f (by simp)
    simp only [nodesL, total7_app, List.append_nil, List.length_append, List.length_cons] at s1 s2 ⊢
    omega
  rw [if_neg h4]
  by_cases h5 : n.1 = 5
  · rw [if_pos h5]
    obtain ⟨e, f, rfl⟩ := two (.inr h5)
    rw [nth_cons0, nth_cons1]
    have s1 := sideL_len 5 true (e.root.1, e.text)
    have s2 := sideL_len 5 false (f.root.1, f.text)
    have t1 := h e (by simp)
    have t2 := h f (by simp)
    simp only [nodesL, total7_app, List.append_nil, List.length_append, List.length_cons] at s1 s2 ⊢
    omega
  rw [if_neg h5]
  by_cases h6 : n.1 = 6
  · rw [if_pos h6]
    have hnp := (np_proj hm h6).1
    rw [hnp] at hk
    match ks, hk with
    | [e], _ =>
      rw [nth_cons0]
      have t1 := h e (by simp)
      have hpos : 1 ≤ n.2.1.size := by
        unfold mayN at hm
        rw [if_neg (by omega), if_neg (by omega), if_neg h3, if_neg (by omega), if_pos h6, Bool.and_eq_true] at hm
        have h7 := hm.1
        rw [← hn]
        cases hx : nm n with
        | nil => unfold nm at hx; rw [hx] at h7; cases h7
        | cons a b => simp
      simp only [nodesL, List.append_nil, List.length_append, List.length_cons, List.length_nil]
      omega
  · rw [if_neg h6]; omega
mutual
theorem text_len : ∀ (e : Ex), e.wf → (∀ t ∈ e.nodes, mayN t = true) → e.text.length + 2 ≤ 3 * total7 e.nodes
  | .mk n ks, hw, hm => by
    have := txt_len n ks (hm n (by simp [Ex.nodes])) hw.1 (text_lens ks hw.2 fun t ht => hm t (by simp [Ex.nodes, ht]))
    simp only [Ex.nodes, total7_app, total7, Ex.text] at this ⊢
    omega
theorem text_lens : ∀ (ks : List Ex), wfL ks → (∀ t ∈ nodesL ks, mayN t = true) → ∀ e ∈ ks, e.text.length + 2 ≤ 3 * total7 e.nodes
  | [], _, _ => fun _ h => by cases h
  | e :: ks, hw, hm => fun x hx => by
    rcases List.mem_cons.1 hx with h | hx
    · rw [h]; exact text_len e hw.1 fun t ht => hm t (by simp [nodesL, ht])
    · exact text_lens ks hw.2 (fun t ht => hm t (by simp [nodesL, ht])) x hx
end
/-- a row of one tree, or more: what Text needs -/
theorem good_of {l : List Tg} {st : List Ex} (hf : total7 l ≤ 600) (hp : 0 < l.length) (hm : ∀ t ∈ l, mayN t = true) (hr : runS [] l = some st) : Good7 l st := by
  refine ⟨Nat.le_trans (total7_ge l) hf, hp, hm, hr, fun j hj => ?_, fun t ht => by have := total7_mem ht; omega⟩
  obtain ⟨sn, hsn⟩ := run_take hr (j + 1)
  obtain ⟨sk, hsk⟩ := run_take hr j
  obtain ⟨_, e⟩ := run_next hj hsk hsn
  rw [e] at hsn
  obtain ⟨h1, _, _, h4⟩ := run_pop hsn
  have ht : treeAt l j = some (.mk l[j] (sk.take (np l[j])).reverse) := by unfold treeAt; rw [hsn]; rfl
  rw [text_of ht]
  generalize Ex.mk l[j] (sk.take (np l[j])).reverse = c at *
  have hb : total7 c.nodes ≤ total7 l := by
    rw [← h4]
    exact Nat.le_trans (total7_drop _ _) (total7_take _ _)
  have := text_len c h1 (fun t ht => by rw [← h4] at ht; exact hm t (List.mem_of_mem_take (List.mem_of_mem_drop ht)))
  omega
end Go.Proofs.Ytmohedkhbjeapaa.Ex
