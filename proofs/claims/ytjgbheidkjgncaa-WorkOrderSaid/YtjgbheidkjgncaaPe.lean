/-
  What the proofs lean on, part 5 of 10.
-/
import Derived.Test.YtjgbheidkjgncaaPa
import Derived.Test.YtjgbheidkjgncaaPc
import Derived.Test.YtjgbheidkjgncaaPd
import Derived.Deep.QuietTactic
import Derived.BigQuiet
import Derived.Deep.RegionHeld3
import Derived.Laws.EntriesVeiled
import Derived.StillTailTactics
import Derived.WalkSmall
namespace Go.Proofs.Ytjgbheidkjgncaa.Wk
open Go.Proofs.Ytjgbheidkjgncaa.St

theorem nlt_trans {a b c : PI} (h1 : ¬ ltP b a) (h2 : ¬ ltP c b) : ¬ ltP c a := by
  unfold ltP at *
  omega
theorem lt_nlt {a b : PI} (h : ltP a b) : ¬ ltP b a := by
  unfold ltP at *
  omega
theorem nlt_refl (a : PI) : ¬ ltP a a := by
  unfold ltP
  omega
theorem nlt_both {a b : PI} (h1 : ¬ ltP a b) (h2 : ¬ ltP b a) : a = b := by
  unfold ltP at *
  obtain ⟨a1, a2⟩ := a
  obtain ⟨b1, b2⟩ := b
  simp only [Prod.mk.injEq] at *
  omega
/-- what stands at a place -/
def gt (l : List PI) (i : Nat) : PI := l[i]?.getD (0, 0)
theorem gt_at {l : List PI} {i : Nat} (h : i < l.length) : gt l i = l[i] := by
  unfold gt
  rw [List.getElem?_eq_getElem h]; rfl
def swp (l : List PI) (i j : Nat) : List PI := (l.set i (gt l j)).set j (gt l i)
theorem swp_len (l : List PI) (i j : Nat) : (swp l i j).length = l.length := by simp [swp]
theorem gt_swp {l : List PI} {i j : Nat} (hi : i < l.length) (hj : j < l.length) (k : Nat) : gt (swp l i j) k = if k = j then gt l i else if k = i then gt l j else gt l k := by
  unfold swp
  by_cases hkj : k = j
  · subst hkj
    rw [if_pos rfl]
    show (((l.set i (gt l k)).set k (gt l i))[k]?).getD (0, 0) = gt l i
    rw [List.getElem?_set_self (by simpa using hj)]; rfl
  · rw [if_neg hkj]
    show (((l.set i (gt l j)).set j (gt l i))[k]?).getD (0, 0) = _
    rw [List.getElem?_set_ne (fun h => hkj h.symm)]
    by_cases hki : k = i
    · subst hki
      rw [if_pos rfl, List.getElem?_set_self hi]; rfl
    · rw [if_neg hki, List.getElem?_set_ne (fun h => hki h.symm)]; rfl
theorem swp_perm {l : List PI} {i j : Nat} (hi : i < l.length) (hj : j < l.length) : (swp l i j).Perm l := by
  unfold swp
  rw [gt_at hi, gt_at hj]
  exact List.set_set_perm hi hj
/-- a heap: none is less than that above it -/
def Heap (l : List PI) : Prop := ∀ i, 0 < i → i < l.length → ¬ ltP (gt l i) (gt l ((i - 1) / 2))
theorem heap_first {l : List PI} (h : Heap l) : ∀ i, i < l.length → ¬ ltP (gt l i) (gt l 0) := by
  intro i
  induction i using Nat.strongRecOn with
  | ind i ih =>
    intro hi
    by_cases h0 : i = 0
    · subst h0; exact nlt_refl _
    · exact nlt_trans (ih ((i - 1) / 2) (by omega) (by omega)) (h i (by omega) hi)
theorem heap_least {l : List PI} (h : Heap l) {z : PI} (hz : z ∈ l) : ¬ ltP z (gt l 0) := by
  obtain ⟨i, hi, rfl⟩ := List.getElem_of_mem hz
  rw [← gt_at hi]
  exact heap_first h i hi
def rise : Nat → List PI → Nat → List PI
  | 0, l, _ => l
  | f + 1, l, i => if 0 < i ∧ ltP (gt l i) (gt l ((i - 1) / 2)) then rise f (swp l i ((i - 1) / 2)) ((i - 1) / 2) else l
theorem rise_perm : ∀ (f : Nat) (l : List PI) (i : Nat), i < l.length → (rise f l i).Perm l
  | 0, _, _, _ => .refl _
  | f + 1, l, i, hi => by
    unfold rise
    split
    · exact (rise_perm f _ _ (by rw [swp_len]; omega)).trans (swp_perm hi (by omega))
    · exact .refl _
theorem rise_heap : ∀ (f : Nat) (l : List PI) (i : Nat), i ≤ f → i < l.length → (∀ j, 0 < j → j < l.length → j ≠ i → ¬ ltP (gt l j) (gt l ((j - 1) / 2))) → (∀ j, 0 < j → j < l.length → (j - 1) / 2 = i → 0 < i → ¬ ltP (gt l j) (gt l ((i - 1) / 2))) → Heap (rise f l i)
  | 0, l, i, hf, _, h1, _ => fun j h0 hj => h1 j h0 hj (by omega)
  | f + 1, l, i, hf, hi, h1, h2 => by
    unfold rise
    split
    · rename_i hc
      obtain ⟨h0, hlt⟩ := hc
      have hu : (i - 1) / 2 < l.length := by omega
      have sw := gt_swp hi hu
      refine rise_heap f _ _ (by omega) (by rw [swp_len]; omega) (fun j hj0 hj hne => ?_) (fun j hj0 hj hju hu0 => ?_)
      · rw [swp_len] at hj
        rw [sw j, sw ((j - 1) / 2), if_neg hne]
        by_cases hji : j = i
        · subst hji
          rw [if_pos rfl, if_pos rfl]
          exact lt_nlt hlt
        · rw [if_neg hji]
          by_cases hju : (j - 1) / 2 = (i - 1) / 2
          · rw [if_pos hju]
            have := h1 j hj0 hj hji
            rw [hju] at this
            exact nlt_trans (lt_nlt hlt) this
          · rw [if_neg hju]
            by_cases hji2 : (j - 1) / 2 = i
            · rw [if_pos hji2]
              exact h2 j hj0 hj hji2 h0
            · rw [if_neg hji2]
              exact h1 j hj0 hj hji
      · rw [swp_len] at hj
        have huu : ¬ ((i - 1) / 2 - 1) / 2 = (i - 1) / 2 := by omega
        have hui : ¬ ((i - 1) / 2 - 1) / 2 = i := by omega
        have hup := h1 ((i - 1) / 2) hu0 hu (by omega)
        rw [sw j, sw (((i - 1) / 2 - 1) / 2), if_neg huu, if_neg hui, if_neg (show ¬ j = (i - 1) / 2 by omega)]
        by_cases hji : j = i
        · rw [if_pos hji]
          exact hup
        · rw [if_neg hji]
          have := h1 j hj0 hj hji
          rw [hju] at this
          exact nlt_trans hup this
    · rename_i hc
      intro j h0 hj
      by_cases hji : j = i
      · subst hji
        exact fun h => hc ⟨h0, h⟩
      · exact h1 j h0 hj hji
def putH (l : List PI) (p : PI) : List PI := rise l.length (l ++ [p]) l.length
theorem putH_perm (l : List PI) (p : PI) : (putH l p).Perm (l ++ [p]) := rise_perm _ _ _ (by simp)
theorem putH_heap {l : List PI} (p : PI) (h : Heap l) : Heap (putH l p) := by
  refine rise_heap _ _ _ (Nat.le_refl _) (by simp) (fun j h0 hj hne => ?_) (fun j h0 hj hju _ => ?_)
  · simp only [List.length_append, List.length_singleton] at hj
    have e : ∀ k, k < l.length → gt (l ++ [p]) k = gt l k := fun k hk => by unfold gt; rw [List.getElem?_append_left hk]
    rw [e j (by omega), e _ (by omega)]
    exact h j h0 (by omega)
  · simp only [List.length_append, List.length_singleton] at hj
    omega
def lesser (l : List PI) (i : Nat) : Nat := if 2 * i + 2 < l.length ∧ ltP (gt l (2 * i + 2)) (gt l (2 * i + 1)) then 2 * i + 2 else 2 * i + 1
theorem lesser_is (l : List PI) (i : Nat) : lesser l i = 2 * i + 1 ∨ (lesser l i = 2 * i + 2 ∧ 2 * i + 2 < l.length) := by
  unfold lesser
  split
  · rename_i h; exact .inr ⟨rfl, h.1⟩
  · exact .inl rfl
theorem lesser_le {l : List PI} {i j : Nat} (hj : j < l.length) (h0 : 0 < j) (hp : (j - 1) / 2 = i) : ¬ ltP (gt l j) (gt l (lesser l i)) := by
  have hj2 : j = 2 * i + 1 ∨ j = 2 * i + 2 := by omega
  unfold lesser
  split
  · rename_i h
    rcases hj2 with rfl | rfl
    · exact lt_nlt h.2
    · exact nlt_refl _
  · rename_i h
    rcases hj2 with rfl | rfl
    · exact nlt_refl _
    · exact fun hh => h ⟨hj, hh⟩
def sink : Nat → List PI → Nat → List PI
  | 0, l, _ => l
  | f + 1, l, i => if 2 * i + 1 < l.length ∧ ltP (gt l (lesser l i)) (gt l i) then sink f (swp l i (lesser l i)) (lesser l i) else l
theorem sink_perm : ∀ (f : Nat) (l : List PI) (i : Nat), (sink f l i).Perm l
  | 0, _, _ => .refl _
  | f + 1, l, i => by
    unfold sink
    split
    · rename_i h
      have := lesser_is l i
      exact (sink_perm f _ _).trans (swp_perm (by omega) (by omega))
    · exact .refl _
theorem sink_heap : ∀ (f : Nat) (l : List PI) (i : Nat), l.length ≤ i + f → (∀ j, 0 < j → j < l.length → (j - 1) / 2 ≠ i → ¬ ltP (gt l j) (gt l ((j - 1) / 2))) → (∀ j, 0 < j → j < l.length → (j - 1) / 2 = i → 0 < i → ¬ ltP (gt l j) (gt l ((i - 1) / 2))) → Heap (sink f l i)
  | 0, l, i, hf, h1, _ => fun j h0 hj => h1 j h0 hj (by have hj2 : j < l.length := hj; omega)
  | f + 1, l, i, hf, h1, h2 => by
    unfold sink
    split
    · rename_i hc
      obtain ⟨hk, hlt⟩ := hc
      have hl := lesser_is l i
      have hle := fun j hj h0 hp => lesser_le (l := l) (i := i) (j := j) hj h0 hp
      generalize lesser l i = k at *
      have hkl : k < l.length := by omega
      have hki : (k - 1) / 2 = i := by omega
      have sw := gt_swp (show i < l.length by omega) hkl
      refine sink_heap f _ _ (by rw [swp_len]; omega) (fun j hj0 hj hne => ?_) (fun j hj0 hj hjk hk0 => ?_)
      · rw [swp_len] at hj
        rw [sw j, sw ((j - 1) / 2), if_neg hne]
        by_cases hjk : j = k
        · subst hjk
          rw [if_pos rfl, if_pos hki]
          exact lt_nlt hlt
        · rw [if_neg hjk]
          by_cases hji : j = i
          · rw [if_pos hji, if_neg (by omega)]
            subst hji
            exact h2 k (by omega) hkl hki (by omega)
          · rw [if_neg hji]
            by_cases hpi : (j - 1) / 2 = i
            · rw [if_pos hpi]
              exact hle j hj hj0 hpi
            · rw [if_neg hpi]
              exact h1 j hj0 hj hpi
      · rw [swp_len] at hj
        rw [sw j, sw ((k - 1) / 2), if_neg (show ¬ (k - 1) / 2 = k by omega), if_pos hki, if_neg (show ¬ j = k by omega), if_neg (show ¬ j = i by omega)]
        have := h1 j hj0 hj (by omega)
        rwa [hjk] at this
    · rename_i hc
      intro j h0 hj
      by_cases hp : (j - 1) / 2 = i
      · rw [hp]
        have hle := lesser_le hj h0 hp
        have hnl : ¬ ltP (gt l (lesser l i)) (gt l i) := fun hh => hc ⟨by omega, hh⟩
        exact nlt_trans hnl hle
      · exact h1 j h0 hj hp
/-- what waits behind the first one, once it is taken -/
def nextH (l : List PI) : List PI := sink l.length ((l.take (l.length - 1)).set 0 (gt l (l.length - 1))) 0
theorem nextH_perm {l : List PI} (h : 0 < l.length) : (gt l 0 :: nextH l).Perm l := by
  have hs : (nextH l).Perm ((l.take (l.length - 1)).set 0 (gt l (l.length - 1))) := sink_perm _ _ _
  refine (hs.cons _).trans ?_
  obtain ⟨a, t, rfl⟩ := List.exists_cons_of_length_pos h
  show (a :: ((a :: t).take t.length).set 0 (gt (a :: t) t.length)).Perm (a :: t)
  refine List.Perm.cons _ ?_
  cases t with
  | nil => exact .nil
  | cons b r =>
    show ((a :: (b :: r).take r.length).set 0 (gt (a :: b :: r) (r.length + 1))).Perm (b :: r)
    rw [List.set_cons_zero]
    have e : gt (a :: b :: r) (r.length + 1) = (b :: r).getLast (by simp) := by
      rw [gt_at (by simp), List.getLast_eq_getElem]; rfl
    rw [e]
    have hd : (b :: r).take r.length = (b :: r).dropLast := by rw [List.dropLast_eq_take]; rfl
    rw [hd]
    have := List.dropLast_concat_getLast (l := b :: r) (by simp)
    calc ((b :: r).getLast (by simp) :: (b :: r).dropLast).Perm ((b :: r).dropLast ++ [(b :: r).getLast (by simp)]) := (List.perm_append_singleton _ _).symm
      _ = (b :: r) := this
theorem nextH_heap {l : List PI} (h : Heap l) : Heap (nextH l) := by
  have hl : ((l.take (l.length - 1)).set 0 (gt l (l.length - 1))).length ≤ l.length := by
    rw [List.length_set, List.length_take]; omega
  refine sink_heap _ _ _ (by omega) (fun j h0 hj hne => ?_) (fun j _ _ _ h => absurd h (Nat.lt_irrefl _))
  rw [List.length_set, List.length_take] at hj
  have e : ∀ k, 0 < k → k < l.length - 1 → gt ((l.take (l.length - 1)).set 0 (gt l (l.length - 1))) k = gt l k := fun k hk hk2 => by
    unfold gt
    rw [List.getElem?_set_ne (by omega), List.getElem?_take_of_lt hk2]
  rw [e j h0 (by omega), e _ (by omega) (by omega)]
  exact h j h0 (by omega)
theorem first_mem {l : List PI} (h : 0 < l.length) : gt l 0 ∈ l := by
  rw [gt_at h]; exact List.getElem_mem h
theorem first_is {h s : List PI} {a : PI} (hh : Heap h) (hp : h.Perm (a :: s)) (hs : (a :: s).Pairwise ltP) : gt h 0 = a ∧ (nextH h).Perm s := by
  have h0 : 0 < h.length := by rw [hp.length_eq]; simp
  have ha : gt h 0 = a := by
    have h1 := heap_least hh (hp.symm.subset (List.mem_cons_self))
    rcases List.mem_cons.1 (hp.subset (first_mem h0)) with e | e
    · exact e
    · exact absurd ((List.pairwise_cons.1 hs).1 _ e) h1
  have h2 := (nextH_perm h0).trans hp
  rw [ha] at h2
  exact ⟨ha, h2.cons_inv⟩
theorem heads_same {h k : List PI} (hh : Heap h) (hk : Heap k) (hp : h.Perm k) (h0 : 0 < h.length) : gt h 0 = gt k 0 ∧ (nextH h).Perm (nextH k) := by
  have k0 : 0 < k.length := by rw [← hp.length_eq]; exact h0
  have e : gt h 0 = gt k 0 := nlt_both (heap_least hk (hp.subset (first_mem h0))) (heap_least hh (hp.symm.subset (first_mem k0)))
  have h2 := ((nextH_perm h0).trans hp).trans (nextH_perm k0).symm
  rw [e] at h2
  exact ⟨e, h2.cons_inv⟩
theorem putH_mem {l : List PI} {p z : PI} : z ∈ putH l p ↔ z ∈ l ∨ z = p := by
  rw [(putH_perm l p).mem_iff]; simp
theorem putH_len (l : List PI) (p : PI) : (putH l p).length = l.length + 1 := by
  rw [(putH_perm l p).length_eq]; simp
theorem putH_nodup {l : List PI} {p : PI} (h : l.Nodup) (hp : p ∉ l) : (putH l p).Nodup := by
  rw [(putH_perm l p).nodup_iff, List.nodup_append]
  refine ⟨h, by simp, fun a ha b hb => ?_⟩
  rw [List.mem_singleton] at hb
  subst hb
  rintro rfl
  exact hp ha
theorem nextH_len {l : List PI} (h : 0 < l.length) : (nextH l).length + 1 = l.length := by
  have := (nextH_perm h).length_eq
  simpa using this
theorem nextH_nodup {l : List PI} (h0 : 0 < l.length) (h : l.Nodup) : (nextH l).Nodup ∧ gt l 0 ∉ nextH l := by
  have := (nextH_perm h0).nodup_iff.2 h
  rw [List.nodup_cons] at this
  exact ⟨this.2, this.1⟩
theorem nextH_mem {l : List PI} (h0 : 0 < l.length) {z : PI} (hz : z ∈ nextH l) : z ∈ l := (nextH_perm h0).subset (List.mem_cons_of_mem _ hz)
/-- two are put in either order: the same wait -/
theorem put_both (l : List PI) (p q : PI) : (putH (putH l p) q).Perm (putH (putH l q) p) := by
  have h1 : (putH (putH l p) q).Perm (l ++ [p] ++ [q]) := (putH_perm _ _).trans ((putH_perm _ _).append_right _)
  have h2 : (putH (putH l q) p).Perm (l ++ [q] ++ [p]) := (putH_perm _ _).trans ((putH_perm _ _).append_right _)
  refine h1.trans (.trans ?_ h2.symm)
  rw [List.append_assoc, List.append_assoc]
  exact (List.Perm.swap q p []).append_left l
/-- the document's test: none is less than that above it, said from above -/
theorem heap_below {l : List PI} : Heap l ↔ ∀ i, i < l.length → (2 * i + 1 < l.length → ¬ ltP (gt l (2 * i + 1)) (gt l i)) ∧ (2 * i + 2 < l.length → ¬ ltP (gt l (2 * i + 2)) (gt l i)) := by
  constructor
  · intro h i hi
    refine ⟨fun h1 => ?_, fun h2 => ?_⟩
    · have := h (2 * i + 1) (by omega) h1
      rwa [show (2 * i + 1 - 1) / 2 = i by omega] at this
    · have := h (2 * i + 2) (by omega) h2
      rwa [show (2 * i + 2 - 1) / 2 = i by omega] at this
  · intro h i h0 hi
    obtain ⟨h1, h2⟩ := h ((i - 1) / 2) (by omega)
    by_cases ho : i = 2 * ((i - 1) / 2) + 1
    · rw [← ho] at h1; exact h1 hi
    · have he : i = 2 * ((i - 1) / 2) + 2 := by omega
      rw [← he] at h2; exact h2 hi
theorem layP_same {l : List PI} {p : PI} (hr : l.Pairwise ltP) (h : p ∈ l) : layP l p = l :=
  rise_same (layP_rise hr) hr fun z => by
    rw [layP_mem]
    exact ⟨fun h1 => h1.elim id (fun e => e ▸ h), .inl⟩
theorem layP_perm {l : List PI} {p : PI} (h : p ∉ l) : (layP l p).Perm (l ++ [p]) := by
  rw [layP_cut]
  have hn : ¬ l[cutP l p]? = some p := fun e => h (List.mem_of_getElem? e)
  rw [if_neg hn]
  have h1 : (l.take (cutP l p) ++ [p] ++ l.drop (cutP l p)).Perm (l.take (cutP l p) ++ (l.drop (cutP l p) ++ [p])) := by
    rw [List.append_assoc]
    exact (List.perm_append_comm).append_left _
  refine h1.trans ?_
  rw [← List.append_assoc, List.take_append_drop]
/-- what waits and what is laid stay the same -/
theorem put_lay {l a : List PI} {p : PI} (h : l.Perm a) (hp : p ∉ a) : (putH l p).Perm (layP a p) :=
  ((putH_perm l p).trans (h.append_right _)).trans (layP_perm hp).symm
/-- of a heap of a rising row its pairs come in its order -/
theorem drain_at {h a : List PI} {i : Nat} (hh : Heap h) (hp : h.Perm (a.drop i)) (hr : a.Pairwise ltP) (hi : i < a.length) : 0 < h.length ∧ gt h 0 = a[i] ∧ (nextH h).Perm (a.drop (i + 1)) := by
  rw [List.drop_eq_getElem_cons hi] at hp
  have hs : (a[i] :: a.drop (i + 1)).Pairwise ltP := by
    rw [← List.drop_eq_getElem_cons hi]
    exact hr.sublist (List.drop_sublist _ _)
  obtain ⟨h1, h2⟩ := first_is hh hp hs
  exact ⟨by rw [hp.length_eq]; exact Nat.succ_pos _, h1, h2⟩
end Go.Proofs.Ytjgbheidkjgncaa.Wk

namespace Go.Proofs.Ytjgbheidkjgncaa.Wk
open Go.Proofs.Ytjgbheidkjgncaa.St
open Go.Proofs.Ytjgbheidkjgncaa.Hs (atI rightB Dist layI right_iff)
def keyP (p : PI) : List Int := [p.1, p.2]
theorem keyP_inj {p q : PI} (h : keyP p = keyP q) : p = q := by
  unfold keyP at h
  simp only [List.cons.injEq, and_true] at h
  exact Prod.ext h.1 h.2
def okAt (l : List PI) (ks : List (List Int)) (i : Nat) : Bool :=
  !decide (atI ks (keyP (gt l i)) < 0) && !decide (gt l i ∈ l.take i) && !(decide (2 * i + 1 < l.length) && decide (ltP (gt l (2 * i + 1)) (gt l i))) && !(decide (2 * i + 2 < l.length) && decide (ltP (gt l (2 * i + 2)) (gt l i)))
def okL (l : List PI) (ks : List (List Int)) : Bool := (List.range l.length).all (okAt l ks)
def rightQB (l : List PI) (ks : List (List Int)) (sl : List Int) : Bool := rightB ks sl && ks.all (fun k => k.length == 2) && okL l ks
theorem range_at (f : Nat → Bool) {n k : Nat} (h : k < n) : ((List.range n).drop k).all f = (f k && ((List.range n).drop (k + 1)).all f) := by
  rw [List.drop_eq_getElem_cons (by simpa using h), List.all_cons, List.getElem_range]
theorem nodup_take {l : List PI} : l.Nodup ↔ ∀ i, i < l.length → gt l i ∉ l.take i := by
  unfold List.Nodup
  rw [List.pairwise_iff_getElem]
  constructor
  · intro h i hi hm
    obtain ⟨j, hj, e⟩ := List.getElem_of_mem hm
    rw [List.length_take] at hj
    rw [List.getElem_take, gt_at hi] at e
    exact h j i (by omega) hi (by omega) e
  · intro h i j hi hj hij e
    refine h j hj ?_
    rw [gt_at hj, ← e]
    exact List.mem_take_iff_getElem.2 ⟨i, by omega, rfl⟩
theorem ok_iff {l : List PI} {ks : List (List Int)} : okL l ks = true ↔ (∀ p ∈ l, 0 ≤ atI ks (keyP p)) ∧ l.Nodup ∧ Heap l := by
  unfold okL
  rw [List.all_eq_true]
  simp only [List.mem_range, okAt, Bool.and_eq_true, Bool.not_eq_true', decide_eq_false_iff_not, Bool.and_eq_false_iff]
  rw [nodup_take, heap_below]
  constructor
  · intro h
    refine ⟨fun p hp => ?_, fun i hi => (h i hi).1.1.2, fun i hi => ⟨fun h1 => ?_, fun h2 => ?_⟩⟩
    · obtain ⟨i, hi, rfl⟩ := List.getElem_of_mem hp
      have := (h i hi).1.1.1
      rw [gt_at hi] at this
      omega
    · exact (h i hi).1.2.resolve_left (fun hh => hh h1)
    · exact (h i hi).2.resolve_left (fun hh => hh h2)
  · rintro ⟨h1, h2, h3⟩ i hi
    refine ⟨⟨⟨?_, h2 i hi⟩, ?_⟩, ?_⟩
    · have := h1 (gt l i) (by rw [gt_at hi]; exact List.getElem_mem hi)
      omega
    · by_cases hc : 2 * i + 1 < l.length
      · exact .inr ((h3 i hi).1 hc)
      · exact .inl hc
    · by_cases hc : 2 * i + 2 < l.length
      · exact .inr ((h3 i hi).2 hc)
      · exact .inl hc
/-- a right queue -/
structure QOk (l : List PI) (ks : List (List Int)) (sl : List Int) : Prop where
  dist : Dist ks
  lay : sl = layI ks
  two : ∀ k ∈ ks, k.length = 2
  seen : ∀ p ∈ l, 0 ≤ atI ks (keyP p)
  nd : l.Nodup
  heap : Heap l
theorem rightQ_iff {l : List PI} {ks : List (List Int)} {sl : List Int} : rightQB l ks sl = true ↔ QOk l ks sl := by
  unfold rightQB
  rw [Bool.and_eq_true, Bool.and_eq_true, right_iff, ok_iff, List.all_eq_true]
  simp only [beq_iff_eq]
  exact ⟨fun ⟨⟨⟨a, b⟩, c⟩, d, e, f⟩ => ⟨a, b, c, d, e, f⟩, fun h => ⟨⟨⟨h.dist, h.lay⟩, h.two⟩, h.seen, h.nd, h.heap⟩⟩
theorem QOk.next {l : List PI} {ks : List (List Int)} {sl : List Int} (h : QOk l ks sl) (h0 : 0 < l.length) : QOk (nextH l) ks sl :=
  ⟨h.dist, h.lay, h.two, fun p hp => h.seen p (nextH_mem h0 hp), (nextH_nodup h0 h.nd).1, nextH_heap h.heap⟩
theorem QOk.put {l : List PI} {ks : List (List Int)} {sl : List Int} {p : PI} (h : QOk l ks sl) (hn : atI ks (keyP p) < 0) : QOk (putH l p) (ks ++ [keyP p]) (layI (ks ++ [keyP p])) := by
  have hne : ∀ (i : Nat) x, ks[i]? = some x → x ≠ keyP p := by
    rcases Hs.atI_cases ks (keyP p) with ⟨_, h2⟩ | ⟨i, _, h2⟩
    · exact h2
    · omega
  have hd : Dist (ks ++ [keyP p]) := Hs.Dist.snoc h.dist hne
  have hp : p ∉ l := fun hp => by have := h.seen p hp; omega
  refine ⟨hd, rfl, fun k hk => ?_, fun q hq => ?_, putH_nodup h.nd hp, putH_heap p h.heap⟩
  · rcases List.mem_append.1 hk with hk | hk
    · exact h.two k hk
    · rw [List.mem_singleton] at hk; subst hk; rfl
  · rcases putH_mem.1 hq with hq | rfl
    · rcases Hs.atI_cases ks (keyP q) with ⟨h1, _⟩ | ⟨i, h1, _⟩
      · have := h.seen q hq; omega
      · have hi := (List.getElem?_eq_some_iff.1 h1).1
        rw [Hs.atI_some hd (i := i) (by rw [List.getElem?_append_left hi]; exact h1)]
        omega
    · rw [Hs.atI_some hd (i := ks.length) (by simp)]
      omega
end Go.Proofs.Ytjgbheidkjgncaa.Wk

namespace Go.Proofs.Ytjgbheidkjgncaa.Ex
open Go.RowKit Kit Go.Proofs.Ytjgbheidkjgncaa.Nm Rw

end Go.Proofs.Ytjgbheidkjgncaa.Ex

namespace Go.Proofs.Ytjgbheidkjgncaa.Ex
open Go.RowKit Kit Rw
open Go.Proofs.Ytjgbheidkjgncaa.Sg (Sig findI)
end Go.Proofs.Ytjgbheidkjgncaa.Ex

namespace Go.Proofs.Ytjgbheidkjgncaa.Ex
open Go.RowKit Kit Rw
open Go.Proofs.Ytjgbheidkjgncaa.Sg (Sig findI)
end Go.Proofs.Ytjgbheidkjgncaa.Ex

namespace Go.Proofs.Ytjgbheidkjgncaa.St
open Go.RowKit Kit Rw

def cellsQ : List PI → List Value
  | [] => []
  | t :: l => .int .i64 t.1 :: .int .i64 t.2 :: cellsQ l
theorem cellsQ_len (l : List PI) : (cellsQ l).length = l.length * 2 := by
  induction l with
  | nil => rfl
  | cons s l ih => simp [cellsQ, ih]; omega
theorem cellsQ_append (a b : List PI) : cellsQ (a ++ b) = cellsQ a ++ cellsQ b := by
  induction a with
  | nil => rfl
  | cons s l ih => simp [cellsQ, ih]
theorem cellsQ_one (l : List PI) : ∀ v ∈ cellsQ l, v.oneCell' = true := by
  induction l with
  | nil => simp [cellsQ]
  | cons s l ih => simp only [cellsQ, List.mem_cons]; rintro v (rfl | rfl | h); exact rfl; exact rfl; exact ih v h
theorem cellsQ_0 (l : List PI) (i : Nat) : (cellsQ l)[i * 2]? = l[i]?.map fun s => Value.int .i64 s.1 := by
  induction l generalizing i with
  | nil => simp [cellsQ]
  | cons s l ih =>
    cases i with
    | zero => rfl
    | succ i => rw [show (i + 1) * 2 = i * 2 + 1 + 1 by omega]; simpa [cellsQ] using ih i
theorem cellsQ_1 (l : List PI) (i : Nat) : (cellsQ l)[i * 2 + 1]? = l[i]?.map fun s => Value.int .i64 s.2 := by
  induction l generalizing i with
  | nil => simp [cellsQ]
  | cons s l ih =>
    cases i with
    | zero => rfl
    | succ i => rw [show (i + 1) * 2 + 1 = i * 2 + 1 + 1 + 1 by omega]; simpa [cellsQ] using ih i
theorem pair_at {w : World} {B : Nat} {A : Option Addr} {l : List PI} (h : Rds w B A (cellsQ l)) {k : Nat} (hk : k < l.length) :
    ∃ ad, A = some ad ∧ ad.block < B ∧ w.cell? (ad.add (k * 2)) = some (.int .i64 l[k].1) ∧ w.cell? ⟨(ad.add (k * 2)).block, (ad.add (k * 2)).off + 1, none⟩ = some (.int .i64 l[k].2) := by
  obtain ⟨ad, e, hlt, hc⟩ := h (by rw [cellsQ_len]; omega)
  refine ⟨ad, e, hlt, hc _ _ (by rw [cellsQ_0, List.getElem?_eq_getElem hk]; rfl), ?_⟩
  rw [← add_succ]
  exact hc _ _ (by rw [cellsQ_1, List.getElem?_eq_getElem hk]; rfl)
theorem pairInfo : (Try.prog.info? 30).map (fun i => (i.zero, i.size, i.bytes)) = some (some (.agg #[.int .i64 0, .int .i64 0]), 2, 16) := by kernel_rfl
end Go.Proofs.Ytjgbheidkjgncaa.St

namespace Go.Proofs.Ytjgbheidkjgncaa.Kit

section
variable {P : Program} {ops : Array Oper} {Q : Exit → Act → World → Prop} {S : World → Prop}
theorem take_w {i : Nat} {oi : Oper} {d : Option Tmp} {v : Value} {fuel : Nat} {listed : Array Bool} {a : Act} {w : World} (hi : ops[i]? = some oi)
    (hs : Region.noSelect ops = true) (hf : Region.free .any ops listed i = true) (hr : (Region.ready .any ops listed).contains i = true)
    (hQ : ∀ c a w, Q (.panic c) (a.put d v) w → Q (.panic c) a w) (hd : oi.dst = d) (hw : Region.wanted oi (yielded ops a.tmps) = true) (hy : ∀ w, S w → (execOp a.eval oi).run P w = .ok (.value v) w) (hS : S w)
    (h : wpAnyH P .any ops Q S fuel (listed.setIfInBounds i true) (a.put d v) w) : wpAnyH P .any ops Q S (fuel + 1) listed a w := by
  subst hd
  exact wpAnyH_take hi hs hf hr hQ (.inl ⟨hw, hy⟩) hS h
theorem take_u {i : Nat} {oi : Oper} {d : Option Tmp} {fuel : Nat} {listed : Array Bool} {a : Act} {w : World} (hi : ops[i]? = some oi)
    (hs : Region.noSelect ops = true) (hf : Region.free .any ops listed i = true) (hr : (Region.ready .any ops listed).contains i = true)
    (hQ : ∀ c a w, Q (.panic c) (a.put d undef) w → Q (.panic c) a w) (hd : oi.dst = d) (hw : Region.wanted oi (yielded ops a.tmps) = false) (hS : S w)
    (h : wpAnyH P .any ops Q S fuel (listed.setIfInBounds i true) (a.put d undef) w) : wpAnyH P .any ops Q S (fuel + 1) listed a w := by
  subst hd
  exact wpAnyH_take hi hs hf hr hQ (.inr ⟨hw, rfl⟩) hS h
theorem call_w {i : Nat} {o : Oper} {fuel : Nat} {listed : Array Bool} {a : Act} {w : World} (ho : ops[i]? = some o) (hr : Region.ready .any ops listed = [i])
    (hw : Region.wanted o (yielded ops a.tmps) = true)
    (h : ∀ K' : Act → World → Prop, Shut (∀ a w, S w → (S w → wpAnyH P .any ops Q S fuel (listed.setIfInBounds i true) a w) → K' a w) → Oper.wp P o a w K' Q) :
    wpAnyH P .any ops Q S (fuel + 1) listed a w :=
  wpAnyH_ready hr (by simp) (AllReadyH.cons ho (fun K' hK => by rw [if_pos hw]; exact h K' hK) AllReadyH.nil)
end
end Go.Proofs.Ytjgbheidkjgncaa.Kit

namespace Go.Proofs.Ytjgbheidkjgncaa.Wk
open Go.RowKit Kit Rw
open Go.Proofs.Ytjgbheidkjgncaa.St

set_option maxHeartbeats 1000000 in
theorem lenR_any (b n c : Nat) (A : Option Addr) (w : World) (h : w.cell? ⟨b, 0, none⟩ = some (.slice A n c)) :
    Calls Try.prog 82 #[.pointer (some ⟨b, 0, none⟩)] w fun e w' => e = .returned (.int .i64 n) ∧ w' = w := by
  go_enter Try.func82, Try.ntmps82
  go_wp2_with fail
  go_ret
  exact ⟨rfl, rfl⟩
set_option maxHeartbeats 1000000 in
theorem allR_any (b n c : Nat) (A : Option Addr) (w : World) (h : w.cell? ⟨b, 0, none⟩ = some (.slice A n c)) :
    Calls Try.prog 87 #[.pointer (some ⟨b, 0, none⟩)] w fun e w' => e = .returned (.slice A n c) ∧ w' = w := by
  go_enter Try.func87, Try.ntmps87
  go_wp2_with fail
  go_ret
  exact ⟨rfl, rfl⟩
set_option maxHeartbeats 1000000 in
theorem isLess_any (p q : PI) (w : World) :
    Calls Try.prog 31 #[.agg #[.int .i64 p.1, .int .i64 p.2], .agg #[.int .i64 q.1, .int .i64 q.2]] w fun e w' => e = .returned (.bool (decide (ltP p q))) ∧ Q w w' := by
  have q0 := ((Q.refl w).alloc (Obj.cells #[.int .i64 p.1, .int .i64 p.2] 61)).alloc (Obj.cells #[.int .i64 q.1, .int .i64 q.2] 61)
  have HQ0 := Lib.hid q0
  clear q0
  by_cases h1 : p.1 < q.1
  · have d1 : decide (p.1 < q.1) = true := decide_eq_true h1
    have HF : Hid (decide (ltP p q) = true) := decide_eq_true (.inl h1)
    clear h1
    go_enter Try.func31, Try.ntmps31
    go_wp2_with fail
    go_ret
    exact ⟨by rw [HF.out]; rfl, HQ0.out⟩
  · have d1 : decide (p.1 < q.1) = false := decide_eq_false h1
    by_cases h2 : p.1 = q.1
    · have d2 : (p.1 == q.1) = true := beq_iff_eq.2 h2
      by_cases h3 : p.2 < q.2
      · have d3 : decide (p.2 < q.2) = true := decide_eq_true h3
        have HF : Hid (decide (ltP p q) = true) := decide_eq_true (.inr ⟨h2, h3⟩)
        clear h1 h2 h3
        go_enter Try.func31, Try.ntmps31
        go_wp2_with fail
        go_ret
        exact ⟨by rw [HF.out]; rfl, HQ0.out⟩
      · have d3 : decide (p.2 < q.2) = false := decide_eq_false h3
        have HF : Hid (decide (ltP p q) = false) := decide_eq_false (fun h => h.elim h1 fun h => h3 h.2)
        clear h1 h2 h3
        go_enter Try.func31, Try.ntmps31
        go_wp2_with fail
        go_ret
        exact ⟨by rw [HF.out]; rfl, HQ0.out⟩
    · have d2 : (p.1 == q.1) = false := beq_eq_false_iff_ne.2 h2
      have HF : Hid (decide (ltP p q) = false) := decide_eq_false (fun h => h.elim h1 fun h => h2 h.1)
      clear h1 h2
      go_enter Try.func31, Try.ntmps31
      go_wp2_with fail
      go_ret
      exact ⟨by rw [HF.out]; rfl, HQ0.out⟩
/-- what stands at a place of a row -/
theorem gt_cells {l : List PI} {i : Nat} (h : i < l.length) : (cellsQ l)[i * 2]? = some (.int .i64 (gt l i).1) ∧ (cellsQ l)[i * 2 + 1]? = some (.int .i64 (gt l i).2) := by
  rw [cellsQ_0, cellsQ_1, List.getElem?_eq_getElem h, gt_at h]
  exact ⟨rfl, rfl⟩
/-- a row of pairs behind its box -/
structure RowW (w : World) (base b g c : Nat) (l : List PI) : Prop where
  lb : base ≤ b
  ne : b ≠ g
  box : OwnC w b [.slice (some ⟨g, 0, none⟩) l.length c, .func (.func 31) #[] #[]]
  own : w.ownsRow base 30 2 (.slice (some ⟨g, 0, none⟩) l.length c) l.length (cellsQ l)
  few : l.length ≤ 1000000
/-- only blocks b and g may have changed -/
structure Two (b g : Nat) (w w' : World) : Prop where
  os : w'.os = w.os
  tape : w'.tape = w.tape
  output : w'.output = w.output
  size : w.heap.size ≤ w'.heap.size
  block : ∀ i, i < w.heap.size → i ≠ b → i ≠ g → w'.heap[i]? = w.heap[i]?
theorem Two.refl (b g : Nat) (w : World) : Two b g w w := ⟨rfl, rfl, rfl, Nat.le_refl _, fun _ _ _ _ => rfl⟩
theorem Two.trans {b g : Nat} {u v w : World} (h : Two b g u v) (k : Two b g v w) : Two b g u w :=
  ⟨k.os.trans h.os, k.tape.trans h.tape, k.output.trans h.output, Nat.le_trans h.size k.size, fun i hi h1 h2 => (k.block i (Nat.lt_of_lt_of_le hi h.size) h1 h2).trans (h.block i hi h1 h2)⟩
theorem Two.q {b g : Nat} {u v w : World} (h : Two b g u v) (k : Q v w) : Two b g u w := h.trans ⟨k.os, k.tape, k.output, k.size, fun i hi _ _ => k.block i hi⟩
theorem Two.of_q {b g : Nat} {v w : World} (k : Q v w) : Two b g v w := (Two.refl b g v).q k
theorem Two.grown {b g : Nat} {u v : World} (h : u.grownBy v (some g)) : Two b g u v := ⟨h.os, h.tape, h.output, h.size, fun i hi _ h2 => h.block i hi (fun e => h2 (by cases e; rfl))⟩
theorem Two.box {b g : Nat} {u v : World} (h : u.grownBy v (some b)) : Two b g u v := ⟨h.os, h.tape, h.output, h.size, fun i hi h1 _ => h.block i hi (fun e => h1 (by cases e; rfl))⟩
theorem Two.below {b g : Nat} {u v w : World} (q : Q u v) (h : Two b g v w) (hb : u.heap.size ≤ b) (hg : u.heap.size ≤ g) : Q u w :=
  ⟨h.os.trans q.os, h.tape.trans q.tape, h.output.trans q.output, Nat.le_trans q.size h.size, fun i hi => (h.block i (Nat.lt_of_lt_of_le hi q.size) (by omega) (by omega)).trans (q.block i hi)⟩
theorem Two.cell {b g : Nat} {v w : World} (h : Two b g v w) {p : Addr} (hp : p.block < v.heap.size) (h1 : p.block ≠ b) (h2 : p.block ≠ g) : w.cell? p = v.cell? p := World.cell?_of_block (h.block _ hp h1 h2)
section
variable {w : World} {base b g c : Nat} {l : List PI}
theorem RowW.cells (h : RowW w base b g c l) : OwnC w g (cellsQ l) := OwnC.of_row h.own
theorem RowW.b0 (h : RowW w base b g c l) : w.cell? ⟨b, 0, none⟩ = some (.slice (some ⟨g, 0, none⟩) l.length c) := (h.box.2 0 _ rfl).1
theorem RowW.b1 (h : RowW w base b g c l) : w.cell? ⟨b, 1, none⟩ = some (.func (.func 31) #[] #[]) := (h.box.2 1 _ rfl).1
theorem RowW.bf (h : RowW w base b g c l) : w.frozen? ⟨b, 0, none⟩ = false := (h.box.2 0 _ rfl).2
theorem RowW.lg (h : RowW w base b g c l) : base ≤ g ∧ g < w.heap.size := h.own.lt g rfl
theorem RowW.q {w' : World} (h : RowW w base b g c l) (k : Q w w') : RowW w' base b g c l := ⟨h.lb, h.ne, h.box.q k, row_kept h.own k (Nat.le_refl _), h.few⟩
theorem RowW.at_ (h : RowW w base b g c l) {i : Nat} (hi : i < l.length) : w.cell? ⟨g, i * 2, none⟩ = some (.int .i64 (gt l i).1) ∧ w.cell? ⟨g, i * 2 + 1, none⟩ = some (.int .i64 (gt l i).2) ∧ w.frozen? ⟨g, i * 2, none⟩ = false ∧ w.frozen? ⟨g, i * 2 + 1, none⟩ = false := by
  obtain ⟨h1, h2⟩ := gt_cells hi
  obtain ⟨a1, a2⟩ := h.cells.2 _ _ h1
  obtain ⟨a3, a4⟩ := h.cells.2 _ _ h2
  exact ⟨a1, a3, a2, a4⟩
end
end Go.Proofs.Ytjgbheidkjgncaa.Wk

namespace Go.Proofs.Ytjgbheidkjgncaa.Wk
open Go.RowKit Kit Rw
open Go.Proofs.Ytjgbheidkjgncaa.St

set_option maxRecDepth 100000 in
set_option maxHeartbeats 1000000 in
theorem lessR_any (base b g c i j : Nat) (l : List PI) (w : World) (h : RowW w base b g c l) (hi : i < l.length) (hj : j < l.length) :
    Calls Try.prog 83 #[.pointer (some ⟨b, 0, none⟩), .int .i64 i, .int .i64 j] w fun e w' => e = .returned (.bool (decide (ltP (gt l i) (gt l j)))) ∧ Q w w' := by
  have C := Lib.hid (fun W => isLess_any (gt l i) (gt l j) W)
  obtain ⟨a1, a2, _, _⟩ := h.at_ hi
  obtain ⟨b1, b2, _, _⟩ := h.at_ hj
  have x0 := h.b0
  have x1 := h.b1
  have n1 : (i : Int) < (l.length : Int) := by omega
  have n2 : (j : Int) < (l.length : Int) := by omega
  clear h hi hj
  generalize gt l i = p at *
  generalize gt l j = q at *
  obtain ⟨p1, p2⟩ := p
  obtain ⟨q1, q2⟩ := q
  go_enter Try.func83, Try.ntmps83
  go_upto_region 1 with fail
  go_still_tail 18, (by kernel_rfl)
  change wpList _ _ _ _ _ w.drew
  have q0 : Q w w.drew := (Q.refl w).drew
  generalize w.drew = w2 at *
  go_wp2_with (go_at_call 31; refine (C.out _).mono ?_; rintro e w4 ⟨rfl, q4⟩)
  go_ret
  exact ⟨rfl, q0.trans q4⟩
end Go.Proofs.Ytjgbheidkjgncaa.Wk

namespace Go.Proofs.Ytjgbheidkjgncaa.Wk
open Go.RowKit Kit Rw
open Go.Proofs.Ytjgbheidkjgncaa.St

theorem cells_set (l : List PI) (i : Nat) (p : PI) : cellsQ (l.set i p) = ((cellsQ l).set (i * 2) (.int .i64 p.1)).set (i * 2 + 1) (.int .i64 p.2) := by
  induction l generalizing i with
  | nil => simp [cellsQ]
  | cons a l ih =>
    cases i with
    | zero => simp [cellsQ]
    | succ i =>
      rw [show (i + 1) * 2 = i * 2 + 1 + 1 by omega, show i * 2 + 1 + 1 + 1 = (i * 2 + 1) + 1 + 1 by omega]
      simp only [List.set_cons_succ, cellsQ, ih]
theorem RowW.put {w : World} {base b g c : Nat} {l : List PI} (h : RowW w base b g c l) (i : Nat) (p : PI) :
    RowW ((w.setCell ⟨g, i * 2, none⟩ (.int .i64 p.1)).setCell ⟨g, i * 2 + 1, none⟩ (.int .i64 p.2)) base b g c (l.set i p) ∧ Two b g w ((w.setCell ⟨g, i * 2, none⟩ (.int .i64 p.1)).setCell ⟨g, i * 2 + 1, none⟩ (.int .i64 p.2)) := by
  obtain ⟨o1, g1⟩ := h.own.stored (i * 2) (.int .i64 p.1)
  obtain ⟨o2, g2⟩ := o1.stored (i * 2 + 1) (.int .i64 p.2)
  rw [← cells_set] at o2
  have hne := h.ne
  refine ⟨⟨h.lb, h.ne, ?_, by rw [List.length_set]; exact o2, by rw [List.length_set]; exact h.few⟩, Two.grown (grown_trans g1 g2)⟩
  rw [List.length_set]
  exact (h.box.far (fun e => hne e.symm) _).far (fun e => hne e.symm) _
set_option maxRecDepth 100000 in
set_option maxHeartbeats 1000000 in
theorem swapR_any (base b g c i j : Nat) (l : List PI) (w : World) (h : RowW w base b g c l) (hi : i < l.length) (hj : j < l.length) :
    Calls Try.prog 86 #[.pointer (some ⟨b, 0, none⟩), .int .i64 i, .int .i64 j] w fun e w' => e = .returned (.tuple #[]) ∧ RowW w' base b g c (swp l i j) ∧ Two b g w w' := by
  obtain ⟨r1, t1⟩ := h.put i (gt l j)
  obtain ⟨r2, t2⟩ := r1.put j (gt l i)
  have HR : Hid (RowW _ base b g c (swp l i j)) := r2
  have HT := Lib.hid (t1.trans t2)
  obtain ⟨c1, c2, c3, c4⟩ := r1.at_ (i := j) (by rw [List.length_set]; exact hj)
  clear r1 t1 r2 t2
  generalize gt (l.set i (gt l j)) j = z at *
  obtain ⟨z1, z2⟩ := z
  obtain ⟨a1, a2, a3, a4⟩ := h.at_ hi
  obtain ⟨b1, b2, b3, b4⟩ := h.at_ hj
  have x0 := h.b0
  have hne := h.ne
  have n1 : (i : Int) < (l.length : Int) := by omega
  have n2 : (j : Int) < (l.length : Int) := by omega
  clear h hi hj
  generalize gt l i = p at *
  generalize gt l j = q at *
  obtain ⟨p1, p2⟩ := p
  obtain ⟨q1, q2⟩ := q
  go_enter Try.func86, Try.ntmps86
  go_region
  all_goals go_wp2_with fail
  go_end0
  exact ⟨rfl, HR.out.q ((Q.refl _).drew), HT.out.q ((Q.refl _).drew)⟩
end Go.Proofs.Ytjgbheidkjgncaa.Wk

namespace Go.Proofs.Ytjgbheidkjgncaa.Wk
open Go.RowKit Kit Rw
open Go.Proofs.Ytjgbheidkjgncaa.St

theorem step_append_fits {P : Program} {w : World} {ops : Array Oper} {o : Oper} {a : Act} {K : Act → World → Prop} {R : Exit → Act → World → Prop} {E : Prop} (hgd : o.guard = none) (s x : Operand) (t : TypeId)
    (ho : o.op = .call { callee := .builtin .append, args := #[s, x], argTypes := #[t, t] })
    (base : Nat) (e : TypeId) (i : TypeInfo) (size : Nat) (ht : P.underlying t = some (.slice e)) (hi : P.info? e = some i) (hsize : i.size = size)
    (g n cap : Nat) (xs : List Value) (hs : a.eval s = .slice (some ⟨g, 0, none⟩) n cap) (hown : w.ownsRow base e size (.slice (some ⟨g, 0, none⟩) n cap) n xs)
    (ad : Addr) (m c : Nat) (news : List Value) (hx : a.eval x = .slice (some ad) m c) (hl : news.length = m * size) (hnews : ∀ j u, news[j]? = some u → w.cell? (ad.add j) = some u) (h1 : ∀ u ∈ news, u.oneCell' = true)
    (hroom : n + m ≤ cap)
    (h : ∀ w', w'.ownsRow base e size (.slice (some ⟨g, 0, none⟩) (n + m) cap) (n + m) (xs ++ news) → w.grownBy w' (some g) → K (a.put o.dst (.slice (some ⟨g, 0, none⟩) (n + m) cap)) w') :
    if Region.wanted o (yielded ops a.tmps) = true then Oper.wp P o a w K R else E := by
  have hw : Region.wanted o (yielded ops a.tmps) = true := by simp [Region.wanted, hgd]
  rw [if_pos hw]
  obtain ⟨w', hrun, h2, h3⟩ := run_append_fits (P := P) w base t o.type e i size ht hi hsize g n cap xs hown ad m c news hl hnews h1 hroom
  unfold Oper.wp execOp
  simp only [ho, resolve, invoke, builtin, Sem.run_bind, Sem.run_pure, Result.andThen_ok, List.map_toArray, List.map_cons, List.map_nil, hs, hx, hrun]
  exact h w' h2 h3
theorem as_pair (v : Value) (w : World) : (Instr.typeAssert (.iface 30 v) 20 30 false).run Try.prog w = .ok v w := by kernel_rfl
theorem Two.below_gg {g : Nat} {u v w : World} (q : Q u v) (h : v.grownBy w (some g)) : Two g g u w :=
  ⟨h.os.trans q.os, h.tape.trans q.tape, h.output.trans q.output, Nat.le_trans q.size h.size, fun i hi h1 _ => (h.block i (Nat.lt_of_lt_of_le hi q.size) (fun e => h1 (by cases e; rfl))).trans (q.block i hi)⟩
theorem RowW.kept_box {w w' : World} {base b g c : Nat} {l : List PI} (h : RowW w base b g c l) (t : Two g g w w') : w'.cell? ⟨b, 0, none⟩ = some (.slice (some ⟨g, 0, none⟩) l.length c) ∧ w'.frozen? ⟨b, 0, none⟩ = false := by
  have e := t.block b h.box.1 h.ne h.ne
  exact ⟨(World.cell?_of_block (a := ⟨b, 0, none⟩) e).trans h.b0, (World.frozen?_of_block (a := ⟨b, 0, none⟩) e).trans h.bf⟩

theorem RowW.boxed {w w' : World} {base b g c : Nat} {l l' : List PI} (h : RowW w base b g c l) (own' : w'.ownsRow base 30 2 (.slice (some ⟨g, 0, none⟩) l'.length c) l'.length (cellsQ l')) (t : Two g g w w') (hl : l'.length ≤ 1000000) :
    RowW (w'.setCell ⟨b, 0, none⟩ (.slice (some ⟨g, 0, none⟩) l'.length c)) base b g c l' ∧ Two b g w (w'.setCell ⟨b, 0, none⟩ (.slice (some ⟨g, 0, none⟩) l'.length c)) := by
  have hb : OwnC w' b [.slice (some ⟨g, 0, none⟩) l.length c, .func (.func 31) #[] #[]] := by
    have e := t.block b h.box.1 h.ne h.ne
    exact ⟨Nat.lt_of_lt_of_le h.box.1 t.size, fun j v hv => ⟨(World.cell?_of_block (a := ⟨b, j, none⟩) e).trans (h.box.2 j v hv).1, (World.frozen?_of_block (a := ⟨b, j, none⟩) e).trans (h.box.2 j v hv).2⟩⟩
  have g1 := setCell_grown w' b 0 (.slice (some ⟨g, 0, none⟩) l'.length c)
  have hne := h.ne
  refine ⟨⟨h.lb, h.ne, hb.set (s := 0) (by simp) _, own'.kept g1 (.inr (fun e => hne (by simpa [Value.ownBlock] using e.symm))), hl⟩, ?_⟩
  have t' : Two b g w w' := ⟨t.os, t.tape, t.output, t.size, fun i hi _ h2 => t.block i hi h2 h2⟩
  exact t'.trans (Two.box g1)
set_option maxRecDepth 100000 in
set_option maxHeartbeats 1000000 in
theorem pushR_any (base b g c : Nat) (l : List PI) (p : PI) (w : World) (h : RowW w base b g c l) (hc : l.length + 1 ≤ c) (hl : l.length < 1000000) :
    Calls Try.prog 85 #[.pointer (some ⟨b, 0, none⟩), .iface 30 (.agg #[.int .i64 p.1, .int .i64 p.2])] w fun e w' => e = .returned (.tuple #[]) ∧ RowW w' base b g c (l ++ [p]) ∧ Two b g w w' := by
  obtain ⟨i0, hi, hz0, hz1, hz2⟩ := info_parts pairInfo
  have Hi := Lib.hid hi
  have Hz1 := Lib.hid hz1
  clear hi hz0 hz1 hz2
  have HL : Hid (cellsQ l ++ [.int .i64 p.1, .int .i64 p.2] = cellsQ (l ++ [p])) := by unfold Hid; rw [cellsQ_append]; rfl
  have HN : Hid (l.length + 1 = (l ++ [p]).length) := by unfold Hid; simp
  have HC := Lib.hid hc
  have q1 := ((Q.refl w).alloc (Obj.cells #[.int .i64 p.1, .int .i64 p.2] 30)).drew
  have HR := Lib.hid (h.q q1)
  have HX := Lib.hid h
  have HQ := Lib.hid q1
  have HS : Hid (∀ j x, [Value.int .i64 p.1, .int .i64 p.2][j]? = some x → ((w.alloc (.cells #[.int .i64 p.1, .int .i64 p.2] 30)).drew).cell? ((⟨w.heap.size, 0, none⟩ : Addr).add j) = some x) := by
    intro j x hx
    rw [add_zero_head]
    show (w.alloc (.cells #[.int .i64 p.1, .int .i64 p.2] 30)).cell? _ = _
    rw [cell_of_row _ _ _ _ _ _ (heap_alloc_new w _)]
    simpa using hx
  have x0 := h.b0
  have x1 := (h.q ((Q.refl w).alloc (Obj.cells #[.int .i64 p.1, .int .i64 p.2] 30))).b0
  obtain ⟨p1, p2⟩ := p
  have ta := fun (u : World) (v : Value) => as_pair v u
  clear h q1 hc
  go_enter Try.func85, Try.ntmps85
  go_region_law (refine step_append_fits rfl (.tmp 8) (.tmp 11) _ rfl base 30 i0 2 Try.underlying22 Hi.out Hz1.out g l.length c (cellsQ l) rfl HR.out.own ⟨w.heap.size, 0, none⟩ 1 1 [.int .i64 p1, .int .i64 p2] rfl rfl HS.out (by simp [Value.oneCell']) HC.out ?_; intro w2 own2 gr2; rw [HL.out, HN.out] at own2; have hx2 := HX.out.boxed own2 (Two.below_gg HQ.out gr2) (by have := HN.out; omega); rw [← HN.out] at hx2; have HA := Lib.hid hx2.1; have HT := Lib.hid hx2.2; have k1 := (HX.out.kept_box (Two.below_gg HQ.out gr2)).1; have k2 := (HX.out.kept_box (Two.below_gg HQ.out gr2)).2; clear own2 gr2 hx2)
  all_goals go_wp2_with fail
  all_goals go_end0
  all_goals exact ⟨rfl, HA.out, HT.out⟩
end Go.Proofs.Ytjgbheidkjgncaa.Wk

namespace Go.Proofs.Ytjgbheidkjgncaa.Wk
open Go.RowKit Kit Rw
open Go.Proofs.Ytjgbheidkjgncaa.St

theorem own_cap {w : World} {base g n c size : Nat} {e : TypeId} {xs : List Value} (h : w.ownsRow base e size (.slice (some ⟨g, 0, none⟩) n c) n xs) : n ≤ c := by
  rcases h.2 with ⟨h', _⟩ | ⟨g', cap', cur, h', _, _, hnc, _⟩
  · cases h'
  · cases h'; exact hnc
set_option maxRecDepth 100000 in
set_option maxHeartbeats 1000000 in
theorem popR_any (base b g c : Nat) (l : List PI) (p : PI) (w : World) (h : RowW w base b g c (l ++ [p])) :
    Calls Try.prog 84 #[.pointer (some ⟨b, 0, none⟩)] w fun e w' => e = .returned (.iface 30 (.agg #[.int .i64 p.1, .int .i64 p.2])) ∧ RowW w' base b g c l ∧ Two b g w w' := by
  have x0 := h.b0
  have xf := h.bf
  obtain ⟨a1, a2, _, _⟩ := h.at_ (i := l.length) (by simp)
  have e1 : gt (l ++ [p]) l.length = p := by rw [gt_at (by simp)]; simp
  rw [e1] at a1 a2
  have e2 : (l ++ [p]).length = l.length + 1 := by simp
  have ho := h.own
  rw [e2] at x0 ho
  rw [cellsQ_append] at ho
  have hle := h.few
  rw [e2] at hle
  have hcp := own_cap ho
  have hcp : l.length ≤ c := by omega
  have HA := h.boxed (w' := w) (l' := l) (ownsRow_pop (cellsQ_len l) ho) (Two.refl g g w) (by omega)
  have HA1 := Lib.hid HA.1
  have HA2 := Lib.hid HA.2
  have hb := h.box.1
  have hg := h.lg.2
  obtain ⟨p1, p2⟩ := p
  clear h e1 e2 ho HA
  go_enter Try.func84, Try.ntmps84
  go_wp2_with fail
  go_ret
  exact ⟨rfl, HA1.out.q ((Q.refl _).alloc _), HA2.out.q ((Q.refl _).alloc _)⟩
end Go.Proofs.Ytjgbheidkjgncaa.Wk

namespace Go.Proofs.Ytjgbheidkjgncaa.Wk
open Go.RowKit Kit Rw
open Go.Proofs.Ytjgbheidkjgncaa.St

theorem rise_fuel : ∀ (i f : Nat) (l : List PI), i ≤ f → rise f l i = rise i l i := by
  intro i
  induction i using Nat.strongRecOn with
  | ind i ih =>
    intro f l h
    cases i with
    | zero =>
      cases f with
      | zero => rfl
      | succ f =>
        unfold rise
        rw [if_neg (fun h => absurd h.1 (by omega))]
    | succ i =>
      cases f with
      | zero => omega
      | succ f =>
        unfold rise
        split
        · rw [ih _ (by omega) f _ (by omega), ih _ (by omega) i _ (by omega)]
        · rfl
theorem rise_go {l : List PI} {i : Nat} (h0 : 0 < i) (h : ltP (gt l i) (gt l ((i - 1) / 2))) : rise i l i = rise ((i - 1) / 2) (swp l i ((i - 1) / 2)) ((i - 1) / 2) := by
  obtain ⟨k, rfl⟩ : ∃ k, i = k + 1 := ⟨i - 1, by omega⟩
  conv => lhs; unfold rise
  rw [if_pos ⟨h0, h⟩, rise_fuel _ _ _ (by omega)]
theorem rise_stop {l : List PI} {i : Nat} (h : ¬ ltP (gt l i) (gt l ((i - 1) / 2))) : rise i l i = l := by
  cases i with
  | zero => rfl
  | succ k =>
    unfold rise
    rw [if_neg (fun hh => h hh.2)]
theorem swp_comm {l : List PI} {i j : Nat} (h : i ≠ j) : swp l i j = swp l j i := by
  unfold swp
  exact List.set_comm _ _ h
set_option maxRecDepth 100000 in
set_option maxHeartbeats 1000000 in
theorem up_any (base b g c i : Nat) (l : List PI) (w : World) (h : RowW w base b g c l) (hi : i < l.length) :
    Calls Try.prog 60 #[.iface 77 (.pointer (some ⟨b, 0, none⟩)), .int .i64 i] w fun e w' => e = .returned (.tuple #[]) ∧ RowW w' base b g c (rise i l i) ∧ Two b g w w' := by
  have H0 := Lib.hid h
  have hle := h.few
  clear h
  go_enter Try.func60, Try.ntmps60
  go_wp2_with fail
  go_loopw [1] (fun v wr => ∃ (k : Nat) (lk : List PI), v = .int .i64 k ∧ k ≤ i ∧ Hid (RowW wr base b g c lk) ∧ Hid (lk.length = l.length) ∧ Hid (Two b g w wr) ∧ Hid (rise i l i = rise k lk k)) (fun v _ => (intOf v).toNat)
  case atStart => exact ⟨i, l, rfl, Nat.le_refl _, H0, rfl, Two.refl _ _ _, rfl⟩
  case round =>
    obtain ⟨k, lk, rfl, hk, HR, HL, HT, HE⟩ := hrel
    rcases Nat.eq_zero_or_pos k with rfl | hk0
    · go_wp2_with fail
      go_end0
      rw [HE.out]
      exact ⟨rfl, HR.out, HT.out⟩
    · have hkl : k < lk.length := by rw [HL.out]; omega
      have hul : (k - 1) / 2 < lk.length := by omega
      have hc : ((((k - 1) / 2 : Nat)) : Int) = ((k : Int) - 1) / 2 := by omega
      have CL := fun (W : World) (q : Q wr W) => lessR_any base b g c k ((k - 1) / 2) lk W (HR.out.q q) hkl hul
      have CS := fun (W : World) (q : Q wr W) => swapR_any base b g c ((k - 1) / 2) k lk W (HR.out.q q) hul hkl
      rw [hc] at CL CS
      have HCL := Lib.hid CL
      have HCS := Lib.hid CS
      rw [swp_comm (show (k - 1) / 2 ≠ k by omega)] at HCS
      have HU : Hid (((k : Int) - 1) / 2 = (((k - 1) / 2 : Nat) : Int)) := hc.symm
      have HK : Hid ((swp lk k ((k - 1) / 2)).length = l.length) := by unfold Hid; rw [swp_len]; exact HL.out
      have HLT : Hid ((k - 1) / 2 ≤ i ∧ (k - 1) / 2 < k) := ⟨by omega, by omega⟩
      clear CL CS hkl hul hc
      by_cases hlt : ltP (gt lk k) (gt lk ((k - 1) / 2))
      · have HF : Hid (rise i l i = rise ((k - 1) / 2) (swp lk k ((k - 1) / 2)) ((k - 1) / 2)) := by unfold Hid; rw [HE.out, rise_go hk0 hlt]
        rw [decide_eq_true hlt] at HCL
        clear hlt HE
        go_wp2_with (first
          | (go_at_call 83; refine (HCL.out _ (Q.refl _)).mono ?_; rintro e w1 ⟨rfl, q1⟩)
          | (go_at_call 86; refine (HCS.out _ q1).mono ?_; rintro e w2 ⟨rfl, r2, t2⟩))
        have HT2 := Lib.hid ((HT.out.q q1).trans t2)
        have HR2 := Lib.hid r2
        clear r2 t2 q1
        go_roundw
        case rel => exact ⟨(k - 1) / 2, swp lk k ((k - 1) / 2), by rw [HU.out], HLT.out.1, HR2, HK, HT2, HF⟩
        case measure => have := HLT.out.2; have := HU.out; simp [intOf]; omega
      · have HF : Hid (rise i l i = lk) := by unfold Hid; rw [HE.out, rise_stop hlt]
        rw [decide_eq_false hlt] at HCL
        clear hlt HE
        go_wp2_with (go_at_call 83; refine (HCL.out _ (Q.refl _)).mono ?_; rintro e w1 ⟨rfl, q1⟩)
        go_end0
        rw [HF.out]
        exact ⟨rfl, HR.out.q q1, HT.out.q q1⟩
end Go.Proofs.Ytjgbheidkjgncaa.Wk

namespace Go.Proofs.Ytjgbheidkjgncaa.Wk
open Go.RowKit Kit Rw
open Go.Proofs.Ytjgbheidkjgncaa.St

set_option maxRecDepth 100000 in
set_option maxHeartbeats 1000000 in
theorem heapPush_any (base b g c : Nat) (l : List PI) (p : PI) (w : World) (h : RowW w base b g c l) (hc : l.length + 1 ≤ c) (hl : l.length < 1000000) :
    Calls Try.prog 46 #[.iface 77 (.pointer (some ⟨b, 0, none⟩)), .iface 30 (.agg #[.int .i64 p.1, .int .i64 p.2])] w fun e w' => e = .returned (.tuple #[]) ∧ RowW w' base b g c (putH l p) ∧ Two b g w w' := by
  have CP := Lib.hid (pushR_any base b g c l p w h hc hl)
  have CL := Lib.hid (fun (W : World) (hR : RowW W base b g c (l ++ [p])) => lenR_any b (l ++ [p]).length c (some ⟨g, 0, none⟩) W hR.b0)
  have CU := Lib.hid (fun (W : World) (hR : RowW W base b g c (l ++ [p])) => up_any base b g c l.length (l ++ [p]) W hR (by simp))
  have HN : Hid ((((l ++ [p]).length : Nat) : Int) = (l.length : Int) + 1) := by unfold Hid; simp
  rw [HN.out] at CL
  clear h hc HN
  go_enter Try.func46, Try.ntmps46
  go_wp2_with (first
    | (go_at_call 85; refine CP.out.mono ?_; rintro e w1 ⟨rfl, r1, t1⟩)
    | (go_at_call 82; refine (CL.out _ r1).mono ?_; rintro e w2 ⟨rfl, rfl⟩)
    | (go_at_call 60; refine (CU.out _ r1).mono ?_; rintro e w3 ⟨rfl, r3, t3⟩))
  go_end0
  exact ⟨rfl, r3, t1.trans t3⟩
end Go.Proofs.Ytjgbheidkjgncaa.Wk

namespace Go.Proofs.Ytjgbheidkjgncaa.Wk
open Go.RowKit Kit Rw
open Go.Proofs.Ytjgbheidkjgncaa.St

/-- what is ahead of the last one -/
theorem gt_app {l : List PI} {x : PI} {i : Nat} (h : i < l.length) : gt (l ++ [x]) i = gt l i := by
  unfold gt
  rw [List.getElem?_append_left h]
theorem swp_app {l : List PI} {x : PI} {i j : Nat} (hi : i < l.length) (hj : j < l.length) : swp (l ++ [x]) i j = swp l i j ++ [x] := by
  unfold swp
  rw [gt_app hi, gt_app hj, List.set_append_left _ _ hi, List.set_append_left _ _ (by rw [List.length_set]; exact hj)]
theorem sink_stop {l : List PI} {f i : Nat} (h : ¬ (2 * i + 1 < l.length ∧ ltP (gt l (lesser l i)) (gt l i))) : sink f l i = l := by
  cases f with
  | zero => rfl
  | succ f => unfold sink; rw [if_neg h]
theorem sink_go {l : List PI} {f i : Nat} (h : 2 * i + 1 < l.length ∧ ltP (gt l (lesser l i)) (gt l i)) : sink (f + 1) l i = sink f (swp l i (lesser l i)) (lesser l i) := by
  conv => lhs; unfold sink
  rw [if_pos h]
set_option maxRecDepth 100000 in
set_option maxHeartbeats 2000000 in
theorem down_any (base b g c N : Nat) (m : List PI) (x : PI) (w : World) (h : RowW w base b g c (m ++ [x])) (hN : N = m.length) :
    Calls Try.prog 62 #[.iface 77 (.pointer (some ⟨b, 0, none⟩)), .int .i64 0, .int .i64 N] w fun e w' => (∃ v, e = .returned v) ∧ RowW w' base b g c (sink N m 0 ++ [x]) ∧ Two b g w w' := by
  have H0 := Lib.hid h
  have hle := h.few
  rw [List.length_append, ← hN] at hle
  simp only [List.length_singleton] at hle
  have HM := Lib.hid hN
  clear h hN
  go_enter Try.func62, Try.ntmps62
  go_wp2_with fail
  go_loopw [7] (fun v wr => ∃ (k f : Nat) (mk : List PI), v = .int .i64 k ∧ k ≤ N ∧ Hid (RowW wr base b g c (mk ++ [x])) ∧ Hid (mk.length = N) ∧ Hid (Two b g w wr) ∧ Hid (sink N m 0 = sink f mk k) ∧ Hid (N ≤ k + f)) (fun v _ => N - (intOf v).toNat)
  case atStart => exact ⟨0, N, m, rfl, Nat.zero_le _, H0, HM.out.symm, Two.refl _ _ _, rfl, by unfold Hid; omega⟩
  case round =>
    clear H0
    obtain ⟨k, f, mk, rfl, hk, HR, HL, HT, HE, HFu⟩ := hrel
    by_cases h1 : 2 * k + 1 < N
    · have HLs : Hid (∀ (i j : Nat) (z y : Int) (W : World), i < N → j < N → z = (i : Int) → y = (j : Int) → Q wr W → Calls Try.prog 83 #[.pointer (some ⟨b, 0, none⟩), .int .i64 z, .int .i64 y] W fun e w' => e = .returned (.bool (decide (ltP (gt mk i) (gt mk j)))) ∧ Q W w') := by
        intro i j z y W hi hj e1 e2 q
        have hl := HL.out
        subst e1 e2
        have := lessR_any base b g c i j (mk ++ [x]) W (HR.out.q q) (by rw [List.length_append]; omega) (by rw [List.length_append]; omega)
        rwa [gt_app (by omega), gt_app (by omega)] at this
      have HSw : Hid (∀ (i j : Nat) (z y : Int) (W : World), i < N → j < N → z = (i : Int) → y = (j : Int) → Q wr W → Calls Try.prog 86 #[.pointer (some ⟨b, 0, none⟩), .int .i64 z, .int .i64 y] W fun e w' => e = .returned (.tuple #[]) ∧ RowW w' base b g c (swp mk i j ++ [x]) ∧ Two b g W w') := by
        intro i j z y W hi hj e1 e2 q
        have hl := HL.out
        subst e1 e2
        have := swapR_any base b g c i j (mk ++ [x]) W (HR.out.q q) (by rw [List.length_append]; omega) (by rw [List.length_append]; omega)
        rwa [swp_app (by omega) (by omega)] at this
      have g1 : ¬ ((N : Int) ≤ 2 * (k : Int) + 1) := by omega
      have g2 : (2 * (k : Int) + 1) < (N : Int) := by omega
      have g3 : (0 : Int) ≤ 2 * (k : Int) + 1 := by omega
      by_cases h2 : 2 * k + 2 < N
      · have g4 : (2 * (k : Int) + 1 + 1) < (N : Int) := by omega
        have HL1 := Lib.hid (fun z y W h1 h2 q => HLs.out (2 * k + 2) (2 * k + 1) z y W (by omega) (by omega) h1 h2 q)
        by_cases h3 : ltP (gt mk (2 * k + 2)) (gt mk (2 * k + 1))
        · rw [decide_eq_true h3] at HL1
          have HJ : Hid (lesser mk k = 2 * k + 2) := by unfold Hid lesser; rw [if_pos ⟨by have := HL.out; omega, h3⟩]
          clear h3
          have HL2 := Lib.hid (fun z y W h1 h2 q => HLs.out (2 * k + 2) k z y W (by omega) (by omega) h1 h2 q)
          clear HLs
          by_cases hlt : ltP (gt mk (2 * k + 2)) (gt mk k)
          · rw [decide_eq_true hlt] at HL2
            obtain ⟨f, rfl⟩ : ∃ f', f = f' + 1 := ⟨f - 1, by have := HFu.out; omega⟩
            have HE2 : Hid (sink N m 0 = sink f (swp mk k (2 * k + 2)) (2 * k + 2)) := by unfold Hid; rw [HE.out, sink_go ⟨by have := HL.out; omega, by rw [HJ.out]; exact hlt⟩, HJ.out]
            have HK : Hid ((swp mk k (2 * k + 2)).length = N) := by unfold Hid; rw [swp_len]; exact HL.out
            clear hlt HE HJ
            go_wp2_with (first
              | (go_at_call 83; refine (HL1.out _ _ _ (by omega) (by omega) (Q.refl _)).mono ?_; rintro e w1 ⟨rfl, q1⟩; clear HL1)
              | (go_at_call 83; refine (HL2.out _ _ _ (by omega) (by omega) (q1)).mono ?_; rintro e w2 ⟨rfl, q2⟩)
              | (go_at_call 86; refine (HSw.out k (2 * k + 2) _ _ _ (by omega) (by omega) (by omega) (by omega) (q1.trans q2)).mono ?_; rintro e w3 ⟨rfl, r3, t3⟩))
            have HT2 := Lib.hid ((HT.out.q (q1.trans q2)).trans t3)
            have HR2 := Lib.hid r3
            clear r3 t3
            go_roundw
            case rel => exact ⟨2 * k + 2, f, swp mk k (2 * k + 2), by go_num, by omega, HR2, HK, HT2, HE2, by have := HFu.out; unfold Hid; omega⟩
            case measure => simp [intOf]; omega
          · rw [decide_eq_false hlt] at HL2
            have HF : Hid (sink N m 0 = mk) := by unfold Hid; rw [HE.out, sink_stop (fun h => hlt (by have h2 := h.2; rw [HJ.out] at h2; exact h2))]
            clear hlt HE HJ
            go_wp2_with (first
              | (go_at_call 83; refine (HL1.out _ _ _ (by omega) (by omega) (Q.refl _)).mono ?_; rintro e w1 ⟨rfl, q1⟩; clear HL1)
              | (go_at_call 83; refine (HL2.out _ _ _ (by omega) (by omega) (q1)).mono ?_; rintro e w2 ⟨rfl, q2⟩))
            go_ret
            rw [HF.out]
            exact ⟨⟨_, rfl⟩, HR.out.q (q1.trans q2), HT.out.q (q1.trans q2)⟩
        · rw [decide_eq_false h3] at HL1
          have HJ : Hid (lesser mk k = 2 * k + 1) := by unfold Hid lesser; rw [if_neg (fun h => h3 h.2)]
          clear h3
          have HL2 := Lib.hid (fun z y W h1 h2 q => HLs.out (2 * k + 1) k z y W (by omega) (by omega) h1 h2 q)
          clear HLs
          by_cases hlt : ltP (gt mk (2 * k + 1)) (gt mk k)
          · rw [decide_eq_true hlt] at HL2
            obtain ⟨f, rfl⟩ : ∃ f', f = f' + 1 := ⟨f - 1, by have := HFu.out; omega⟩
            have HE2 : Hid (sink N m 0 = sink f (swp mk k (2 * k + 1)) (2 * k + 1)) := by unfold Hid; rw [HE.out, sink_go ⟨by have := HL.out; omega, by rw [HJ.out]; exact hlt⟩, HJ.out]
            have HK : Hid ((swp mk k (2 * k + 1)).length = N) := by unfold Hid; rw [swp_len]; exact HL.out
            clear hlt HE HJ
            go_wp2_with (first
              | (go_at_call 83; refine (HL1.out _ _ _ (by omega) (by omega) (Q.refl _)).mono ?_; rintro e w1 ⟨rfl, q1⟩; clear HL1)
              | (go_at_call 83; refine (HL2.out _ _ _ (by omega) (by omega) (q1)).mono ?_; rintro e w2 ⟨rfl, q2⟩)
              | (go_at_call 86; refine (HSw.out k (2 * k + 1) _ _ _ (by omega) (by omega) (by omega) (by omega) (q1.trans q2)).mono ?_; rintro e w3 ⟨rfl, r3, t3⟩))
            have HT2 := Lib.hid ((HT.out.q (q1.trans q2)).trans t3)
            have HR2 := Lib.hid r3
            clear r3 t3
            go_roundw
            case rel => exact ⟨2 * k + 1, f, swp mk k (2 * k + 1), by go_num, by omega, HR2, HK, HT2, HE2, by have := HFu.out; unfold Hid; omega⟩
            case measure => simp [intOf]; omega
          · rw [decide_eq_false hlt] at HL2
            have HF : Hid (sink N m 0 = mk) := by unfold Hid; rw [HE.out, sink_stop (fun h => hlt (by have h2 := h.2; rw [HJ.out] at h2; exact h2))]
            clear hlt HE HJ
            go_wp2_with (first
              | (go_at_call 83; refine (HL1.out _ _ _ (by omega) (by omega) (Q.refl _)).mono ?_; rintro e w1 ⟨rfl, q1⟩; clear HL1)
              | (go_at_call 83; refine (HL2.out _ _ _ (by omega) (by omega) (q1)).mono ?_; rintro e w2 ⟨rfl, q2⟩))
            go_ret
            rw [HF.out]
            exact ⟨⟨_, rfl⟩, HR.out.q (q1.trans q2), HT.out.q (q1.trans q2)⟩
      · have g4 : ¬ ((2 * (k : Int) + 1 + 1) < (N : Int)) := by omega
        have HJ : Hid (lesser mk k = 2 * k + 1) := by unfold Hid lesser; rw [if_neg (fun h => h2 (by have := HL.out; have := h.1; omega))]
        have HL2 := Lib.hid (fun z y W h1 h2 q => HLs.out (2 * k + 1) k z y W (by omega) (by omega) h1 h2 q)
        clear HLs
        by_cases hlt : ltP (gt mk (2 * k + 1)) (gt mk k)
        · rw [decide_eq_true hlt] at HL2
          obtain ⟨f, rfl⟩ : ∃ f', f = f' + 1 := ⟨f - 1, by have := HFu.out; omega⟩
          have HE2 : Hid (sink N m 0 = sink f (swp mk k (2 * k + 1)) (2 * k + 1)) := by unfold Hid; rw [HE.out, sink_go ⟨by have := HL.out; omega, by rw [HJ.out]; exact hlt⟩, HJ.out]
          have HK : Hid ((swp mk k (2 * k + 1)).length = N) := by unfold Hid; rw [swp_len]; exact HL.out
          clear hlt HE HJ
          go_wp2_with (first
            | (go_at_call 83; refine (HL2.out _ _ _ (by omega) (by omega) (Q.refl _)).mono ?_; rintro e w2 ⟨rfl, q2⟩)
            | (go_at_call 86; refine (HSw.out k (2 * k + 1) _ _ _ (by omega) (by omega) (by omega) (by omega) q2).mono ?_; rintro e w3 ⟨rfl, r3, t3⟩))
          have HT2 := Lib.hid ((HT.out.q q2).trans t3)
          have HR2 := Lib.hid r3
          clear r3 t3
          go_roundw
          case rel => exact ⟨2 * k + 1, f, swp mk k (2 * k + 1), by go_num, by omega, HR2, HK, HT2, HE2, by have := HFu.out; unfold Hid; omega⟩
          case measure => simp [intOf]; omega
        · rw [decide_eq_false hlt] at HL2
          have HF : Hid (sink N m 0 = mk) := by unfold Hid; rw [HE.out, sink_stop (fun h => hlt (by have h2 := h.2; rw [HJ.out] at h2; exact h2))]
          clear hlt HE HJ
          go_wp2_with (first
            | (go_at_call 83; refine (HL2.out _ _ _ (by omega) (by omega) (Q.refl _)).mono ?_; rintro e w2 ⟨rfl, q2⟩))
          go_ret
          rw [HF.out]
          exact ⟨⟨_, rfl⟩, HR.out.q q2, HT.out.q q2⟩
    · have g1 : (N : Int) ≤ 2 * (k : Int) + 1 := by omega
      have HF : Hid (sink N m 0 = mk) := by unfold Hid; rw [HE.out, sink_stop (fun h => h1 (by have := HL.out; omega))]
      go_wp2_with fail
      go_ret
      rw [HF.out]
      exact ⟨⟨_, rfl⟩, HR.out, HT.out⟩
end Go.Proofs.Ytjgbheidkjgncaa.Wk
