/-
  Plain: sides written from the last node on: what is written, and what is next.
-/
import Derived.Test.YtmohedkhbjeapaaRef8D
namespace Go.Proofs.Ytmohedkhbjeapaa.Ex
open Go.RowKit Kit Rw
open Go.Proofs.Ytmohedkhbjeapaa.Sg (Sig findI Row refFind_any)

/-- the places of a node's parts -/
def kidP (l : List Tg) (i : Nat) (sk : List Ex) (K : List Nat) : Prop := K = (backsF (sk.take (np (l[i]?.getD (0, ⟨#[]⟩, 0)))) i).reverse
theorem tree_size (n : Tg) (ks : List Ex) : (Ex.mk n ks).size = 1 + sumS ks := by
  rw [sumS_nodes]; simp [Ex.size, Ex.nodes]; omega
/-- the side of a node, and of its parts -/
theorem sides_kid (L : List Sig) {l : List Tg} {x : Ex} (h : runS [] l = some [x]) (s : UInt8) {i : Nat} (hi : i < l.length) {sk : List Ex} (hsk : runS [] (l.take i) = some sk) :
    ∃ t, (x.sides L s)[i]? = some t ∧ ∀ (kk : Nat) (hK : kk < (backsF (sk.take (np l[i])) i).reverse.length), (x.sides L s)[((backsF (sk.take (np l[i])) i).reverse)[kk]]? = some (turnB t (varyB L l[i] kk)) := by
  obtain ⟨sk1, S, h1, h2, h3⟩ := fs_all L h s (l.length - (i + 1)) (i + 1) (by omega)
  obtain ⟨hnp, hnx⟩ := run_next hi hsk h1
  subst hnx
  cases S with
  | nil => simp at h2
  | cons t T =>
    have hkl : (sk.take (np l[i])).reverse.length = np l[i] := by rw [List.length_reverse, List.length_take]; omega
    rw [fs_step, List.reverse_reverse, List.take_append_drop] at h3
    have hS : ((kidS L l[i] t 0 (sk.take (np l[i])).reverse.length).reverse ++ T).length = sk.length := by
      simp only [List.length_cons, List.length_drop] at h2
      simp only [List.length_append, List.length_reverse, kidS_len, List.length_take]
      omega
    have hlen := fs_len L sk _ hS
    have hsum := run_sum hsk (by omega)
    rw [hsum] at hlen
    refine ⟨t, ?_, fun kk hK => ?_⟩
    · rw [h3, List.append_assoc, List.getElem?_append_right (by omega), hlen, Nat.sub_self]
      rfl
    · have hbl : (backsF (sk.take (np l[i])) i).length = np l[i] := by rw [backsF_len, List.length_take]; omega
      have hk : kk < np l[i] := by rw [List.length_reverse, hbl] at hK; exact hK
      have hq : np l[i] - 1 - kk < sk.length := by omega
      have hat := fs_at L sk _ hS (np l[i] - 1 - kk) hq
      have e1 : ((backsF (sk.take (np l[i])) i).reverse)[kk] = (backsF sk (sumS sk))[np l[i] - 1 - kk]'(by rw [backsF_len]; exact hq) := by
        rw [List.getElem_reverse]
        have e2 : backsF sk (sumS sk) = backsF (sk.take (np l[i])) i ++ backsF (sk.drop (np l[i])) (i - sumS (sk.take (np l[i]))) := by
          conv => lhs; rw [← List.take_append_drop (np l[i]) sk]
          rw [backsF_app, List.take_append_drop, hsum]
        simp only [e2]
        rw [List.getElem_append_left (by omega)]
        simp only [hbl]
      rw [e1, h3, List.append_assoc, List.getElem?_append_left (List.getElem?_eq_some_iff.1 hat).1, hat]
      congr 1
      rw [List.getElem_append_left (by simp [kidS_len]; omega), List.getElem_reverse]
      unfold kidS
      simp only [List.getElem_map, List.getElem_range, List.length_map, List.length_range, Nat.zero_add, hkl]
      congr 2
      omega

/-- what is written when node k is the last that is done -/
structure Done (l : List Tg) (F o : List UInt8) (k : Nat) : Prop where
  len : o.length = l.length
  behind : ∀ j, k ≤ j → o[j]? = F[j]?
  pend : ∀ sk, runS [] (l.take k) = some sk → ∀ (q : Nat) (h : q < (backsF sk k).length), o[(backsF sk k)[q]]? = F[(backsF sk k)[q]]?
theorem Done.at_ {l : List Tg} {F o : List UInt8} {i : Nat} (h : Done l F o (i + 1)) (hi : i < l.length) {st : List Ex} (hs : runS [] l = some st) : o[i]? = F[i]? := by
  obtain ⟨sk, hsk⟩ := run_take hs i
  obtain ⟨sn, hsn⟩ := run_take hs (i + 1)
  obtain ⟨_, hnx⟩ := run_next hi hsk hsn
  subst hnx
  exact h.pend _ hsn 0 (by simp [backsF])
theorem Done.step {l : List Tg} {F o o' : List UInt8} {i : Nat} (h : Done l F o (i + 1)) (hi : i < l.length) {st : List Ex} (hs : runS [] l = some st) {sk : List Ex} (hsk : runS [] (l.take i) = some sk)
    (hl : o'.length = o.length) (hm : ∀ p : Nat, o[p]? = F[p]? → o'[p]? = F[p]?) (hk : ∀ (kk : Nat) (hK : kk < (backsF (sk.take (np l[i])) i).reverse.length), o'[((backsF (sk.take (np l[i])) i).reverse)[kk]]? = F[((backsF (sk.take (np l[i])) i).reverse)[kk]]?) : Done l F o' i := by
  obtain ⟨sn, hsn⟩ := run_take hs (i + 1)
  obtain ⟨hnp, hnx⟩ := run_next hi hsk hsn
  subst hnx
  have hbl : (backsF (sk.take (np l[i])) i).length = np l[i] := by rw [backsF_len, List.length_take]; omega
  refine ⟨by rw [hl, h.len], fun j hj => ?_, fun sk' hsk' q hq => ?_⟩
  · rcases Nat.eq_or_lt_of_le hj with e | hj
    · subst e; exact hm _ (h.at_ hi hs)
    · exact hm _ (h.behind j hj)
  · rw [hsk] at hsk'
    injection hsk' with hsk'
    subst hsk'
    have e2 : backsF sk i = backsF (sk.take (np l[i])) i ++ backsF (sk.drop (np l[i])) (i - sumS (sk.take (np l[i]))) := by
      conv => lhs; rw [← List.take_append_drop (np l[i]) sk]
      rw [backsF_app]
    have hq' : q < (backsF (sk.take (np l[i])) i ++ backsF (sk.drop (np l[i])) (i - sumS (sk.take (np l[i])))).length := by rw [← e2]; exact hq
    have e3 : (backsF sk i)[q] = (backsF (sk.take (np l[i])) i ++ backsF (sk.drop (np l[i])) (i - sumS (sk.take (np l[i]))))[q] := by simp only [e2]
    rw [e3]
    by_cases hqn : q < np l[i]
    · have := hk (np l[i] - 1 - q) (by simp [hbl]; omega)
      rw [List.getElem_reverse] at this
      rw [List.getElem_append_left (by omega)]
      have e4 : (backsF (sk.take (np l[i])) i).length - 1 - (np l[i] - 1 - q) = q := by omega
      simpa only [e4] using this
    · rw [List.getElem_append_right (by omega)]
      have hsz : sumS (sk.take (np l[i])).reverse = sumS (sk.take (np l[i])) := sumS_rev _
      have e5 : backsF (.mk l[i] (sk.take (np l[i])).reverse :: sk.drop (np l[i])) (i + 1) = i :: backsF (sk.drop (np l[i])) (i - sumS (sk.take (np l[i]))) := by
        simp only [backsF, tree_size, hsz, Nat.add_sub_cancel]
        congr 2
        omega
      have hq2 : q - np l[i] + 1 < (backsF (.mk l[i] (sk.take (np l[i])).reverse :: sk.drop (np l[i])) (i + 1)).length := by
        rw [e5, List.length_cons]
        rw [List.length_append, hbl] at hq'
        omega
      have := h.pend _ hsn (q - np l[i] + 1) hq2
      simp only [e5, List.getElem_cons_succ] at this
      simp only [hbl]
      exact hm _ this
theorem Done.all {l : List Tg} {F o : List UInt8} (h : Done l F o 0) : o = F := List.ext_getElem? fun j => h.behind j (Nat.zero_le _)
theorem Done.first {l : List Tg} {x : Ex} (L : List Sig) (s : UInt8) (hs : runS [] l = some [x]) {o : List UInt8} (hl : o.length = l.length) (h : o[l.length - 1]? = some s) : Done l (x.sides L s) o l.length := by
  have hx : x.size = l.length := by
    have := run_sum (i := l.length) (by rw [List.take_length]; exact hs) (Nat.le_refl _)
    simpa [sumS] using this
  refine ⟨hl, fun j hj => ?_, fun sk hsk q hq => ?_⟩
  · rw [List.getElem?_eq_none (by omega), List.getElem?_eq_none (by rw [sides_len, hx]; exact hj)]
  · rw [List.take_length, hs] at hsk
    injection hsk with hsk
    subst hsk
    have hq0 : q = 0 := by simp [backsF] at hq; exact hq
    subst hq0
    show o[l.length - 1]? = (x.sides L s)[l.length - 1]?
    rw [h, ← hx, sides_last]
end Go.Proofs.Ytmohedkhbjeapaa.Ex
