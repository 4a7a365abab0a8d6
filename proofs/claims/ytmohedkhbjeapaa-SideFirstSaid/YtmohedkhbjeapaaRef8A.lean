/-
  Plain: the sides of nodes (the document's layer 8), as a list over trees; where the trees of a forest end.
-/
import Derived.Test.YtmohedkhbjeapaaRef7D
import Derived.Test.YtmohedkhbjeapaaRef1
namespace Go.Proofs.Ytmohedkhbjeapaa.Ex
open Go.RowKit Kit Rw
open Go.Proofs.Ytmohedkhbjeapaa.Sg (Sig findI)

theorem own_new8 (w : World) (cs : List Value) (t : TypeId) : OwnC (w.alloc (.cells cs.toArray t)) w.heap.size cs :=
  ⟨by simp, fun j v hv => ⟨by have := (src_alloc w cs t (0, 0)) (by have := (List.getElem?_eq_some_iff.1 hv).1; omega); obtain ⟨ad, e, h⟩ := this; injection e with e; subst e; have := h j v hv; rwa [add_zero_head] at this, World.frozen?_alloc_at _ _ _ _ rfl⟩⟩
/-! ### where trees end -/
def sumS : List Ex → Nat
  | [] => 0
  | e :: r => e.size + sumS r
def backsF : List Ex → Nat → List Nat
  | [], _ => []
  | e :: r, p => (p - 1) :: backsF r (p - e.size)
theorem sumS_app (a b : List Ex) : sumS (a ++ b) = sumS a + sumS b := by
  induction a with
  | nil => simp [sumS]
  | cons e a ih => simp [sumS, ih]; omega
theorem sumS_rev (a : List Ex) : sumS a.reverse = sumS a := by
  induction a with
  | nil => rfl
  | cons e a ih => simp [sumS_app, sumS, ih]; omega
theorem sumS_nodes (a : List Ex) : sumS a = (nodesL a).length := by
  induction a with
  | nil => rfl
  | cons e a ih => simp [sumS, nodesL, ih, Ex.size]
theorem backsF_len (a : List Ex) (p : Nat) : (backsF a p).length = a.length := by
  induction a generalizing p with
  | nil => rfl
  | cons e a ih => simp [backsF, ih]
theorem backsF_app (a b : List Ex) (p : Nat) : backsF (a ++ b) p = backsF a p ++ backsF b (p - sumS a) := by
  induction a generalizing p with
  | nil => simp [backsF, sumS]
  | cons e a ih => simp [backsF, sumS, ih, Nat.sub_sub]
theorem backsF_snoc (a : List Ex) (e : Ex) (p : Nat) : backsF (a ++ [e]) p = backsF a p ++ [p - sumS a - 1] := by rw [backsF_app]; rfl
/-- a forest's nodes are those it has read -/
theorem run_sum {l : List Tg} {i : Nat} {sk : List Ex} (h : runS [] (l.take i) = some sk) (hi : i ≤ l.length) : sumS sk = i := by
  have := (run_nodes h).2
  rw [← sumS_rev, sumS_nodes, this, List.length_take]
  omega

/-! ### sides -/
def turnB (s v : UInt8) : UInt8 := if v = 43 then s else if v = 45 ∧ s = 76 then 82 else if v = 45 ∧ s = 82 then 76 else 66
def argsOf (L : List Sig) (n : Tg) : ByteArray := (L[(findI n.2.1 L 0).toNat]?.map (·.2)).getD ⟨#[]⟩
/-- is a constructor, or a projection, known? -/
def knownB (L : List Sig) (n : Tg) : Bool :=
  if findI n.2.1 L 0 < 0 then false else if n.1 = 3 then decide (((argsOf L n).size : Int) = n.2.2) else decide (n.2.2 ≤ ((argsOf L n).size : Int))
/-- how the part k of a node varies -/
def varyB (L : List Sig) (n : Tg) (k : Nat) : UInt8 :=
  if n.1 = 4 ∨ n.1 = 5 then 43 else if knownB L n = false then 61 else if n.1 = 6 then (argsOf L n).data.toList[(n.2.2 - 1).toNat]?.getD 0 else (argsOf L n).data.toList[k]?.getD 0
mutual
def Ex.sides (L : List Sig) (s : UInt8) : Ex → List UInt8
  | .mk n ks => sidesL L n s 0 ks ++ [s]
def sidesL (L : List Sig) (n : Tg) (s : UInt8) (k : Nat) : List Ex → List UInt8
  | [] => []
  | e :: r => e.sides L (turnB s (varyB L n k)) ++ sidesL L n s (k + 1) r
end
mutual
theorem sides_len (L : List Sig) : ∀ (s : UInt8) (e : Ex), (e.sides L s).length = e.size
  | s, .mk n ks => by simp [Ex.sides, sidesL_len L n s 0 ks, Ex.size, Ex.nodes]
theorem sidesL_len (L : List Sig) (n : Tg) (s : UInt8) : ∀ (k : Nat) (ks : List Ex), (sidesL L n s k ks).length = (nodesL ks).length
  | k, [] => rfl
  | k, e :: r => by simp [sidesL, sides_len L _ e, sidesL_len L n s (k + 1) r, nodesL, Ex.size]
end
theorem sides_last (L : List Sig) (s : UInt8) (e : Ex) : (e.sides L s)[e.size - 1]? = some s := by
  cases e with
  | mk n ks =>
    simp only [Ex.sides]
    rw [List.getElem?_append_right (by rw [sidesL_len]; simp [Ex.size, Ex.nodes]), sidesL_len]
    simp [Ex.size, Ex.nodes]
/-- the sides of a forest's nodes, of its trees' sides (the last tree first) -/
def fs (L : List Sig) : List Ex → List UInt8 → List UInt8
  | e :: r, t :: T => fs L r T ++ e.sides L t
  | _, _ => []
theorem fs_len (L : List Sig) : ∀ (st : List Ex) (S : List UInt8), S.length = st.length → (fs L st S).length = sumS st
  | [], [], _ => rfl
  | [], _ :: _, h => by simp at h
  | _ :: _, [], h => by simp at h
  | e :: r, t :: T, h => by
    simp only [fs, List.length_append, sides_len, sumS, fs_len L r T (by simpa using h)]
    omega
theorem fs_at (L : List Sig) : ∀ (st : List Ex) (S : List UInt8) (hl : S.length = st.length) (q : Nat) (h : q < st.length), (fs L st S)[(backsF st (sumS st))[q]'(by rw [backsF_len]; exact h)]? = some (S[q]'(by rw [hl]; exact h))
  | [], _, _, _, h => by simp at h
  | _ :: _, [], hl, _, _ => by simp at hl
  | e :: r, t :: T, hl, q, h => by
    have hl' : T.length = r.length := by simpa using hl
    have hp := size_pos e
    cases q with
    | zero =>
      simp only [fs, backsF, sumS, List.getElem_cons_zero]
      rw [List.getElem?_append_right (by rw [fs_len L r T hl']; omega), fs_len L r T hl', show e.size + sumS r - 1 - sumS r = e.size - 1 by omega]
      exact sides_last L t e
    | succ q =>
      have hq : q < r.length := by simpa using h
      have ih := fs_at L r T hl' q hq
      simp only [fs, backsF, sumS, List.getElem_cons_succ]
      have e2 : e.size + sumS r - e.size = sumS r := by omega
      simp only [e2]
      rw [List.getElem?_append_left (List.getElem?_eq_some_iff.1 ih).1]
      exact ih
theorem fs_app (L : List Sig) : ∀ (a : List Ex) (S : List UInt8) (r : List Ex) (T : List UInt8), S.length = a.length → fs L (a ++ r) (S ++ T) = fs L r T ++ fs L a S
  | [], [], r, T, _ => by simp [fs]
  | [], _ :: _, _, _, h => by simp at h
  | _ :: _, [], _, _, h => by simp at h
  | e :: a, t :: S, r, T, h => by simp [fs, fs_app L a S r T (by simpa using h)]
/-- a node's kids' sides -/
def kidS (L : List Sig) (n : Tg) (s : UInt8) (k m : Nat) : List UInt8 := (List.range m).map fun j => turnB s (varyB L n (k + j))
theorem kidS_len (L : List Sig) (n : Tg) (s : UInt8) (k m : Nat) : (kidS L n s k m).length = m := by simp [kidS]
theorem kidS_succ (L : List Sig) (n : Tg) (s : UInt8) (k m : Nat) : kidS L n s k (m + 1) = turnB s (varyB L n k) :: kidS L n s (k + 1) m := by
  unfold kidS
  rw [List.range_succ_eq_map, List.map_cons, List.map_map]
  congr 1
  apply List.map_congr_left
  intro j _
  simp only [Function.comp_apply]
  rw [show k + 1 + j = k + (j + 1) by omega]
theorem fs_kids (L : List Sig) (n : Tg) (s : UInt8) : ∀ (ks : List Ex) (k : Nat), fs L ks.reverse (kidS L n s k ks.length).reverse = sidesL L n s k ks
  | [], k => rfl
  | e :: r, k => by
    rw [List.reverse_cons, List.length_cons, kidS_succ, List.reverse_cons, fs_app L _ _ _ _ (by simp [kidS_len]), fs_kids L n s r (k + 1)]
    simp [fs, sidesL]
/-- all sides, as a forest's and what is behind it -/
theorem fs_step (L : List Sig) {n : Tg} {ks r : List Ex} {t : UInt8} {T : List UInt8} : fs L (.mk n ks :: r) (t :: T) = fs L (ks.reverse ++ r) ((kidS L n t 0 ks.length).reverse ++ T) ++ [t] := by
  rw [fs_app L _ _ _ _ (by simp [kidS_len]), fs_kids]
  simp [fs, Ex.sides]
theorem fs_all (L : List Sig) {l : List Tg} {x : Ex} (h : runS [] l = some [x]) (s : UInt8) : ∀ (d i : Nat), i + d = l.length → ∃ sk S, runS [] (l.take i) = some sk ∧ S.length = sk.length ∧ x.sides L s = fs L sk S ++ (x.sides L s).drop i
  | 0, i, hd => by
    have hi : i = l.length := by omega
    subst hi
    have hx : x.size = l.length := by
      have := run_sum (i := l.length) (by rw [List.take_length]; exact h) (Nat.le_refl _)
      simpa [sumS] using this
    exact ⟨[x], [s], by rw [List.take_length]; exact h, rfl, by simp [fs, List.drop_of_length_le (show (x.sides L s).length ≤ l.length by rw [sides_len, hx]; exact Nat.le_refl _)]⟩
  | d + 1, i, hd => by
    obtain ⟨sk, S, h1, h2, h3⟩ := fs_all L h s d (i + 1) (by omega)
    have hi : i < l.length := by omega
    obtain ⟨sk0, h0⟩ := run_take h i
    obtain ⟨hnp, hnx⟩ := run_next hi h0 h1
    subst hnx
    cases S with
    | nil => simp at h2
    | cons t T =>
      have hkl : (sk0.take (np l[i])).reverse.length = np l[i] := by rw [List.length_reverse, List.length_take]; omega
      rw [fs_step, List.reverse_reverse, List.take_append_drop] at h3
      refine ⟨sk0, (kidS L l[i] t 0 (sk0.take (np l[i])).reverse.length).reverse ++ T, h0, ?_, ?_⟩
      · simp only [List.length_cons, List.length_drop] at h2
        simp only [List.length_append, List.length_reverse, kidS_len, List.length_take]
        omega
      · have hlen : (fs L sk0 ((kidS L l[i] t 0 (sk0.take (np l[i])).reverse.length).reverse ++ T)).length = i := by
          rw [fs_len L _ _ (by simp only [List.length_cons, List.length_drop] at h2; simp only [List.length_append, List.length_reverse, kidS_len, List.length_take]; omega), run_sum h0 (by omega)]
        have h4 : (x.sides L s).drop i = [t] ++ (x.sides L s).drop (i + 1) := by
          conv => lhs; rw [h3]
          rw [List.append_assoc, List.drop_left' hlen]
        rw [h4, ← List.append_assoc]
        exact h3
end Go.Proofs.Ytmohedkhbjeapaa.Ex
