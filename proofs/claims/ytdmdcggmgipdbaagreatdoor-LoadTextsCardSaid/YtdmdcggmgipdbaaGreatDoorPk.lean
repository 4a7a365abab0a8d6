/-
  What the proofs lean on, part 11 of 25.
-/
import Derived.Test.YtdmdcggmgipdbaaGreatDoorPh
import Derived.Test.YtdmdcggmgipdbaaGreatDoorPj
import Derived.Maps.Own
import Derived.Maps.OwnOps
import Derived.Maps.OwnSet
import Derived.WideKeyEntry
import Derived.StringKeys
namespace Go.Proofs.YtdmdcggmgipdbaaGreatDoor.Ld
open Go.RowKit Kit Rw
open Go.Proofs.YtdmdcggmgipdbaaGreatDoor.Sg (Sig findI)
open Go.Proofs.YtdmdcggmgipdbaaGreatDoor.Hs (Dist putL placeI newB atI atI_cases atI_some)
open Go.Proofs.YtdmdcggmgipdbaaGreatDoor.Tm (Tm Store mayB put3L put3I put3E fullB keyOk ofKey ofKey_key key_len standB isPl isPl_iff allPl hasB)
open Go.Proofs.YtdmdcggmgipdbaaGreatDoor.Ex (Ex mayN np runS push push_some atS atS_neg)
def Dst (own : List ByteArray) : Prop := ∀ (i j : Nat) (x : ByteArray), own[i]? = some x → own[j]? = some x → i = j
def Pre {α : Type} (a b : List α) : Prop := ∀ (i : Nat) (x : α), a[i]? = some x → b[i]? = some x
theorem Pre.refl {α : Type} (a : List α) : Pre a a := fun _ _ h => h
theorem Pre.trans {α : Type} {a b c : List α} (h : Pre a b) (k : Pre b c) : Pre a c := fun i x hx => k i x (h i x hx)
theorem Pre.app {α : Type} (a b : List α) : Pre a (a ++ b) := fun i x hx => by
  rw [List.getElem?_append_left (List.getElem?_eq_some_iff.1 hx).1]; exact hx
theorem Pre.len {α : Type} {a b : List α} (h : Pre a b) : a.length ≤ b.length := by
  rcases Nat.lt_or_ge b.length a.length with hl | hl
  · have := h b.length a[b.length] (List.getElem?_eq_getElem hl)
    have := (List.getElem?_eq_some_iff.1 this).1
    omega
  · exact hl
theorem atS_cases (s : ByteArray) : ∀ (l : List ByteArray) (k : Nat), (atS s l k = -1 ∧ s ∉ l) ∨ ∃ j : Nat, l[j]? = some s ∧ atS s l k = ((k + j : Nat) : Int)
  | [], k => .inl ⟨rfl, by simp⟩
  | a :: r, k => by
    unfold atS
    by_cases h : Sg.eqS a s = true
    · rw [if_pos h]
      exact .inr ⟨0, by rw [(Sg.eqS_iff _ _).1 h]; rfl, rfl⟩
    · rw [if_neg h]
      rcases atS_cases s r (k + 1) with ⟨h1, h2⟩ | ⟨j, h1, h2⟩
      · refine .inl ⟨h1, ?_⟩
        simp only [List.mem_cons, not_or]
        exact ⟨fun e => h ((Sg.eqS_iff _ _).2 e.symm), h2⟩
      · exact .inr ⟨j + 1, by simpa using h1, by rw [h2]; congr 1; omega⟩
theorem atS_some {s : ByteArray} {l : List ByteArray} (hd : Dst l) {j : Nat} (h : l[j]? = some s) : atS s l 0 = (j : Int) := by
  rcases atS_cases s l 0 with ⟨_, h2⟩ | ⟨i, h1, h2⟩
  · exact absurd (List.mem_of_getElem? h) h2
  · rw [h2, Nat.zero_add, hd i j s h1 h]
theorem Dst.snoc {l : List ByteArray} (hd : Dst l) {s : ByteArray} (h : s ∉ l) : Dst (l ++ [s]) := fun i j x hi hj => by
  rw [List.getElem?_append] at hi hj
  split at hi
  · split at hj
    · exact hd i j x hi hj
    · rename_i h1
      have h2 := (List.getElem?_eq_some_iff.1 hj).1
      have e : j - l.length = 0 := by simp at h2; omega
      rw [e] at hj
      obtain rfl : s = x := by simpa using hj
      exact absurd (List.mem_of_getElem? hi) h
  · rename_i h1
    have h2 := (List.getElem?_eq_some_iff.1 hi).1
    have e : i - l.length = 0 := by simp at h2; omega
    rw [e] at hi
    obtain rfl : s = x := by simpa using hi
    split at hj
    · exact absurd (List.mem_of_getElem? hj) h
    · have h4 := (List.getElem?_eq_some_iff.1 hj).1
      simp at h2 h4
      omega
theorem findI_cases9 (t : ByteArray) : ∀ (l : List Sig) (k : Nat), findI t l k = -1 ∨ ∃ (j : Nat) (h : j < l.length), findI t l k = ((k + j : Nat) : Int) ∧ l[j].1 = t
  | [], k => .inl rfl
  | a :: r, k => by
    unfold findI
    by_cases h : Sg.eqS a.1 t = true
    · rw [if_pos h]
      exact .inr ⟨0, by simp, rfl, (Sg.eqS_iff _ _).1 h⟩
    · rw [if_neg h]
      rcases findI_cases9 t r (k + 1) with h1 | ⟨j, hj, h1, h2⟩
      · exact .inl h1
      · exact .inr ⟨j + 1, by simpa using hj, by rw [h1]; congr 1; omega, by simpa using h2⟩

theorem put_store9 {l : List Sig} {ks : List (List Int)} {t : Tm} (h : Store l ks) (hM : mayB l ks.length t = true) : Store l (putL ks t.key) := by
  unfold putL
  by_cases hat : atI ks t.key < 0
  · rw [if_pos hat]
    have hno : ∀ (i : Nat) x, ks[i]? = some x → x ≠ t.key := by
      rcases atI_cases ks t.key with ⟨_, h2⟩ | ⟨i, _, h2⟩
      · exact h2
      · omega
    refine ⟨h.dist.snoc hno, by have := h.two; simp; omega, fun i key hi => ?_⟩
    rw [List.getElem?_append] at hi
    split at hi
    · exact h.ok i key hi
    · rename_i hge
      have hi0 : i = ks.length := by
        have := (List.getElem?_eq_some_iff.1 hi).1
        simp at this
        omega
      subst hi0
      obtain rfl : t.key = key := by simpa using hi
      unfold keyOk
      rw [ofKey_key, hM, decide_eq_false (by have := h.two; omega : ¬ ks.length < 2), decide_eq_true (by rw [key_len]; omega)]
      rfl
  · rw [if_neg hat]; exact h
theorem putL_pre (ks : List (List Int)) (key : List Int) : Pre ks (putL ks key) := by
  unfold putL
  split
  · exact Pre.app _ _
  · exact Pre.refl _
theorem putL_len9 (ks : List (List Int)) (key : List Int) : (putL ks key).length ≤ ks.length + 1 ∧ (putL ks key).flatten.length ≤ ks.flatten.length + key.length := by
  unfold putL
  split
  · rw [List.flatten_append, List.length_append, List.length_append]; simp
  · omega
theorem putL_mem9 {ks : List (List Int)} {key k : List Int} (h : k ∈ putL ks key) : k ∈ ks ∨ k = key := by
  unfold putL at h
  split at h
  · simpa using h
  · exact .inl h
theorem put_place9 (ks : List (List Int)) (key : List Int) : ∃ p : Nat, placeI ks key = (p : Int) ∧ (putL ks key)[p]? = some key := by
  unfold placeI putL
  rcases atI_cases ks key with ⟨h1, _⟩ | ⟨i, h1, h2⟩
  · rw [if_pos (by omega), if_pos (by omega)]
    exact ⟨ks.length, rfl, by rw [List.getElem?_append_right (Nat.le_refl _)]; simp⟩
  · rw [if_neg (by omega), if_neg (by omega)]
    exact ⟨i, h2, h1⟩

def partP (n : Tg) : Int := if n.1 = 6 then n.2.2 - 1 else 0
def SymOk (L : List Sig) (own : List ByteArray) (n : Tg) (s : Int) : Prop :=
  (n.1 = 2 → ∃ j : Nat, s = (j : Int) ∧ own[j]? = some n.2.1) ∧ ((n.1 = 3 ∨ n.1 = 6) → s = findI n.2.1 L 0 ∧ 0 ≤ s) ∧ (¬ (n.1 = 2 ∨ n.1 = 3 ∨ n.1 = 6) → s = 0)
mutual
def Rep (L : List Sig) (ks : List (List Int)) (own : List ByteArray) : Ex → Int → Prop
  | .mk n kids, id => ∃ (i : Nat) (s : Int) (xs : List Int), id = (i : Int) ∧ ks[i]? = some (n.1 :: s :: partP n :: xs) ∧ SymOk L own n s ∧ RepL L ks own kids xs
def RepL (L : List Sig) (ks : List (List Int)) (own : List ByteArray) : List Ex → List Int → Prop
  | [], xs => xs = []
  | e :: es, xs => ∃ (x : Int) (r : List Int), xs = x :: r ∧ Rep L ks own e x ∧ RepL L ks own es r
end
theorem SymOk.mono {L : List Sig} {own own' : List ByteArray} (h : Pre own own') {n : Tg} {s : Int} (k : SymOk L own n s) : SymOk L own' n s :=
  ⟨fun e => let ⟨j, h1, h2⟩ := k.1 e; ⟨j, h1, h _ _ h2⟩, k.2⟩
mutual
theorem Rep.mono {L : List Sig} {ks ks' : List (List Int)} {own own' : List ByteArray} (hk : Pre ks ks') (ho : Pre own own') : ∀ (e : Ex) (id : Int), Rep L ks own e id → Rep L ks' own' e id
  | .mk n kids, id, h => by
    simp only [Rep] at h ⊢
    obtain ⟨i, s, xs, h1, h2, h3, h4⟩ := h
    exact ⟨i, s, xs, h1, hk _ _ h2, h3.mono ho, RepL.mono hk ho kids xs h4⟩
theorem RepL.mono {L : List Sig} {ks ks' : List (List Int)} {own own' : List ByteArray} (hk : Pre ks ks') (ho : Pre own own') : ∀ (es : List Ex) (xs : List Int), RepL L ks own es xs → RepL L ks' own' es xs
  | [], xs, h => by simpa only [RepL] using h
  | e :: es, xs, h => by
    simp only [RepL] at h ⊢
    obtain ⟨x, r, h1, h2, h3⟩ := h
    exact ⟨x, r, h1, Rep.mono hk ho e x h2, RepL.mono hk ho es r h3⟩
end
section
variable {L : List Sig} {ks : List (List Int)} {own : List ByteArray}
theorem RepL.nil : RepL L ks own [] [] := rfl
theorem RepL.cons {e : Ex} {es : List Ex} {x : Int} {xs : List Int} (h : Rep L ks own e x) (k : RepL L ks own es xs) : RepL L ks own (e :: es) (x :: xs) := by
  simp only [RepL]; exact ⟨x, xs, rfl, h, k⟩
theorem RepL.inv {e : Ex} {es : List Ex} {xs : List Int} (h : RepL L ks own (e :: es) xs) : ∃ (x : Int) (r : List Int), xs = x :: r ∧ Rep L ks own e x ∧ RepL L ks own es r := by
  simpa only [RepL] using h
theorem RepL.len : ∀ {es : List Ex} {xs : List Int}, RepL L ks own es xs → xs.length = es.length
  | [], xs, h => by
    obtain rfl : xs = [] := by simpa only [RepL] using h
    rfl
  | e :: es, xs, h => by
    obtain ⟨x, r, rfl, _, h2⟩ := h.inv
    simp [h2.len]
theorem RepL.append : ∀ {es fs : List Ex} {xs ys : List Int}, RepL L ks own es xs → RepL L ks own fs ys → RepL L ks own (es ++ fs) (xs ++ ys)
  | [], fs, xs, ys, h, k => by
    obtain rfl : xs = [] := by simpa only [RepL] using h
    exact k
  | e :: es, fs, xs, ys, h, k => by
    obtain ⟨x, r, rfl, h1, h2⟩ := h.inv
    exact RepL.cons h1 (h2.append k)
theorem RepL.reverse : ∀ {es : List Ex} {xs : List Int}, RepL L ks own es xs → RepL L ks own es.reverse xs.reverse
  | [], xs, h => by
    obtain rfl : xs = [] := by simpa only [RepL] using h
    exact RepL.nil
  | e :: es, xs, h => by
    obtain ⟨x, r, rfl, h1, h2⟩ := h.inv
    rw [List.reverse_cons, List.reverse_cons]
    exact h2.reverse.append (RepL.cons h1 RepL.nil)
theorem RepL.take : ∀ (m : Nat) {es : List Ex} {xs : List Int}, RepL L ks own es xs → RepL L ks own (es.take m) (xs.take m)
  | 0, es, xs, _ => by simp only [List.take_zero]; exact RepL.nil
  | m + 1, [], xs, h => by
    obtain rfl : xs = [] := by simpa only [RepL] using h
    exact RepL.nil
  | m + 1, e :: es, xs, h => by
    obtain ⟨x, r, rfl, h1, h2⟩ := h.inv
    exact RepL.cons h1 (h2.take m)
theorem RepL.drop : ∀ (m : Nat) {es : List Ex} {xs : List Int}, RepL L ks own es xs → RepL L ks own (es.drop m) (xs.drop m)
  | 0, es, xs, h => by simpa only [List.drop_zero] using h
  | m + 1, [], xs, h => by
    obtain rfl : xs = [] := by simpa only [RepL] using h
    exact RepL.nil
  | m + 1, e :: es, xs, h => by
    obtain ⟨x, r, rfl, h1, h2⟩ := h.inv
    exact h2.drop m
end

theorem name_of {L : List Sig} {own : List ByteArray} {n m : Tg} {s : Int} (hn : mayN n = true) (hm : mayN m = true) (hk : n.1 = m.1) (h1 : SymOk L own n s) (h2 : SymOk L own m s) : n.2.1 = m.2.1 := by
  have emp : ∀ {t : Tg}, mayN t = true → ¬ (t.1 = 2 ∨ t.1 = 3 ∨ t.1 = 6) → t.2.1 = ⟨#[]⟩ := fun {t} ht hno => by
    have h0 : t.2.1.toList.isEmpty = true := by
      unfold mayN at ht
      split at ht
      · simp only [Bool.and_eq_true] at ht; exact ht.1
      · split at ht
        · next h => exact absurd (.inl h) hno
        · split at ht
          · next h => exact absurd (.inr (.inl h)) hno
          · split at ht
            · simp only [Bool.and_eq_true] at ht; exact ht.1
            · split at ht
              · next h => exact absurd (.inr (.inr h)) hno
              · cases ht
    have h1 : t.2.1.data.toList = [] := by
      rw [ByteArray.toList_eq] at h0
      simpa using h0
    have h2 : t.2.1.data = #[] := by simpa using h1
    cases hb : t.2.1 with
    | mk d => rw [hb] at h2; simp only at h2; rw [h2]
  by_cases h : n.1 = 2
  · obtain ⟨j, e1, g1⟩ := h1.1 h
    obtain ⟨j', e2, g2⟩ := h2.1 (hk ▸ h)
    have : j = j' := by omega
    subst this
    rw [g1] at g2
    injection g2
  · by_cases h' : n.1 = 3 ∨ n.1 = 6
    · obtain ⟨e1, p1⟩ := h1.2.1 h'
      obtain ⟨e2, p2⟩ := h2.2.1 (hk ▸ h')
      rcases findI_cases9 n.2.1 L 0 with c | ⟨j, hj, c, g⟩
      · omega
      · rcases findI_cases9 m.2.1 L 0 with c' | ⟨j', hj', c', g'⟩
        · omega
        · have : j = j' := by omega
          subst this
          rw [← g, ← g']
    · have hno : ¬ (n.1 = 2 ∨ n.1 = 3 ∨ n.1 = 6) := fun e => e.elim h fun e => h' e
      rw [emp hn hno, emp hm (hk ▸ hno)]
theorem node_of {L : List Sig} {own : List ByteArray} {n m : Tg} {s : Int} (hn : mayN n = true) (hm : mayN m = true) (hk : n.1 = m.1) (hp : partP n = partP m) (hnp : np n = np m) (h1 : SymOk L own n s) (h2 : SymOk L own m s) : n = m := by
  have e1 := name_of hn hm hk h1 h2
  have e2 : n.2.2 = m.2.2 := by
    unfold partP at hp
    by_cases h6 : n.1 = 6
    · rw [if_pos h6, if_pos (hk ▸ h6)] at hp; omega
    · have g1 := (Ex.parts_nat hn).1
      have g2 := (Ex.parts_nat hm).1
      unfold Ex.partsN at g1 g2
      rw [if_neg h6] at g1
      rw [if_neg (hk ▸ h6)] at g2
      rw [g1, g2, hnp]
  obtain ⟨a, b, c⟩ := n
  obtain ⟨a', b', c'⟩ := m
  simp only at hk e1 e2
  rw [hk, e1, e2]
section
variable {L : List Sig} {ks : List (List Int)} {own : List ByteArray}
mutual
theorem Rep.tree : ∀ (x y : Ex) (id : Int), x.wf → y.wf → (∀ t ∈ x.nodes, mayN t = true) → (∀ t ∈ y.nodes, mayN t = true) → Rep L ks own x id → Rep L ks own y id → x = y
  | .mk n ks1, .mk m ks2, id, wx, wy, hx, hy, h1, h2 => by
    simp only [Rep] at h1 h2
    obtain ⟨i, s, xs, rfl, g1, s1, r1⟩ := h1
    obtain ⟨j, s', ys, e, g2, s2, r2⟩ := h2
    have : i = j := by omega
    subst this
    rw [g1] at g2
    simp only [Option.some.injEq, List.cons.injEq] at g2
    obtain ⟨e1, e2, e3, e4⟩ := g2
    subst e2 e4
    simp only [Ex.Ex.wf] at wx wy
    simp only [Ex.Ex.nodes, List.mem_append, List.mem_cons, List.not_mem_nil, or_false] at hx hy
    have hlen : ks1.length = ks2.length := by rw [← r1.len, ← r2.len]
    have hk := RepL.trees ks1 ks2 xs wx.2 wy.2 (fun t ht => hx t (.inl ht)) (fun t ht => hy t (.inl ht)) r1 r2
    subst hk
    have hnm : n = m := node_of (hx n (.inr rfl)) (hy m (.inr rfl)) e1 e3 (by rw [← wx.1, ← wy.1]) s1 s2
    rw [hnm]
theorem RepL.trees : ∀ (es fs : List Ex) (xs : List Int), Ex.wfL es → Ex.wfL fs → (∀ t ∈ Ex.nodesL es, mayN t = true) → (∀ t ∈ Ex.nodesL fs, mayN t = true) → RepL L ks own es xs → RepL L ks own fs xs → es = fs
  | [], fs, xs, _, _, _, _, h1, h2 => by
    have := h1.len
    have h3 := h2.len
    cases fs with
    | nil => rfl
    | cons f fs => rw [this] at h3; simp at h3
  | e :: es, fs, xs, w1, w2, m1, m2, h1, h2 => by
    obtain ⟨x, r, rfl, g1, g2⟩ := h1.inv
    cases fs with
    | nil => have := h2.len; simp at this
    | cons f fs =>
      obtain ⟨x', r', e', k1, k2⟩ := h2.inv
      injection e' with e1 e2
      subst e1 e2
      simp only [Ex.wfL] at w1 w2
      simp only [Ex.nodesL, List.mem_append] at m1 m2
      rw [Rep.tree e f x w1.1 w2.1 (fun t ht => m1 t (.inl ht)) (fun t ht => m2 t (.inl ht)) g1 k1, RepL.trees es fs r w1.2 w2.2 (fun t ht => m1 t (.inr ht)) (fun t ht => m2 t (.inr ht)) g2 k2]
end
mutual
theorem Rep.place (hd : Dist ks) (ho : Dst own) : ∀ (x : Ex) (a b : Int), Rep L ks own x a → Rep L ks own x b → a = b
  | .mk n kids, a, b, h1, h2 => by
    simp only [Rep] at h1 h2
    obtain ⟨i, s, xs, rfl, g1, s1, r1⟩ := h1
    obtain ⟨j, s', ys, rfl, g2, s2, r2⟩ := h2
    have hxy := RepL.places hd ho kids xs ys r1 r2
    have hs : s = s' := by
      by_cases h : n.1 = 2
      · obtain ⟨p, e1, k1⟩ := s1.1 h
        obtain ⟨q, e2, k2⟩ := s2.1 h
        rw [e1, e2, ho p q _ k1 k2]
      · by_cases h' : n.1 = 3 ∨ n.1 = 6
        · rw [(s1.2.1 h').1, (s2.2.1 h').1]
        · have hno : ¬ (n.1 = 2 ∨ n.1 = 3 ∨ n.1 = 6) := fun e => e.elim h fun e => h' e
          rw [s1.2.2 hno, s2.2.2 hno]
    subst hs hxy
    rw [hd i j _ g1 g2]
theorem RepL.places (hd : Dist ks) (ho : Dst own) : ∀ (es : List Ex) (xs ys : List Int), RepL L ks own es xs → RepL L ks own es ys → xs = ys
  | [], xs, ys, h1, h2 => by
    have e1 : xs = [] := by simpa only [RepL] using h1
    have e2 : ys = [] := by simpa only [RepL] using h2
    rw [e1, e2]
  | e :: es, xs, ys, h1, h2 => by
    obtain ⟨x, r, rfl, g1, g2⟩ := h1.inv
    obtain ⟨x', r', rfl, k1, k2⟩ := h2.inv
    rw [Rep.place hd ho e x x' g1 k1, RepL.places hd ho es r r' g2 k2]
end
end
end Go.Proofs.YtdmdcggmgipdbaaGreatDoor.Ld

namespace Go.Proofs.YtdmdcggmgipdbaaGreatDoor.Ld
open Go.RowKit Kit Rw
open Go.Proofs.YtdmdcggmgipdbaaGreatDoor.Sg (Sig findI)
open Go.Proofs.YtdmdcggmgipdbaaGreatDoor.Nm (nameB)
open Go.Proofs.YtdmdcggmgipdbaaGreatDoor.Hs (Dist putL placeI newB atI atI_cases atI_some)
open Go.Proofs.YtdmdcggmgipdbaaGreatDoor.Tm (Tm Store mayB put3L put3I put3E fullB keyOk ofKey ofKey_key key_len standB isPl isPl_iff allPl hasB)
open Go.Proofs.YtdmdcggmgipdbaaGreatDoor.Ex (Ex mayN np runS push push_some atS atS_neg)
def ownN (own : List ByteArray) (n : Tg) : List ByteArray := if n.1 = 2 ∧ atS n.2.1 own 0 < 0 then own ++ [n.2.1] else own
def symN (L : List Sig) (own : List ByteArray) (n : Tg) : Int := if n.1 = 2 then (if atS n.2.1 own 0 < 0 then (own.length : Int) else atS n.2.1 own 0) else if n.1 = 3 ∨ n.1 = 6 then findI n.2.1 L 0 else 0
def tmN (L : List Sig) (own : List ByteArray) (n : Tg) (xs : List Int) : Tm := ⟨n.1, symN L own n, partP n, xs⟩
structure LS where
  ks : List (List Int)
  own : List ByteArray
  st : List Int
def tmS (L : List Sig) (s : LS) (n : Tg) : Tm := tmN L s.own n (s.st.take (np n)).reverse
def stepS (L : List Sig) (limit : Int) (s : LS) (n : Tg) : LS := ⟨put3L L s.ks (tmS L s n) limit, ownN s.own n, put3I L s.ks (tmS L s n) limit :: s.st.drop (np n)⟩
def loadF (L : List Sig) (limit : Int) : List Tg → LS → Int × LS
  | [], s => (0, s)
  | n :: r, s => if put3E L s.ks (tmS L s n) limit = 0 then loadF L limit r (stepS L limit s n) else (put3E L s.ks (tmS L s n) limit, s)
/-- the answer of Load -/
def loadE (L : List Sig) (limit : Int) (ks : List (List Int)) (names : List ByteArray) (l : List Tg) : Int := (loadF L limit l ⟨ks, names, []⟩).1
def loadK (L : List Sig) (limit : Int) (ks : List (List Int)) (names : List ByteArray) (l : List Tg) : List (List Int) := if loadE L limit ks names l = 0 then (loadF L limit l ⟨ks, names, []⟩).2.ks else ks
def loadN (L : List Sig) (limit : Int) (ks : List (List Int)) (names : List ByteArray) (l : List Tg) : List ByteArray := if loadE L limit ks names l = 0 then (loadF L limit l ⟨ks, names, []⟩).2.own else names
def loadI (L : List Sig) (limit : Int) (ks : List (List Int)) (names : List ByteArray) (l : List Tg) : Int := if loadE L limit ks names l = 0 then (loadF L limit l ⟨ks, names, []⟩).2.st.headD 0 else 0
def NamesV (own : List ByteArray) : Prop := ∀ a ∈ own, nameB 65 90 a.data.toList = true

theorem ownN_pre (own : List ByteArray) (n : Tg) : Pre own (ownN own n) := by
  unfold ownN
  split
  · exact Pre.app _ _
  · exact Pre.refl _
theorem ownN_dst {own : List ByteArray} (h : Dst own) (n : Tg) : Dst (ownN own n) := by
  unfold ownN
  split
  · next hc => exact h.snoc ((atS_neg _ _ _).1 hc.2)
  · exact h
theorem may_var {n : Tg} (hm : mayN n = true) (h : n.1 = 2) : nameB 65 90 n.2.1.data.toList = true := by
  unfold mayN at hm
  rw [if_neg (by omega), if_pos h, Bool.and_eq_true] at hm
  exact hm.1
theorem ownN_nms {own : List ByteArray} (h : NamesV own) {n : Tg} (hm : mayN n = true) : NamesV (ownN own n) := by
  unfold ownN
  split
  · next hc =>
    intro a ha
    simp only [List.mem_append, List.mem_cons, List.not_mem_nil, or_false] at ha
    rcases ha with ha | rfl
    · exact h a ha
    · exact may_var hm hc.1
  · exact h
theorem ownN_len (own : List ByteArray) (n : Tg) : (ownN own n).length ≤ own.length + 1 := by
  unfold ownN
  split <;> simp
/-- a variable's number, and where its name is then -/
theorem symN_var (L : List Sig) (own : List ByteArray) {n : Tg} (h : n.1 = 2) : ∃ j : Nat, symN L own n = (j : Int) ∧ (ownN own n)[j]? = some n.2.1 := by
  unfold symN ownN
  rw [if_pos h]
  rcases atS_cases n.2.1 own 0 with ⟨h1, _⟩ | ⟨j, h1, h2⟩
  · rw [if_pos (by omega), if_pos ⟨h, by omega⟩]
    exact ⟨own.length, rfl, by rw [List.getElem?_append_right (Nat.le_refl _)]; simp⟩
  · rw [if_neg (by omega), if_neg (by omega)]
    exact ⟨j, by rw [h2, Nat.zero_add], h1⟩
theorem put_ok {L : List Sig} {ks : List (List Int)} {t : Tm} {limit : Int} (h : put3E L ks t limit = 0) : mayB L ks.length t = true ∧ put3L L ks t limit = putL ks t.key ∧ put3I L ks t limit = placeI ks t.key := by
  unfold put3E at h
  unfold put3L put3I
  cases hm : mayB L ks.length t
  · rw [hm] at h; simp at h
  · rw [hm, if_pos rfl] at h
    cases hf : fullB ks t limit
    · exact ⟨rfl, rfl, rfl⟩
    · rw [hf] at h; simp at h
theorem stand_s {L : List Sig} {t : Tm} (h : standB L t = true) (e : t.k = 3 ∨ t.k = 6) : 0 ≤ t.s := by
  unfold standB at h
  rcases e with e | e
  · rw [if_neg (by omega), if_pos e, Bool.and_eq_true] at h
    exact ((isPl_iff _ _).1 h.1).1
  · rw [if_neg (by omega), if_neg (by omega), if_pos e, Bool.and_eq_true] at h
    exact ((isPl_iff _ _).1 h.1).1
theorem sym_ok {L : List Sig} {own : List ByteArray} {n : Tg} {m : Nat} {xs : List Int} (h : mayB L m (tmN L own n xs) = true) : SymOk L (ownN own n) n (symN L own n) := by
  refine ⟨fun e => symN_var L own e, fun e => ?_, fun e => ?_⟩
  · have hs : symN L own n = findI n.2.1 L 0 := by unfold symN; rw [if_neg (by omega), if_pos e]
    refine ⟨hs, ?_⟩
    unfold mayB at h
    simp only [Bool.and_eq_true] at h
    exact stand_s h.1.1 e
  · unfold symN; rw [if_neg (fun x => e (.inl x)), if_neg (fun x => e (.inr x))]
structure Ok (L : List Sig) (s s' : LS) (sk' : List Ex) (m : Nat) : Prop where
  store : Store L s'.ks
  dst : Dst s'.own
  nms : NamesV s'.own
  rep : RepL L s'.ks s'.own sk' s'.st
  pk : Pre s.ks s'.ks
  po : Pre s.own s'.own
  len : s'.ks.length ≤ s.ks.length + m
  flat : s'.ks.flatten.length ≤ s.ks.flatten.length + 11 * m
  klen : ∀ k ∈ s'.ks, k ∈ s.ks ∨ k.length ≤ 11
  olen : s'.own.length ≤ s.own.length + m
theorem Ok.refl {L : List Sig} {s : LS} {sk : List Ex} (h1 : Store L s.ks) (h2 : Dst s.own) (h3 : NamesV s.own) (h4 : RepL L s.ks s.own sk s.st) : Ok L s s sk 0 :=
  ⟨h1, h2, h3, h4, Pre.refl _, Pre.refl _, by omega, by omega, fun k hk => .inl hk, by omega⟩
theorem Ok.trans {L : List Sig} {a b c : LS} {sk sk' : List Ex} {m m' : Nat} (h : Ok L a b sk m) (k : Ok L b c sk' m') : Ok L a c sk' (m + m') :=
  ⟨k.store, k.dst, k.nms, k.rep, h.pk.trans k.pk, h.po.trans k.po, by have := h.len; have := k.len; omega, by have := h.flat; have := k.flat; omega, fun x hx => by
    rcases k.klen x hx with e | e
    · exact h.klen x e
    · exact .inr e, by have := h.olen; have := k.olen; omega⟩
theorem load_step {L : List Sig} {limit : Int} {s : LS} {n : Tg} {sk sk' : List Ex} (hS : Store L s.ks) (hd : Dst s.own) (hv : NamesV s.own) (hR : RepL L s.ks s.own sk s.st) (hm : mayN n = true) (hp : push sk n = some sk')
    (he : put3E L s.ks (tmS L s n) limit = 0) : Ok L s (stepS L limit s n) sk' 1 := by
  obtain ⟨hle, rfl⟩ := push_some hp
  obtain ⟨hM, hL, hI⟩ := put_ok he
  have hxl : (tmS L s n).xs.length ≤ 8 := by
    show ((s.st.take (np n)).reverse).length ≤ 8
    rw [List.length_reverse, List.length_take]
    have := (Ex.parts_nat hm).2
    omega
  have hkl := key_len (tmS L s n)
  obtain ⟨p, hp1, hp2⟩ := put_place9 s.ks (tmS L s n).key
  refine ⟨?_, ownN_dst hd n, ownN_nms hv hm, ?_, ?_, ownN_pre _ _, ?_, ?_, ?_, ownN_len _ _⟩
  · show Store L (put3L L s.ks (tmS L s n) limit)
    rw [hL]; exact put_store9 hS hM
  · show RepL L (put3L L s.ks (tmS L s n) limit) (ownN s.own n) _ (put3I L s.ks (tmS L s n) limit :: s.st.drop (np n))
    rw [hL, hI]
    have hR' := RepL.mono (putL_pre s.ks (tmS L s n).key) (ownN_pre s.own n) sk s.st hR
    refine RepL.cons ?_ (hR'.drop (np n))
    simp only [Rep]
    exact ⟨p, symN L s.own n, (s.st.take (np n)).reverse, hp1, hp2, sym_ok hM, (hR'.take (np n)).reverse⟩
  · show Pre s.ks (put3L L s.ks (tmS L s n) limit)
    rw [hL]; exact putL_pre _ _
  · show (put3L L s.ks (tmS L s n) limit).length ≤ _
    rw [hL]; exact (putL_len9 _ _).1
  · show (put3L L s.ks (tmS L s n) limit).flatten.length ≤ _
    rw [hL]
    have := (putL_len9 s.ks (tmS L s n).key).2
    omega
  · show ∀ k ∈ put3L L s.ks (tmS L s n) limit, _
    rw [hL]
    intro k hk
    rcases putL_mem9 hk with h | h
    · exact .inl h
    · right; rw [h]; omega
theorem load_run {L : List Sig} {limit : Int} : ∀ (r : List Tg) (s : LS) (sk sk' : List Ex), Store L s.ks → Dst s.own → NamesV s.own → RepL L s.ks s.own sk s.st → (∀ n ∈ r, mayN n = true) → runS sk r = some sk' →
    (loadF L limit r s).1 = 0 → Ok L s (loadF L limit r s).2 sk' r.length
  | [], s, sk, sk', h1, h2, h3, h4, _, h6, _ => by
    simp only [runS, Option.some.injEq] at h6
    subst h6
    exact Ok.refl h1 h2 h3 h4
  | n :: r, s, sk, sk', h1, h2, h3, h4, h5, h6, h7 => by
    simp only [runS] at h6
    unfold loadF at h7 ⊢
    cases hp : push sk n with
    | none => rw [hp] at h6; cases h6
    | some sn =>
      rw [hp] at h6
      by_cases he : put3E L s.ks (tmS L s n) limit = 0
      · rw [if_pos he] at h7 ⊢
        have k1 := load_step h1 h2 h3 h4 (h5 n (by simp)) hp he
        have k2 := load_run r _ sn sk' k1.store k1.dst k1.nms k1.rep (fun m hm => h5 m (by simp [hm])) h6 h7
        have := k1.trans k2
        rw [Nat.add_comm] at this
        exact this
      · rw [if_neg he] at h7; exact absurd h7 he
/-- loaded again nothing is new -/
theorem load_again {L : List Sig} {limit : Int} {b : List (List Int)} {w : List ByteArray} (hdb : Dist b) (hdw : Dst w) : ∀ (r : List Tg) (s : LS) (sk sk' : List Ex), Store L s.ks → Dst s.own → NamesV s.own → RepL L s.ks s.own sk s.st → (∀ n ∈ r, mayN n = true) → runS sk r = some sk' →
    (loadF L limit r s).1 = 0 → Pre (loadF L limit r s).2.ks b → Pre (loadF L limit r s).2.own w → loadF L 0 r ⟨b, w, s.st⟩ = (0, ⟨b, w, (loadF L limit r s).2.st⟩)
  | [], s, sk, sk', _, _, _, _, _, _, _, _, _ => rfl
  | n :: r, s, sk, sk', h1, h2, h3, h4, h5, h6, h7, hb, hw => by
    have h7' := h7
    simp only [runS] at h6
    unfold loadF at h7 hb hw ⊢
    cases hp : push sk n with
    | none => rw [hp] at h6; cases h6
    | some sn =>
      rw [hp] at h6
      by_cases he : put3E L s.ks (tmS L s n) limit = 0
      · rw [if_pos he] at h7 hb hw
        have k1 := load_step h1 h2 h3 h4 (h5 n (by simp)) hp he
        have k2 := load_run r _ sn sk' k1.store k1.dst k1.nms k1.rep (fun m hm => h5 m (by simp [hm])) h6 h7
        have ih := load_again hdb hdw r _ sn sk' k1.store k1.dst k1.nms k1.rep (fun m hm => h5 m (by simp [hm])) h6 h7 hb hw
        have hb1 : Pre (putL s.ks (tmS L s n).key) b := by
          have := k2.pk.trans hb
          rw [show (stepS L limit s n).ks = putL s.ks (tmS L s n).key from (put_ok he).2.1] at this
          exact this
        have hw1 : Pre (ownN s.own n) w := k2.po.trans hw
        obtain ⟨hM, hL, hI⟩ := put_ok he
        obtain ⟨p, hp1, hp2⟩ := put_place9 s.ks (tmS L s n).key
        have hat : atI b (tmS L s n).key = (p : Int) := atI_some hdb (hb1 _ _ hp2)
        have hvar : n.1 = 2 → ∃ j : Nat, symN L s.own n = (j : Int) ∧ atS n.2.1 w 0 = (j : Int) := fun e => by
          obtain ⟨j, e1, e2⟩ := symN_var L s.own e
          exact ⟨j, e1, atS_some hdw (hw1 _ _ e2)⟩
        have hsym : symN L w n = symN L s.own n := by
          by_cases e : n.1 = 2
          · obtain ⟨j, e1, e2⟩ := hvar e
            rw [e1]
            unfold symN
            rw [if_pos e, e2, if_neg (by omega)]
          · unfold symN; rw [if_neg e, if_neg e]
        have hown : ownN w n = w := by
          unfold ownN
          by_cases e : n.1 = 2
          · obtain ⟨j, _, e2⟩ := hvar e
            rw [if_neg (by omega)]
          · rw [if_neg (fun h => e h.1)]
        have ht : tmS L ⟨b, w, s.st⟩ n = tmS L s n := by
          show tmN L w n _ = tmN L s.own n _
          unfold tmN
          rw [hsym]
        have hlen : s.ks.length ≤ b.length := Nat.le_trans ((putL_pre s.ks (tmS L s n).key).len) hb1.len
        have hMb : mayB L b.length (tmS L s n) = true := by
          unfold mayB at hM ⊢
          rw [Bool.and_eq_true] at hM ⊢
          refine ⟨hM.1, ?_⟩
          unfold allPl at hM ⊢
          rw [List.all_eq_true] at hM ⊢
          intro x hx
          have := (isPl_iff _ _).1 (hM.2 x hx)
          exact (isPl_iff _ _).2 ⟨this.1, by omega⟩
        have hf : fullB b (tmS L s n) 0 = false := by
          unfold fullB newB
          rw [hat, decide_eq_false (by omega : ¬ ((p : Int) < 0)), Bool.and_false]
        have hE : put3E L b (tmS L s n) 0 = 0 := by unfold put3E; rw [hMb, hf]; rfl
        have hst : stepS L 0 ⟨b, w, s.st⟩ n = ⟨b, w, (stepS L limit s n).st⟩ := by
          unfold stepS
          rw [ht, hown, (put_ok hE).2.1, (put_ok hE).2.2, hI]
          have e1 : putL b (tmS L s n).key = b := by unfold putL; rw [hat, if_neg (by omega)]
          have e2 : placeI b (tmS L s n).key = placeI s.ks (tmS L s n).key := by
            rw [hp1]; unfold placeI; rw [hat, if_neg (by omega)]
          rw [e1, e2]
        rw [if_pos (by rw [ht]; exact hE), if_pos he, hst]
        exact ih
      · rw [if_neg he] at h7; exact absurd h7 he
end Go.Proofs.YtdmdcggmgipdbaaGreatDoor.Ld

namespace Go.Proofs.YtdmdcggmgipdbaaGreatDoor.Ld
open Go.RowKit Kit Rw
open Go.Proofs.YtdmdcggmgipdbaaGreatDoor.Nm (nameB var_any)
open Go.Proofs.YtdmdcggmgipdbaaGreatDoor.Ex (atS cellsS str_at at_any)
def namedF (L : List ByteArray) : List ByteArray → Nat → Bool
  | [], _ => true
  | a :: r, k => (nameB 65 90 a.data.toList && (atS a L 0 == (k : Int))) && namedF L r (k + 1)
def namedB (l : List ByteArray) : Bool := namedF l l 0
theorem namedF_at (L l : List ByteArray) (k : Nat) (h : k < l.length) : namedF L (l.drop k) k = ((nameB 65 90 l[k].data.toList && (atS l[k] L 0 == (k : Int))) && namedF L (l.drop (k + 1)) (k + 1)) := by
  rw [List.drop_eq_getElem_cons h]; rfl
theorem namedF_end (L l : List ByteArray) (k : Nat) (h : l.length ≤ k) : namedF L (l.drop k) k = true := by
  rw [List.drop_eq_nil_of_le h]; rfl
theorem namedF_get (L : List ByteArray) : ∀ (l : List ByteArray) (k : Nat), namedF L l k = true ↔ ∀ (j : Nat) (a : ByteArray), l[j]? = some a → nameB 65 90 a.data.toList = true ∧ atS a L 0 = ((k + j : Nat) : Int)
  | [], k => by simp [namedF]
  | a :: r, k => by
    unfold namedF
    rw [Bool.and_eq_true, Bool.and_eq_true, beq_iff_eq, namedF_get L r (k + 1)]
    constructor
    · rintro ⟨⟨h1, h2⟩, h3⟩ j b hb
      cases j with
      | zero => obtain rfl : a = b := by simpa using hb
                exact ⟨h1, h2⟩
      | succ j =>
        obtain ⟨g1, g2⟩ := h3 j b (by simpa using hb)
        exact ⟨g1, by rw [g2]; congr 1; omega⟩
    · intro h
      obtain ⟨h1, h2⟩ := h 0 a rfl
      refine ⟨⟨h1, h2⟩, fun j b hb => ?_⟩
      obtain ⟨g1, g2⟩ := h (j + 1) b (by simpa using hb)
      exact ⟨g1, by rw [g2]; congr 1; omega⟩
theorem named_iff (l : List ByteArray) : namedB l = true ↔ NamesV l ∧ Dst l := by
  unfold namedB
  rw [namedF_get]
  constructor
  · intro h
    refine ⟨fun a ha => ?_, fun i j x hi hj => ?_⟩
    · obtain ⟨i, hi⟩ := List.getElem?_of_mem ha
      exact (h i a hi).1
    · have h1 := (h i x hi).2
      have h2 := (h j x hj).2
      omega
  · rintro ⟨h1, h2⟩ j a hj
    exact ⟨h1 a (List.mem_of_getElem? hj), by rw [atS_some h2 hj, Nat.zero_add]⟩
set_option maxRecDepth 100000 in
set_option maxHeartbeats 1000000 in
theorem refNamed_any (A : Option Addr) (n c : Nat) (l : List ByteArray) (w : World) (hn : n = l.length) (hr : Rds w w.heap.size A (cellsS l)) (hl : l.length ≤ 1000000) :
    Calls Tryz.prog 11 #[.slice A n c] w fun e w' => e = .returned (.bool (namedB l)) ∧ Q w w' := by
  subst hn
  have HR := Lib.hid hr
  clear hr
  go_enter Tryz.func11, Tryz.ntmps11
  go_wp2_with fail
  go_loopw [3] (fun i wr => ∃ k : Nat, k ≤ l.length ∧ i = .int .i64 k ∧ Hid (namedB l = namedF l (l.drop k) k) ∧ Hid (Q w wr)) (fun i _ => l.length - (intOf i).toNat)
  case atStart => exact ⟨0, Nat.zero_le _, rfl, Lib.hid (by simp [namedB]), Q.refl _⟩
  case round =>
    obtain ⟨k, hk, rfl, HF, HQ⟩ := hrel
    by_cases hlt : k < l.length
    · obtain ⟨ad, rfl, hb, c0⟩ := str_at (HR.out.q HQ.out) hlt
      have HS := Lib.hid (HF.out.trans (namedF_at l l k hlt))
      have CA := Lib.hid (fun (W : World) (q : Q w W) => at_any (some ad) l.length c l l[k] W rfl (HR.out.q q) hl)
      generalize l[k] = s at *
      go_wp2_with fail
      refine (var_any s _).mono ?_
      rintro e w1 ⟨rfl, rfl⟩
      cases hv : nameB 65 90 s.data.toList
      · rw [hv, Bool.false_and, Bool.false_and] at HS
        go_wp2_with fail
        go_ret
        exact ⟨by rw [HS.out]; rfl, HQ.out⟩
      · rw [hv, Bool.true_and] at HS
        go_wp2_with fail
        refine (CA.out _ HQ.out).mono ?_
        rintro e w1 ⟨rfl, rfl⟩
        cases ha : (atS s l 0 == (k : Int))
        · rw [ha, Bool.false_and] at HS
          have ha' : (atS s l 0 != (k : Int)) = true := by simp [bne, ha]
          clear ha
          go_wp2_with fail
          go_ret
          exact ⟨by rw [HS.out]; rfl, HQ.out⟩
        · rw [ha, Bool.true_and] at HS
          have ha' : (atS s l 0 != (k : Int)) = false := by simp [bne, ha]
          clear ha
          go_wp2_with fail
          go_roundw
          case rel => exact ⟨k + 1, by omega, by go_num, HS, HQ⟩
          case measure => simp [intOf]; omega
    · have HS : Hid (namedB l = true) := HF.out.trans (namedF_end l l k (by omega))
      go_wp2_with fail
      go_ret
      exact ⟨by rw [HS.out]; rfl, HQ.out⟩
end Go.Proofs.YtdmdcggmgipdbaaGreatDoor.Ld

namespace Go.Proofs.YtdmdcggmgipdbaaGreatDoor.Rw
open Go.RowKit Kit Go.Maps Go.WideMaps

theorem keyedS : Keyed Tryz.prog 9 := string_keyed Tryz.underlying9
theorem zeroUnit (w : World) : (zeroValue 69).run Tryz.prog w = .ok (.agg #[]) w := by kernel_rfl
theorem zeroInt (w : World) : (zeroValue 3).run Tryz.prog w = .ok (.int .i64 0) w := by kernel_rfl
theorem lit_str {a b : ByteArray} (h : (Lit.string a.data.toList) = .string b.data.toList) : a = b := by
  injection h with h
  exact ByteArray.ext (Array.toList_inj.mp h)
def inS (s : ByteArray) (o : List ByteArray) : Bool := o.any fun a => eqS a s
theorem inS_snoc (x s : ByteArray) (o : List ByteArray) : inS x (o ++ [s]) = (inS x o || eqS s x) := by simp [inS]
theorem eqS_self (s : ByteArray) : eqS s s = true := (eqS_iff s s).2 rfl
theorem eqS_ne {a b : ByteArray} (h : a ≠ b) : eqS a b = false := by
  cases he : eqS a b
  · rfl
  · exact absurd ((eqS_iff a b).1 he) h

/-- block b is the set of these names -/
def SetM (w : World) (b : Nat) (o : List ByteArray) : Prop := ∃ D : DataW Unit, w.ownsMap Tryz.prog 9 unitElem b o.length D ∧ ∀ nm : ByteArray, Maps.has D (.string nm.data.toList) = inS nm o
theorem set_made (w : World) : SetM (w.alloc (.map #[] 0)) w.heap.size [] := ⟨_, World.ownsMap_made w _ _ _, fun _ => rfl⟩
theorem SetM.kept {w w' : World} {b : Nat} {o : List ByteArray} (h : SetM w b o) (hb : w'.heap[b]? = w.heap[b]?) : SetM w' b o := by
  obtain ⟨D, ⟨es, clock, h1, h2⟩, h3⟩ := h
  exact ⟨D, ⟨es, clock, hb.trans h1, h2⟩, h3⟩
theorem SetM.lt {w : World} {b : Nat} {o : List ByteArray} (h : SetM w b o) : b < w.heap.size := by obtain ⟨D, h1, _⟩ := h; exact h1.lt
theorem SetM.q {w w' : World} {b : Nat} {o : List ByteArray} (h : SetM w b o) (q : Q w w') : SetM w' b o := h.kept (q.block b h.lt)
theorem set_look {w : World} {b : Nat} {o : List ByteArray} (h : SetM w b o) (nm : ByteArray) (hs : nm.size ≤ 1000000) :
    (Instr.lookup 68 (.map (some b)) (.string nm) true).run Tryz.prog w = .ok (.tuple #[.agg #[], .bool (inS nm o)]) w := by
  obtain ⟨D, h1, h2⟩ := h
  obtain ⟨v, ps, hrun, hv⟩ := h1.look_ok keyedS Tryz.underlying68 (zeroUnit w) unitElem_mk (keyOf_string_mk Tryz.underlying9 (by unfold maxLen; omega : nm.size ≤ maxLen))
  obtain ⟨rfl, _⟩ := unitElem_inv hv
  rw [hrun, h2]
theorem set_put {w : World} {b : Nat} {o : List ByteArray} (h : SetM w b o) (nm : ByteArray) (hs : nm.size ≤ 1000000) (ho : o.length ≤ 1000000) :
    ∃ w', (Instr.mapUpdate 68 (.map (some b)) (.string nm) (.agg #[])).run Tryz.prog w = .ok () w' ∧ SetM w' b (o ++ [nm]) ∧ w.grownBy w' (some b) := by
  obtain ⟨D, h1, h2⟩ := h
  obtain ⟨w', hrun, h3, hg⟩ := h1.update (val := .agg #[]) keyedS Tryz.underlying68 (by unfold maxLen; omega) (keyOf_string_mk Tryz.underlying9 (by unfold maxLen; omega : nm.size ≤ maxLen)) unitElem_mk
  refine ⟨w', hrun, ⟨_, by rw [List.length_append]; exact h3, fun x => ?_⟩, hg⟩
  rw [inS_snoc]
  by_cases e : x = nm
  · subst e
    rw [Maps.has_put_same h1.isMap (by trivial), eqS_self, Bool.or_true]
  · rw [Maps.has_put_other (fun h => e (lit_str h)), h2, eqS_ne (fun h => e h.symm), Bool.or_false]

/-- block b has the numbers of names -/
def NumM (w : World) (b n : Nat) (f : ByteArray → Option Int) : Prop :=
  ∃ D : DataW Unit, w.ownsMap Tryz.prog 9 (plainElem Tryz.prog 3) b n D ∧ ∀ nm : ByteArray, Maps.has D (.string nm.data.toList) = (f nm).isSome ∧ D.atKey (.string nm.data.toList) (.lit (.int .i64 0)) = .lit (.int .i64 ((f nm).getD 0))
theorem num_made (w : World) : NumM (w.alloc (.map #[] 0)) w.heap.size 0 fun _ => none := ⟨_, World.ownsMap_made w _ _ _, fun _ => ⟨rfl, rfl⟩⟩
theorem NumM.kept {w w' : World} {b n : Nat} {f : ByteArray → Option Int} (h : NumM w b n f) (hb : w'.heap[b]? = w.heap[b]?) : NumM w' b n f := by
  obtain ⟨D, ⟨es, clock, h1, h2⟩, h3⟩ := h
  exact ⟨D, ⟨es, clock, hb.trans h1, h2⟩, h3⟩
theorem NumM.lt {w : World} {b n : Nat} {f : ByteArray → Option Int} (h : NumM w b n f) : b < w.heap.size := by obtain ⟨D, h1, _⟩ := h; exact h1.lt
theorem NumM.q {w w' : World} {b n : Nat} {f : ByteArray → Option Int} (h : NumM w b n f) (q : Q w w') : NumM w' b n f := h.kept (q.block b h.lt)
theorem NumM.congr {w : World} {b n : Nat} {f g : ByteArray → Option Int} (h : NumM w b n f) (e : ∀ x, g x = f x) : NumM w b n g := by
  obtain ⟨D, h1, h2⟩ := h
  exact ⟨D, h1, fun x => by rw [e]; exact h2 x⟩
theorem num_look {w : World} {b n : Nat} {f : ByteArray → Option Int} (h : NumM w b n f) (nm : ByteArray) (hs : nm.size ≤ 1000000) :
    (Instr.lookup 86 (.map (some b)) (.string nm) true).run Tryz.prog w = .ok (.tuple #[.int .i64 ((f nm).getD 0), .bool (f nm).isSome]) w := by
  obtain ⟨D, h1, h2⟩ := h
  obtain ⟨v, ps, hrun, hv⟩ := h1.look_ok keyedS Tryz.underlying86 (zeroInt w) (plainElem_int Tryz.underlying3 (by decide)) (keyOf_string_mk Tryz.underlying9 (by unfold maxLen; omega : nm.size ≤ maxLen))
  obtain ⟨c, rfl, hc, _⟩ := plainElem_int_inv Tryz.underlying3 hv
  rw [(h2 nm).2] at hc
  simp only [Prod.mk.injEq, DataW.lit.injEq, Lit.int.injEq, true_and] at hc
  rw [hrun, (h2 nm).1, hc.1]
def setF (f : ByteArray → Option Int) (nm : ByteArray) (v : Int) : ByteArray → Option Int := fun x => if eqS x nm = true then some v else f x
theorem num_data {w' : World} {b n : Nat} {f : ByteArray → Option Int} {D : DataW Unit} {nm : ByteArray} {v : Int} (hm : Maps.IsMap D) (h2 : ∀ nm : ByteArray, Maps.has D (.string nm.data.toList) = (f nm).isSome ∧ D.atKey (.string nm.data.toList) (.lit (.int .i64 0)) = .lit (.int .i64 ((f nm).getD 0)))
    (h3 : w'.ownsMap Tryz.prog 9 (plainElem Tryz.prog 3) b (n + 1) (D.put (.string nm.data.toList) (.lit (.int .i64 v)))) : NumM w' b (n + 1) (setF f nm v) := by
  refine ⟨_, h3, fun x => ?_⟩
  unfold setF
  by_cases e : x = nm
  · subst e
    rw [Maps.has_put_same hm (by trivial), Maps.atKey_put_same hm (by trivial), if_pos (eqS_self x)]
    exact ⟨rfl, rfl⟩
  · rw [Maps.has_put_other (fun h => e (lit_str h)), Maps.atKey_put_other (fun h => e (lit_str h)), if_neg (by rw [eqS_ne e]; simp)]
    exact h2 x
theorem num_put {w : World} {b n : Nat} {f : ByteArray → Option Int} (h : NumM w b n f) (nm : ByteArray) (v : Int) (hs : nm.size ≤ 1000000) (hn : n ≤ 1000000) (hv : (Lit.int .i64 v).wf = true) :
    ∃ w', (Instr.mapUpdate 86 (.map (some b)) (.string nm) (.int .i64 v)).run Tryz.prog w = .ok () w' ∧ NumM w' b (n + 1) (setF f nm v) ∧ w.grownBy w' (some b) := by
  obtain ⟨D, h1, h2⟩ := h
  obtain ⟨w', hrun, h3, hg⟩ := h1.update (val := .int .i64 v) keyedS Tryz.underlying86 (by unfold maxLen; omega) (keyOf_string_mk Tryz.underlying9 (by unfold maxLen; omega : nm.size ≤ maxLen)) (plainElem_int Tryz.underlying3 hv)
  exact ⟨w', hrun, num_data h1.isMap h2 h3, hg⟩
/-- 'm[k], .. = ..' in two steps: the entry, then what it holds -/
theorem num_entry {w : World} {b n : Nat} {f : ByteArray → Option Int} (h : NumM w b n f) (nm : ByteArray) (hs : nm.size ≤ 1000000) (hn : n ≤ 1000000) :
    ∃ (x : Value) (st : Nat) (es : Array MapEntry) (clock : Nat), (Instr.mapEntry 86 (.map (some b)) (.string nm)).run Tryz.prog w = .ok (.tuple #[x, goInt st]) (Go.ChangeMaps.setBlock w b (.map es clock)) ∧
      ∀ (w2 : World) (v : Int), (Lit.int .i64 v).wf = true → w2.heap[b]? = some (.map es clock) → ∃ w3, (Instr.entryStore 86 (.map (some b)) (goInt st) (.int .i64 v)).run Tryz.prog w2 = .ok () w3 ∧ NumM w3 b (n + 1) (setF f nm v) ∧ w2.grownBy w3 (some b) := by
  obtain ⟨D, h1, h2⟩ := h
  have h1' := h1
  obtain ⟨es0, clock0, hb, F, hsz, hD⟩ := h1'
  have hkey := keyOf_string_mk (P := Tryz.prog) Tryz.underlying9 (by unfold maxLen; omega : nm.size ≤ maxLen)
  obtain ⟨x, st, es1, clock1, hrun, _, hst⟩ := Go.WideElems.entry_then_store (Go.WideMaps.string_law Tryz.underlying9) Tryz.underlying86 zeroInt hb F hkey
  refine ⟨x, st, es1, clock1, hrun, fun w2 v hv hw2 => ?_⟩
  obtain ⟨es2, clock2, hr2, hupd⟩ := hst w2 (.int .i64 v) hw2
  obtain ⟨w', hrun', h3, hg⟩ := h1.update (val := .int .i64 v) keyedS Tryz.underlying86 (by unfold maxLen; omega) hkey (plainElem_int Tryz.underlying3 hv)
  rw [hupd] at hrun'
  injection hrun' with _ hrun'
  subst hrun'
  have h4 := num_data h1.isMap h2 h3
  refine ⟨_, hr2, h4.kept ?_, ⟨rfl, rfl, rfl, by simp [Go.ChangeMaps.setBlock], fun i _ hi => Go.ChangeMaps.heap_setBlock_other hw2 _ (fun e => hi (by rw [e]))⟩⟩
  rw [Go.ChangeMaps.heap_setBlock_same hw2, Go.ChangeMaps.heap_setBlock_same hb]
/-- the same, the worlds as letters -/
theorem num_entry2 {w : World} {b n : Nat} {f : ByteArray → Option Int} (h : NumM w b n f) (nm : ByteArray) (hs : nm.size ≤ 1000000) (hn : n ≤ 1000000) :
    ∃ (x : Value) (st : Nat) (w4 : World), (Instr.mapEntry 86 (.map (some b)) (.string nm)).run Tryz.prog w = .ok (.tuple #[x, .int .i64 (st : Int)]) w4 ∧
      ∀ v : Int, (Lit.int .i64 v).wf = true → ∃ w5, (Instr.entryStore 86 (.map (some b)) (.int .i64 (st : Int)) (.int .i64 v)).run Tryz.prog w4 = .ok () w5 ∧ NumM w5 b (n + 1) (setF f nm v) ∧ w.grownBy w5 (some b) := by
  obtain ⟨x, st, es, clock, hrun, hst⟩ := num_entry h nm hs hn
  obtain ⟨D, ⟨es0, clock0, hb, _⟩, _⟩ := h
  refine ⟨x, st, _, hrun, fun v hv => ?_⟩
  obtain ⟨w5, h1, h2, h3⟩ := hst _ v hv (Go.ChangeMaps.heap_setBlock_same hb _)
  have hg : w.grownBy (Go.ChangeMaps.setBlock w b (.map es clock)) (some b) := ⟨rfl, rfl, rfl, by simp [Go.ChangeMaps.setBlock], fun i _ hi => Go.ChangeMaps.heap_setBlock_other hb _ (fun e => hi (by rw [e]))⟩
  exact ⟨w5, h1, h2, grown_trans hg h3⟩
end Go.Proofs.YtdmdcggmgipdbaaGreatDoor.Rw

namespace Go.Proofs.YtdmdcggmgipdbaaGreatDoor.Ex
open Go.RowKit Kit Nm Rw

theorem hasN_any (lo hi c : Int) (w : World) :
    Calls Tryz.prog 61 #[.agg #[.int .u8 lo, .int .u8 hi], .int .u8 c] w fun e w' => e = .returned (.bool (inB lo hi c)) ∧ Q w w' := by
  by_cases h1 : lo ≤ c
  · by_cases h2 : c ≤ hi
    · go_enter Tryz.func61, Tryz.ntmps61
      go_wp2
      go_ret
      exact ⟨by simp [inB, h1, h2], (Q.refl _).alloc _⟩
    · go_enter Tryz.func61, Tryz.ntmps61
      go_wp2
      go_ret
      exact ⟨by simp [inB, h1, h2], (Q.refl _).alloc _⟩
  · go_enter Tryz.func61, Tryz.ntmps61
    go_wp2
    go_ret
    exact ⟨by rw [inB, decide_eq_false (by omega : ¬ lo ≤ c)]; rfl, (Q.refl _).alloc _⟩

theorem goesN_any (c : Int) (w : World) :
    Calls Tryz.prog 85 #[.int .u8 c] w fun e w' => e = .returned (.bool (goesB c)) ∧ Q w w' := by
  cases h1 : inB 97 122 c
  · cases h2 : inB 65 90 c
    · cases h3 : inB 48 57 c
      · have HR : Hid (goesB c = (c == 95)) := by simp [goesB, h1, h2, h3, Hid]
        go_enter Tryz.func85, Tryz.ntmps85
        go_wp2_with fail
        refine (hasN_any _ _ _ _).mono ?_
        rintro e w1 ⟨rfl, q1⟩
        go_wp2_with fail
        refine (hasN_any _ _ _ _).mono ?_
        rintro e w2 ⟨rfl, q2⟩
        go_wp2_with fail
        refine (hasN_any _ _ _ _).mono ?_
        rintro e w3 ⟨rfl, q3⟩
        go_wp2_with fail
        go_ret
        exact ⟨by rw [HR.out]; rfl, (q1.trans q2).trans q3⟩
      · have HR : Hid (goesB c = true) := by simp [goesB, h3, Hid]
        go_enter Tryz.func85, Tryz.ntmps85
        go_wp2_with fail
        refine (hasN_any _ _ _ _).mono ?_
        rintro e w1 ⟨rfl, q1⟩
        go_wp2_with fail
        refine (hasN_any _ _ _ _).mono ?_
        rintro e w2 ⟨rfl, q2⟩
        go_wp2_with fail
        refine (hasN_any _ _ _ _).mono ?_
        rintro e w3 ⟨rfl, q3⟩
        go_wp2_with fail
        go_ret
        exact ⟨by rw [HR.out]; rfl, (q1.trans q2).trans q3⟩
    · have HR : Hid (goesB c = true) := by simp [goesB, h2, Hid]
      go_enter Tryz.func85, Tryz.ntmps85
      go_wp2_with fail
      refine (hasN_any _ _ _ _).mono ?_
      rintro e w1 ⟨rfl, q1⟩
      go_wp2_with fail
      refine (hasN_any _ _ _ _).mono ?_
      rintro e w2 ⟨rfl, q2⟩
      go_wp2_with fail
      go_ret
      exact ⟨by rw [HR.out]; rfl, q1.trans q2⟩
  · have HR : Hid (goesB c = true) := by simp [goesB, h1, Hid]
    go_enter Tryz.func85, Tryz.ntmps85
    go_wp2_with fail
    refine (hasN_any _ _ _ _).mono ?_
    rintro e w1 ⟨rfl, q1⟩
    go_wp2_with fail
    go_ret
    exact ⟨by rw [HR.out]; rfl, q1⟩

set_option maxHeartbeats 400000 in
theorem nameN_any (lo hi : Int) (s : ByteArray) (w : World) :
    Calls Tryz.prog 60 #[.string s, .func (Fn.func 61) #[.agg #[.int .u8 lo, .int .u8 hi]] #[]] w fun e w' => e = .returned (.bool (nameB lo hi s.data.toList)) ∧ Q w w' := by
  by_cases h0 : s.size < 1
  · have HR := Lib.hid (nameB_short lo hi s h0)
    go_enter Tryz.func60, Tryz.ntmps60
    go_wp2_with fail
    go_ret
    exact ⟨by rw [HR.out]; rfl, Q.refl _⟩
  · by_cases h20 : 20 < s.size
    · have HR := Lib.hid (nameB_long lo hi s h20)
      go_enter Tryz.func60, Tryz.ntmps60
      go_wp2_with fail
      go_ret
      exact ⟨by rw [HR.out]; rfl, Q.refl _⟩
    · have h1 : 0 < s.size := by omega
      have d1 : decide ((s.size : Int) < 1) = false := by simp; omega
      have d2 : decide (20 < (s.size : Int)) = false := by simp; omega
      have HR := Lib.hid (nameB_mid lo hi s h1 (by omega))
      cases hb : inB lo hi (s[0]'h1).toNat
      · rw [hb] at HR
        go_enter Tryz.func60, Tryz.ntmps60
        go_wp2_with fail
        refine (hasN_any _ _ _ _).mono ?_
        rintro e w1 ⟨rfl, q1⟩
        go_wp2_with fail
        go_ret
        exact ⟨by rw [HR.out]; rfl, q1⟩
      · rw [hb, Bool.true_and] at HR
        go_enter Tryz.func60, Tryz.ntmps60
        go_wp2_with fail
        refine (hasN_any _ _ _ _).mono ?_
        rintro e w1 ⟨rfl, q1⟩
        go_wp2_with fail
        go_loopw [5] (fun i wr => ∃ k : Nat, 1 ≤ k ∧ k ≤ s.size ∧ i = .int .i64 k ∧ restB (s.data.toList.take k) = true ∧ Q w wr) (fun i _ => s.size - (intOf i).toNat)
        case atStart => exact ⟨1, Nat.le_refl _, by omega, rfl, by simp [restB], q1⟩
        case round =>
          obtain ⟨k, hk1, hk, rfl, hr0, qr⟩ := hrel
          have hr := Lib.hid hr0
          clear hr0
          by_cases hlt : k < s.size
          · have HS := Lib.hid (restB_snoc (s.data.toList.take k) s[k] (by simp; omega))
            have HT := Lib.hid (take_snoc s k hlt)
            cases hg : goesB s[k].toNat
            · have HF : Hid (restB s.data.toList = false) := by
                unfold Hid
                rw [← List.take_append_drop (k + 1) s.data.toList, HT.out, restB, List.drop_append_of_le_length (by simp), List.drop_append_of_le_length (by simp; omega)]
                simp [hg]
              go_wp2_with fail
              refine (goesN_any _ _).mono ?_
              rintro e w2 ⟨rfl, q2⟩
              go_wp2_with fail
              go_ret
              exact ⟨by rw [HR.out, HF.out]; rfl, qr.trans q2⟩
            · have HF : Hid (restB (s.data.toList.take (k + 1)) = true) := by
                unfold Hid
                rw [HT.out, HS.out, hr.out, hg]; rfl
              go_wp2_with fail
              refine (goesN_any _ _).mono ?_
              rintro e w2 ⟨rfl, q2⟩
              go_wp2_with fail
              go_roundw
              case rel => exact ⟨k + 1, by omega, by omega, by go_num, HF.out, qr.trans q2⟩
              case measure => simp [intOf]; omega
          · have HF : Hid (restB s.data.toList = true) := by
              have := hr.out
              rw [List.take_of_length_le (by simp; omega)] at this
              exact this
            go_wp2_with fail
            go_ret
            exact ⟨by rw [HR.out, HF.out]; rfl, qr⟩

theorem isCon_any (s : ByteArray) (w : World) :
    Calls Tryz.prog 89 #[.string s] w fun e w' => e = .returned (.bool (nameB 97 122 s.data.toList)) ∧ Q w w' := by
  go_enter Tryz.func89, Tryz.ntmps89
  go_wp2_with fail
  refine (nameN_any _ _ _ _).mono ?_
  rintro e w1 ⟨rfl, q1⟩
  go_wp2_with fail
  go_ret
  exact ⟨rfl, q1⟩
theorem isVar_any (s : ByteArray) (w : World) :
    Calls Tryz.prog 30 #[.string s] w fun e w' => e = .returned (.bool (nameB 65 90 s.data.toList)) ∧ Q w w' := by
  go_enter Tryz.func30, Tryz.ntmps30
  go_wp2_with fail
  refine (nameN_any _ _ _ _).mono ?_
  rintro e w1 ⟨rfl, q1⟩
  go_wp2_with fail
  go_ret
  exact ⟨rfl, q1⟩

def partB (n : Int) : Bool := decide (1 ≤ n) && decide (n ≤ 8)
theorem isPart_any (n : Int) (w : World) :
    Calls Tryz.prog 88 #[.int .i64 n] w fun e w' => e = .returned (.bool (partB n)) ∧ w = w' := by
  by_cases h1 : 1 ≤ n
  · by_cases h2 : n ≤ 8
    · go_enter Tryz.func88, Tryz.ntmps88
      go_wp2
      go_ret
      exact ⟨by simp [partB, h1, h2], rfl⟩
    · go_enter Tryz.func88, Tryz.ntmps88
      go_wp2
      go_ret
      exact ⟨by simp [partB, h1, h2], rfl⟩
  · go_enter Tryz.func88, Tryz.ntmps88
    go_wp2
    go_ret
    exact ⟨by rw [partB, decide_eq_false (by omega : ¬ 1 ≤ n)]; rfl, rfl⟩

end Go.Proofs.YtdmdcggmgipdbaaGreatDoor.Ex

namespace Go.Proofs.YtdmdcggmgipdbaaGreatDoor.Ld
open Go.RowKit Kit Rw
open Go.Proofs.YtdmdcggmgipdbaaGreatDoor.Nm (nameB)
open Go.Proofs.YtdmdcggmgipdbaaGreatDoor.Ex (atS cellsS str_at)
theorem atS_take (s : ByteArray) : ∀ (l : List ByteArray) (k c : Nat), l[k]? = some s → (atS s l c == ((c + k : Nat) : Int)) = !inS s (l.take k)
  | [], _, _, h => by simp at h
  | a :: r, 0, c, h => by
    obtain rfl : a = s := by simpa using h
    unfold atS
    rw [if_pos ((Sg.eqS_iff _ _).2 rfl)]
    simp [inS]
  | a :: r, k + 1, c, h => by
    have h1 : r[k]? = some s := by simpa using h
    have ih := atS_take s r k (c + 1) h1
    unfold atS
    have e1 : inS s ((a :: r).take (k + 1)) = (eqS a s || inS s (r.take k)) := by simp [inS]
    rw [e1]
    by_cases he : Sg.eqS a s = true
    · rw [if_pos he, show eqS a s = true from he, Bool.true_or]
      simp
      omega
    · have he' : eqS a s = false := by
        cases h : eqS a s with
        | false => rfl
        | true => exact absurd h he
      rw [if_neg he, he', Bool.false_or, ← ih]
      congr 2
      omega
set_option maxRecDepth 100000 in
set_option maxHeartbeats 2000000 in
theorem named9_any (A : Option Addr) (n c : Nat) (l : List ByteArray) (w : World) (hn : n = l.length) (hr : Rds w w.heap.size A (cellsS l)) (hl : l.length ≤ 100000) (hs : ∀ a ∈ l, a.size ≤ 50) :
    Calls Tryz.prog 10 #[.slice A n c] w fun e w' => e = .returned (.bool (namedB l)) ∧ Q w w' := by
  subst hn
  have HR := Lib.hid hr
  have HS := Lib.hid hs
  have hmm := @run_makeMap Tryz.prog
  have HM0 := Lib.hid (set_made w)
  have HQ0 := Lib.hid ((Q.refl w).alloc (.map #[] 0))
  clear hr hs
  go_enter Tryz.func10, Tryz.ntmps10
  go_wp2_with fail
  obtain ⟨b, hb⟩ : ∃ b, b = w.heap.size := ⟨_, rfl⟩
  have HB := Lib.hid (Nat.le_of_eq hb.symm)
  rw [← hb] at HM0 ⊢
  clear hb hmm
  generalize w.alloc (.map #[] 0) = W0 at *
  go_loopw [11] (fun i wr => ∃ k : Nat, k ≤ l.length ∧ i = .int .i64 k ∧ Hid (namedB l = namedF l (l.drop k) k) ∧ Hid (SetM wr b (l.take k)) ∧ Hid (Q w wr)) (fun i _ => l.length - (intOf i).toNat)
  case atStart => exact ⟨0, Nat.zero_le _, rfl, Lib.hid (by simp [namedB]), HM0, HQ0⟩
  case round =>
    obtain ⟨k, hk, rfl, HF, HM, HQ⟩ := hrel
    clear HM0 HQ0
    by_cases hlt : k < l.length
    · obtain ⟨ad, rfl, hbk, c0⟩ := str_at (HR.out.q HQ.out) hlt
      have HD := Lib.hid (HF.out.trans (namedF_at l l k hlt))
      have hat : (atS l[k] l 0 == (k : Int)) = !inS l[k] (l.take k) := by
        have := atS_take l[k] l k 0 (List.getElem?_eq_getElem hlt)
        rwa [Nat.zero_add] at this
      have hsz := HS.out l[k] (List.getElem_mem hlt)
      have htk : l.take (k + 1) = l.take k ++ [l[k]] := by rw [List.take_succ_eq_append_getElem hlt]
      have htl : (l.take k).length ≤ 100000 := by rw [List.length_take]; omega
      have HTk := Lib.hid htk
      rw [hat] at HD
      have hlook := set_look HM.out l[k] (by omega)
      have hbt : b < wr.heap.size := HM.out.lt
      have HM1 := Lib.hid (HM.out.q ((Q.refl wr).alloc (Obj.cells #[] 69)))
      have HQ1 := Lib.hid (HQ.out.trans ((Q.refl wr).alloc (Obj.cells #[] 69)))
      generalize l[k] = s at *
      generalize l.take k = T at *
      clear hat htk HM
      cases hin : inS s T
      · rw [hin] at hlook HD
        have HV := Lib.hid (fun W => Ex.isVar_any s W)
        cases hv : nameB 65 90 s.data.toList
        · rw [hv] at HV HD
          have HE : Hid (namedB l = false) := Lib.hid (by rw [HD.out]; rfl)
          clear hin hv HD
          go_wp2_with (go_at_call 30; refine (HV.out _).mono ?_; rintro e w2 ⟨rfl, q2⟩; have HQ2 := Lib.hid (HQ1.out.trans q2); clear q2)
          go_ret
          exact ⟨by rw [HE.out]; rfl, HQ2.out⟩
        · rw [hv] at HV HD
          have HE : Hid (namedB l = namedF l (l.drop (k + 1)) (k + 1)) := Lib.hid (by rw [HD.out]; rfl)
          clear hin hv HD
          go_wp2_with (go_at_call 30; refine (HV.out _).mono ?_; rintro e w2 ⟨rfl, q2⟩; obtain ⟨w4, hput, hM4, hg4⟩ := set_put (HM1.out.q q2) s (by omega) (by omega); have HQ4 : Hid (Q w w4) := Below.grown (HQ1.out.trans q2) hg4 (HQ1.out.trans q2).size (fun i e => by injection e with e; subst e; exact HB.out); have HM4 := Lib.hid hM4; clear q2 hM4 hg4)
          go_roundw
          case rel => exact ⟨k + 1, by omega, by go_num, HE, by rw [HTk.out]; exact HM4, HQ4⟩
          case measure => simp [intOf]; omega
      · rw [hin] at hlook HD
        have HE : Hid (namedB l = false) := Lib.hid (by rw [HD.out]; simp)
        clear hin HD
        go_wp2_with fail
        go_ret
        exact ⟨by rw [HE.out]; rfl, HQ1.out⟩
    · have HD : Hid (namedB l = true) := HF.out.trans (namedF_end l l k (by omega))
      go_wp2_with fail
      go_ret
      exact ⟨by rw [HD.out]; rfl, HQ.out⟩
end Go.Proofs.YtdmdcggmgipdbaaGreatDoor.Ld
