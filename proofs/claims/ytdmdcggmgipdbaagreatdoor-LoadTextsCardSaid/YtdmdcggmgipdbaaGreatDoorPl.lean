/-
  What the proofs lean on, part 12 of 25.
-/
import Derived.Test.YtdmdcggmgipdbaaGreatDoorPh
import Derived.Test.YtdmdcggmgipdbaaGreatDoorPj
import Derived.Test.YtdmdcggmgipdbaaGreatDoorPk
namespace Go.Proofs.YtdmdcggmgipdbaaGreatDoor.Tm
open Go.RowKit Kit Hs

inductive Made (ks : List (List Int)) (id : Nat) : Nat → Prop
  | self : Made ks id id
  | part {y x : Nat} : Made ks id y → (x : Int) ∈ argsOf ks y → x < y → Made ks id x
theorem Made.le {ks : List (List Int)} {id x : Nat} (h : Made ks id x) : x ≤ id := by
  induction h with
  | self => exact Nat.le_refl _
  | part _ _ hlt ih => omega
theorem Made.trans {ks : List (List Int)} {id y x : Nat} (h : Made ks id y) (k : Made ks y x) : Made ks id x := by
  induction k with
  | self => exact h
  | part _ hm hlt ih => exact .part ih hm hlt
def getB (mk : List Bool) (x : Nat) : Bool := mk[x]?.getD false
theorem getB_set {mk : List Bool} {s x : Nat} (hs : s < mk.length) : getB (mk.set s true) x = true ↔ x = s ∨ getB mk x = true := by
  unfold getB
  by_cases h : s = x
  · subst h
    rw [List.getElem?_set_self hs]
    simp
  · rw [List.getElem?_set_ne h]
    constructor
    · exact .inr
    · rintro (e | e)
      · exact absurd e.symm h
      · exact e
theorem markAll_get (a : Nat) : ∀ (xs : List Int) (mk : List Bool) (x : Nat), a ≤ mk.length → (getB (markAll a xs mk) x = true ↔ getB mk x = true ∨ ((x : Int) ∈ xs ∧ x < a))
  | [], mk, x, _ => by simp [markAll]
  | y :: r, mk, x, ha => by
    rw [markAll]
    cases hp : isPl y a
    · rw [if_neg (by simp), markAll_get a r mk x ha]
      have hno := isPl_no hp
      constructor
      · rintro (h | ⟨h1, h2⟩)
        · exact .inl h
        · exact .inr ⟨List.mem_cons_of_mem _ h1, h2⟩
      · rintro (h | ⟨h1, h2⟩)
        · exact .inl h
        · rcases List.mem_cons.1 h1 with rfl | h1
          · exact absurd ⟨by omega, by omega⟩ hno
          · exact .inr ⟨h1, h2⟩
    · obtain ⟨h0, h1⟩ := (isPl_iff _ _).1 hp
      rw [if_pos rfl, markAll_get a r _ x (by rw [List.length_set]; exact ha), getB_set (by omega)]
      constructor
      · rintro ((h | h) | ⟨h2, h3⟩)
        · exact .inr ⟨by rw [h, Int.toNat_of_nonneg h0]; exact List.mem_cons_self .., by omega⟩
        · exact .inl h
        · exact .inr ⟨List.mem_cons_of_mem _ h2, h3⟩
      · rintro (h | ⟨h2, h3⟩)
        · exact .inl (.inr h)
        · rcases List.mem_cons.1 h2 with h2 | h2
          · exact .inl (.inl (by omega))
          · exact .inr ⟨h2, h3⟩
theorem markAll_far (a : Nat) (xs : List Int) (mk : List Bool) (x : Nat) (ha : a ≤ mk.length) (hx : a ≤ x) : getB (markAll a xs mk) x = getB mk x := by
  rw [Bool.eq_iff_iff, markAll_get a xs mk x ha]
  constructor
  · rintro (h | ⟨_, h⟩)
    · exact h
    · omega
  · exact .inl

def castL (l : List Nat) : List Int := l.map fun (n : Nat) => (n : Int)
def upOut (mk : List Bool) (id n : Nat) : List Int := (castL ((List.range' n (id + 1 - n)).filter (getB mk))).reverse
theorem upOut_yes {mk mk' : List Bool} {id n : Nat} (hn : n ≤ id) (h : getB mk' n = true) (hf : ∀ y, n + 1 ≤ y → getB mk' y = getB mk y) : upOut mk' id n = upOut mk id (n + 1) ++ [(n : Int)] := by
  unfold upOut
  have e : List.range' n (id + 1 - n) = n :: List.range' (n + 1) (id + 1 - (n + 1)) := by
    rw [show id + 1 - n = (id + 1 - (n + 1)) + 1 by omega, List.range'_succ]
  have ef : (List.range' (n + 1) (id + 1 - (n + 1))).filter (getB mk') = (List.range' (n + 1) (id + 1 - (n + 1))).filter (getB mk) := by
    refine List.filter_congr fun y hy => ?_
    have := List.mem_range'_1.1 hy
    exact hf y this.1
  rw [e, List.filter_cons_of_pos h, ef]
  simp [castL]
theorem upOut_no {mk : List Bool} {id n : Nat} (hn : n ≤ id) (h : getB mk n = false) : upOut mk id n = upOut mk id (n + 1) := by
  unfold upOut
  have e : List.range' n (id + 1 - n) = n :: List.range' (n + 1) (id + 1 - (n + 1)) := by
    rw [show id + 1 - n = (id + 1 - (n + 1)) + 1 by omega, List.range'_succ]
  rw [e, List.filter_cons_of_neg (by rw [h]; simp)]

structure MInv (ks : List (List Int)) (id n : Nat) (mk : List Bool) : Prop where
  len : mk.length = id + 1
  sound : ∀ x, getB mk x = true → Made ks id x
  closed : ∀ y, n ≤ y → y ≤ id → getB mk y = true → ∀ x : Nat, (x : Int) ∈ argsOf ks y → x < y → getB mk x = true
  top : getB mk id = true
def IsBelow (ks : List (List Int)) (id : Nat) (out : List Int) : Prop := ∃ f : Nat → Bool, (∀ y, f y = true ↔ Made ks id y) ∧ out = castL ((List.range (id + 1)).filter f)
theorem belF_spec {ks : List (List Int)} {id : Nat} : ∀ (n : Nat) (mk : List Bool) (out : List Int), n ≤ id + 1 → MInv ks id n mk → out = upOut mk id n → IsBelow ks id (belF ks n mk out).reverse
  | 0, mk, out, _, h, ho => by
    refine ⟨getB mk, fun y => ⟨h.sound y, fun hm => ?_⟩, ?_⟩
    · induction hm with
      | self => exact h.top
      | part hy hm hlt ih => exact h.closed _ (Nat.zero_le _) hy.le ih _ hm hlt
    · rw [belF, ho]
      unfold upOut
      rw [List.reverse_reverse, Nat.sub_zero, List.range_eq_range']
  | n + 1, mk, out, hn, h, ho => by
    have hnl : n < mk.length := by have := h.len; omega
    have hge := List.getElem?_eq_getElem hnl
    cases hb : mk[n]
    · rw [hb] at hge
      have hg : getB mk n = false := by unfold getB; rw [hge]; rfl
      rw [belF_no hge]
      refine belF_spec n mk out (by omega) ⟨h.len, h.sound, fun y hy hyi hm => ?_, h.top⟩ (by rw [ho, upOut_no (by omega) hg])
      rcases Nat.eq_or_lt_of_le hy with rfl | hlt
      · rw [hg] at hm; cases hm
      · exact h.closed y hlt hyi hm
    · rw [hb] at hge
      have hg : getB mk n = true := by unfold getB; rw [hge]; rfl
      rw [belF_yes hge]
      have hle : n ≤ mk.length := by omega
      have hfar : ∀ y, n ≤ y → getB (markAll n (argsOf ks n) mk) y = getB mk y := fun y hy => markAll_far n _ mk y hle hy
      refine belF_spec n _ _ (by omega) ⟨by rw [markAll_length]; exact h.len, fun x hx => ?_, fun y hy hyi hm x hx hxy => ?_, by rw [hfar id (by omega)]; exact h.top⟩ ?_
      · rcases (markAll_get n _ mk x hle).1 hx with h1 | ⟨h1, h2⟩
        · exact h.sound x h1
        · exact .part (h.sound n hg) h1 h2
      · rcases Nat.eq_or_lt_of_le hy with rfl | hlt
        · exact (markAll_get n _ mk x hle).2 (.inr ⟨hx, hxy⟩)
        · rw [hfar y (by omega)] at hm
          exact (markAll_get n _ mk x hle).2 (.inl (h.closed y hlt hyi hm x hx hxy))
      · rw [ho, upOut_yes (mk := mk) (by omega) (by rw [hfar n (Nat.le_refl _)]; exact hg) (fun y hy => hfar y (by omega))]
theorem below_is (ks : List (List Int)) (id : Nat) : IsBelow ks id (belowL ks id) := by
  unfold belowL
  have hg : ∀ x, getB ((List.replicate (id + 1) false).set id true) x = true ↔ x = id := fun x => by
    rw [getB_set (by simp)]
    constructor
    · rintro (h | h)
      · exact h
      · unfold getB at h
        rw [List.getElem?_replicate] at h
        split at h <;> cases h
    · exact .inl
  refine belF_spec (id + 1) _ _ (Nat.le_refl _) ⟨by simp, fun x hx => ?_, fun y h1 h2 => by omega, (hg id).2 rfl⟩ ?_
  · obtain rfl := (hg x).1 hx
    exact .self
  · unfold upOut
    rw [Nat.sub_self]
    rfl
theorem castL_mem {l : List Nat} {x : Int} : x ∈ castL l ↔ ∃ n : Nat, n ∈ l ∧ x = (n : Int) := by
  unfold castL
  rw [List.mem_map]
  constructor
  · rintro ⟨n, h, rfl⟩; exact ⟨n, h, rfl⟩
  · rintro ⟨n, h, rfl⟩; exact ⟨n, h, rfl⟩
theorem IsBelow.mem {ks : List (List Int)} {id : Nat} {out : List Int} (h : IsBelow ks id out) (x : Int) : x ∈ out ↔ ∃ n : Nat, Made ks id n ∧ x = (n : Int) := by
  obtain ⟨f, hf, rfl⟩ := h
  rw [castL_mem]
  constructor
  · rintro ⟨n, h1, h2⟩
    rw [List.mem_filter, hf] at h1
    exact ⟨n, h1.2, h2⟩
  · rintro ⟨n, h1, h2⟩
    refine ⟨n, ?_, h2⟩
    rw [List.mem_filter, hf]
    exact ⟨List.mem_range.2 (by have := h1.le; omega), h1⟩
theorem IsBelow.unique {ks : List (List Int)} {id : Nat} {a b : List Int} (h : IsBelow ks id a) (k : IsBelow ks id b) : a = b := by
  obtain ⟨f, hf, rfl⟩ := h
  obtain ⟨g, hg, rfl⟩ := k
  have : f = g := by
    funext y
    rw [Bool.eq_iff_iff, hf, hg]
  rw [this]
end Go.Proofs.YtdmdcggmgipdbaaGreatDoor.Tm

namespace Go.Proofs.YtdmdcggmgipdbaaGreatDoor.Ld
open Go.RowKit Kit Rw
open Go.Proofs.YtdmdcggmgipdbaaGreatDoor.Sg (Sig findI)
open Go.Proofs.YtdmdcggmgipdbaaGreatDoor.Nm (nameB)
open Go.Proofs.YtdmdcggmgipdbaaGreatDoor.Hs (Dist putL placeI newB atI atI_cases atI_some)
open Go.Proofs.YtdmdcggmgipdbaaGreatDoor.Tm (Tm Store mayB put3L put3I put3E fullB keyOk ofKey ofKey_key key_len standB isPl isPl_iff allPl hasB Made argsOf belowL termAt ofKey_at)
open Go.Proofs.YtdmdcggmgipdbaaGreatDoor.Ex (Ex mayN np runS push push_some atS atS_neg)
def tmP (ks : List (List Int)) (i : Nat) : Tm := ofKey (ks[i]?.getD [])
def nameP (L : List Sig) (s : Int) : ByteArray := (L[s.toNat]?.map (·.1)).getD ⟨#[]⟩
/-- a term's own node -/
def oneN (L : List Sig) (names : List ByteArray) (t : Tm) : Tg :=
  if t.k = 2 then (2, names[t.s.toNat]?.getD ⟨#[]⟩, 0) else if t.k = 3 then (3, nameP L t.s, (t.xs.length : Int)) else if t.k = 4 ∨ t.k = 5 then (t.k, ⟨#[]⟩, 2)
  else if t.k = 6 then (6, nameP L t.s, t.p + 1) else (t.k, ⟨#[]⟩, 0)
def noE : Ex := .mk (0, ⟨#[]⟩, 0) []
def exS (L : List Sig) (names : List ByteArray) (ks : List (List Int)) : Nat → List Ex
  | 0 => []
  | i + 1 => exS L names ks i ++ [.mk (oneN L names (tmP ks i)) ((tmP ks i).xs.map fun a => (exS L names ks i)[a.toNat]?.getD noE)]
def exP (L : List Sig) (names : List ByteArray) (ks : List (List Int)) (i : Nat) : Ex := (exS L names ks (i + 1))[i]?.getD noE
section
variable {L : List Sig} {names : List ByteArray} {ks : List (List Int)}
theorem exS_len : ∀ (i : Nat), (exS L names ks i).length = i
  | 0 => rfl
  | i + 1 => by simp [exS, exS_len i]
theorem exS_get {j : Nat} : ∀ {i : Nat}, j < i → (exS L names ks i)[j]? = some (exP L names ks j)
  | 0, h => absurd h (Nat.not_lt_zero _)
  | i + 1, h => by
    rcases Nat.lt_or_ge j i with hj | hj
    · have := exS_get hj
      show (exS L names ks i ++ _)[j]? = _
      rw [List.getElem?_append_left (by rw [exS_len]; exact hj)]
      exact this
    · obtain rfl : j = i := by omega
      unfold exP
      have hl : j < (exS L names ks (j + 1)).length := by rw [exS_len]; omega
      rw [List.getElem?_eq_getElem hl]; rfl
theorem exP_eq (i : Nat) : exP L names ks i = .mk (oneN L names (tmP ks i)) ((tmP ks i).xs.map fun a => (exS L names ks i)[a.toNat]?.getD noE) := by
  unfold exP
  show ((exS L names ks i ++ [_])[i]?).getD noE = _
  rw [List.getElem?_append_right (by rw [exS_len]; exact Nat.le_refl _), exS_len]
  simp
/-- the parts of a term of a store stand ahead -/
theorem parts_ahead (hS : Store L ks) {i : Nat} {key : List Int} (h : ks[i]? = some key) : 3 ≤ key.length ∧ mayB L i (ofKey key) = true ∧ ∀ x ∈ (ofKey key).xs, 0 ≤ x ∧ x < (i : Int) := by
  have h1 := hS.ok i key h
  unfold keyOk at h1
  simp only [Bool.and_eq_true, decide_eq_true_eq] at h1
  refine ⟨h1.1.1, h1.1.2, fun x hx => ?_⟩
  have h2 := h1.1.2
  unfold mayB at h2
  simp only [Bool.and_eq_true] at h2
  have h3 := h2.2
  unfold allPl at h3
  rw [List.all_eq_true] at h3
  exact (isPl_iff _ _).1 (h3 x hx)
theorem exP_kids (hS : Store L ks) {i : Nat} {key : List Int} (h : ks[i]? = some key) : exP L names ks i = .mk (oneN L names (ofKey key)) ((ofKey key).xs.map fun a => exP L names ks a.toNat) := by
  have e : tmP ks i = ofKey key := by unfold tmP; rw [h]; rfl
  rw [exP_eq, e]
  congr 1
  refine List.map_congr_left fun a ha => ?_
  obtain ⟨h1, h2⟩ := (parts_ahead hS h).2.2 a ha
  rw [exS_get (by omega)]; rfl
theorem empty_name {n : Tg} (hm : mayN n = true) (hno : ¬ (n.1 = 2 ∨ n.1 = 3 ∨ n.1 = 6)) : n.2.1 = ⟨#[]⟩ := by
  have h0 : n.2.1.toList.isEmpty = true := by
    unfold mayN at hm
    split at hm
    · simp only [Bool.and_eq_true] at hm; exact hm.1
    · split at hm
      · next h => exact absurd (.inl h) hno
      · split at hm
        · next h => exact absurd (.inr (.inl h)) hno
        · split at hm
          · simp only [Bool.and_eq_true] at hm; exact hm.1
          · split at hm
            · next h => exact absurd (.inr (.inr h)) hno
            · cases hm
  have h1 : n.2.1.data.toList = [] := by
    rw [ByteArray.toList_eq] at h0
    simpa using h0
  have h2 : n.2.1.data = #[] := by simpa using h1
  cases hb : n.2.1 with
  | mk d => rw [hb] at h2; simp only at h2; rw [h2]
theorem nameP_find {L : List Sig} {s : ByteArray} (h : 0 ≤ findI s L 0) : nameP L (findI s L 0) = s := by
  rcases findI_cases9 s L 0 with c | ⟨j, hj, c, g⟩
  · omega
  · rw [c, Nat.zero_add]
    unfold nameP
    rw [Int.toNat_natCast, List.getElem?_eq_getElem hj]
    exact g
/-- the own node of a term is the node that was loaded -/
theorem one_back {n : Tg} {s : Int} {xs : List Int} (hm : mayN n = true) (hx : xs.length = np n) (hs : SymOk L names n s) : oneN L names ⟨n.1, s, partP n, xs⟩ = n := by
  have hpn := (Ex.parts_nat hm).1
  unfold Ex.partsN at hpn
  obtain ⟨a, b, c⟩ := n
  unfold oneN
  simp only at hpn hs hm hx ⊢
  by_cases h2 : a = 2
  · obtain ⟨j, e1, e2⟩ := hs.1 h2
    have hc : c = 0 := by
      unfold mayN at hm
      simp only at hm
      rw [if_neg (by omega), if_pos h2, Bool.and_eq_true] at hm
      simpa using hm.2
    rw [if_pos h2, e1, Int.toNat_natCast]
    rw [show names[j]? = some b from e2, h2, hc]; rfl
  · rw [if_neg h2]
    by_cases h3 : a = 3
    · obtain ⟨e1, e2⟩ := hs.2.1 (.inl h3)
      rw [if_pos h3]
      rw [if_neg (by omega)] at hpn
      rw [e1, nameP_find (by rw [← e1]; exact e2), hx, ← hpn, h3]
    · rw [if_neg h3]
      have hk := Ex.may_kinds hm
      simp only at hk
      by_cases h45 : a = 4 ∨ a = 5
      · rw [if_pos h45]
        have hb := empty_name hm (by simp only; omega)
        simp only at hb
        have hc : c = 2 := by
          have := Ex.np_two hm h45
          rw [if_neg (by omega)] at hpn
          rw [hpn, this]; rfl
        rw [hb, hc]
      · rw [if_neg h45]
        by_cases h6 : a = 6
        · obtain ⟨e1, e2⟩ := hs.2.1 (.inr h6)
          rw [if_pos h6]
          unfold partP
          simp only
          rw [if_pos h6, e1, nameP_find (by rw [← e1]; exact e2), h6]
          congr 2
          omega
        · rw [if_neg h6]
          have hb := empty_name hm (by simp only; omega)
          simp only at hb
          have hc : c = 0 := by
            unfold mayN at hm
            simp only at hm
            rw [if_pos (by omega), Bool.and_eq_true] at hm
            simpa using hm.2
          rw [hb, hc]
mutual
theorem exP_back (hS : Store L ks) : ∀ (e : Ex) (id : Int), e.wf → (∀ t ∈ e.nodes, mayN t = true) → Rep L ks names e id → exP L names ks id.toNat = e
  | .mk n kids, id, hw, hm, h => by
    simp only [Rep] at h
    obtain ⟨i, s, xs, rfl, h1, h2, h3⟩ := h
    simp only [Ex.Ex.wf] at hw
    simp only [Ex.Ex.nodes, List.mem_append, List.mem_cons, List.not_mem_nil, or_false] at hm
    rw [Int.toNat_natCast, exP_kids hS h1]
    have ek : ofKey (n.1 :: s :: partP n :: xs) = ⟨n.1, s, partP n, xs⟩ := ofKey_key ⟨n.1, s, partP n, xs⟩
    rw [ek, one_back (hm n (.inr rfl)) (by rw [h3.len]; exact hw.1) h2, exP_backs hS kids xs hw.2 (fun t ht => hm t (.inl ht)) h3]
theorem exP_backs (hS : Store L ks) : ∀ (es : List Ex) (xs : List Int), Ex.wfL es → (∀ t ∈ Ex.nodesL es, mayN t = true) → RepL L ks names es xs → xs.map (fun a => exP L names ks a.toNat) = es
  | [], xs, _, _, h => by
    obtain rfl : xs = [] := by simpa only [RepL] using h
    rfl
  | e :: es, xs, hw, hm, h => by
    obtain ⟨x, r, rfl, g1, g2⟩ := h.inv
    simp only [Ex.wfL] at hw
    simp only [Ex.nodesL, List.mem_append] at hm
    rw [List.map_cons, exP_back hS e x hw.1 (fun t ht => hm t (.inl ht)) g1, exP_backs hS es r hw.2 (fun t ht => hm t (.inr ht)) g2]
end
/-- each constructor of a row once, and variables that have names -/
def DstL (L : List Sig) : Prop := ∀ (j : Nat) (h : j < L.length), findI L[j].1 L 0 = (j : Int)
def VarsIn (names : List ByteArray) (ks : List (List Int)) (id : Nat) : Prop := ∀ y, Made ks id y → (tmP ks y).k = 2 → (tmP ks y).s < (names.length : Int)
theorem argsOf_at {i : Nat} {key : List Int} (h : ks[i]? = some key) (h3 : 3 ≤ key.length) : argsOf ks i = (ofKey key).xs := by
  obtain ⟨hl, rfl⟩ := List.getElem?_eq_some_iff.1 h
  unfold argsOf
  rw [Tm.termAt_at hl h3]; rfl
theorem sym_back {i : Nat} {t : Tm} (hD : DstL L) (hM : mayB L i t = true) (hv : t.k = 2 → t.s < (names.length : Int)) : SymOk L names (oneN L names t) t.s ∧ (oneN L names t).1 = t.k ∧ partP (oneN L names t) = t.p ∧ np (oneN L names t) = t.xs.length := by
  unfold mayB at hM
  simp only [Bool.and_eq_true] at hM
  have h1 := hM.1.1
  have h2 := hM.1.2
  unfold standB at h1
  unfold hasB at h2
  unfold oneN SymOk partP np Ex.partsN
  by_cases k2 : t.k = 2
  · rw [if_pos k2] at h1 ⊢
    rw [if_neg (by omega)] at h2
    simp only [Bool.and_eq_true, decide_eq_true_eq, beq_iff_eq] at h1 h2
    have hv2 := hv k2
    refine ⟨⟨fun _ => ⟨t.s.toNat, by omega, ?_⟩, fun e => by simp at e, fun e => by simp at e⟩, k2.symm, ?_, ?_⟩
    · have : t.s.toNat < names.length := by omega
      simp only
      rw [List.getElem?_eq_getElem this]; rfl
    · simp only; rw [if_neg (by omega)]; exact h1.2.symm
    · simp only; rw [if_neg (by omega)]
      have := h2.2
      unfold Tm.partsN at this
      rw [if_neg (by omega), if_neg (by omega), if_neg (by omega)] at this
      omega
  · rw [if_neg k2] at h1 ⊢
    by_cases k3 : t.k = 3
    · rw [if_pos k3] at h1 h2 ⊢
      simp only [Bool.and_eq_true, beq_iff_eq] at h1 h2
      obtain ⟨p1, p2⟩ := (isPl_iff _ _).1 h1.1
      obtain ⟨j, hj⟩ := Int.eq_ofNat_of_zero_le p1
      have hjl : j < L.length := by omega
      refine ⟨⟨fun e => by simp at e, fun _ => ⟨?_, p1⟩, fun e => by simp at e⟩, k3.symm, ?_, ?_⟩
      · simp only
        unfold nameP
        rw [hj, Int.toNat_natCast, List.getElem?_eq_getElem hjl]
        exact (hD j hjl).symm
      · simp only; rw [if_neg (by omega)]; exact h1.2.symm
      · simp only; rw [if_neg (by omega)]; omega
    · rw [if_neg k3] at h1 h2 ⊢
      simp only [Bool.and_eq_true, beq_iff_eq] at h2
      by_cases k6 : t.k = 6
      · rw [if_pos k6] at h1
        rw [if_neg (by omega), if_pos k6]
        simp only [Bool.and_eq_true] at h1
        obtain ⟨p1, p2⟩ := (isPl_iff _ _).1 h1.1
        obtain ⟨q1, q2⟩ := (isPl_iff _ _).1 h1.2
        obtain ⟨j, hj⟩ := Int.eq_ofNat_of_zero_le p1
        have hjl : j < L.length := by omega
        refine ⟨⟨fun e => by simp at e, fun _ => ⟨?_, p1⟩, fun e => by simp at e⟩, k6.symm, ?_, ?_⟩
        · simp only
          unfold nameP
          rw [hj, Int.toNat_natCast, List.getElem?_eq_getElem hjl]
          exact (hD j hjl).symm
        · simp only [if_true]; omega
        · simp only [if_true]
          have := h2.2
          unfold Tm.partsN at this
          rw [if_neg (by omega), if_neg (by omega), if_pos k6] at this
          omega
      · rw [if_neg k6] at h1
        simp only [Bool.and_eq_true, beq_iff_eq] at h1
        by_cases k45 : t.k = 4 ∨ t.k = 5
        · rw [if_pos k45]
          refine ⟨⟨fun e => absurd e k2, fun e => absurd e (by simp only; omega), fun _ => h1.1⟩, rfl, ?_, ?_⟩
          · simp only; rw [if_neg k6]; exact h1.2.symm
          · simp only; rw [if_neg k6]
            have := h2.2
            unfold Tm.partsN at this
            rcases k45 with k | k
            · rw [if_pos k] at this; omega
            · rw [if_neg (by omega), if_pos k] at this; omega
        · rw [if_neg k45, if_neg k6]
          refine ⟨⟨fun e => absurd e k2, fun e => absurd e (by simp only; omega), fun _ => h1.1⟩, rfl, ?_, ?_⟩
          · simp only; rw [if_neg k6]; exact h1.2.symm
          · simp only; rw [if_neg k6]
            have := h2.2
            unfold Tm.partsN at this
            rw [if_neg (by omega), if_neg (by omega), if_neg k6] at this
            omega
/-- what stands at a place is that place's expression -/
theorem exP_rep (hS : Store L ks) (hD : DstL L) : ∀ (i : Nat), i < ks.length → VarsIn names ks i → Rep L ks names (exP L names ks i) (i : Int) ∧ (exP L names ks i).wf := by
  intro i
  induction i using Nat.strongRecOn with
  | ind i ih =>
    intro hi hv
    have hk := List.getElem?_eq_getElem hi
    obtain ⟨h3, hM, hp⟩ := parts_ahead hS hk
    have et : tmP ks i = ofKey ks[i] := by unfold tmP; rw [hk]; rfl
    obtain ⟨g1, g2, g3, g4⟩ := sym_back (names := names) hD hM (fun e => by have := hv i .self; rw [et] at this; exact this e)
    have ha := argsOf_at hk h3
    rw [exP_kids hS hk]
    generalize hxs : (ofKey ks[i]).xs = xs at *
    have each : ∀ a ∈ xs, Rep L ks names (exP L names ks a.toNat) a ∧ (exP L names ks a.toNat).wf := fun a hx => by
      obtain ⟨p1, p2⟩ := hp a hx
      obtain ⟨j, rfl⟩ := Int.eq_ofNat_of_zero_le p1
      have hji : j < i := by omega
      exact ih j hji (by omega) fun y hy => hv y (Made.trans (Made.part .self (by rw [ha]; exact hx) hji) hy)
    have hall : ∀ (l : List Int), (∀ a ∈ l, a ∈ xs) → RepL L ks names (l.map fun a => exP L names ks a.toNat) l ∧ Ex.wfL (l.map fun a => exP L names ks a.toNat) := by
      intro l
      induction l with
      | nil => intro _; exact ⟨RepL.nil, trivial⟩
      | cons a l ihl =>
        intro hl
        obtain ⟨r1, r2⟩ := ihl fun b hb => hl b (by simp [hb])
        obtain ⟨e1, e2⟩ := each a (hl a (by simp))
        refine ⟨RepL.cons e1 r1, ?_⟩
        show Ex.wfL (_ :: _)
        simp only [Ex.wfL]
        exact ⟨e2, r2⟩
    obtain ⟨r1, r2⟩ := hall xs fun a h => h
    refine ⟨?_, ?_⟩
    · simp only [Rep]
      refine ⟨i, (ofKey ks[i]).s, xs, rfl, ?_, g1, r1⟩
      rw [hk, g2, g3, ← hxs]
      have := Tm.ofKey_at h3
      rw [this]
      congr 1
      match hl : ks[i], h3 with
      | a :: b :: c :: r, _ => rfl
    · simp only [Ex.Ex.wf]
      exact ⟨by rw [g4, List.length_map], r2⟩
/-- two places have two expressions -/
theorem exP_inj (hS : Store L ks) (hD : DstL L) (hN : Dst names) {i j : Nat} (hi : i < ks.length) (hj : j < ks.length) (vi : VarsIn names ks i) (vj : VarsIn names ks j) (h : exP L names ks i = exP L names ks j) : i = j := by
  have h1 := (exP_rep hS hD i hi vi).1
  have h2 := (exP_rep hS hD j hj vj).1
  rw [← h] at h2
  have := Rep.place hS.dist hN _ _ _ h1 h2
  omega
end
end Go.Proofs.YtdmdcggmgipdbaaGreatDoor.Ld

namespace Go.Proofs.YtdmdcggmgipdbaaGreatDoor.Ex
open Go.RowKit Kit Rw Nm

/-- how many trees stand behind a row; none: a node may not be, or lacks parts -/
def countN : Nat → List Tg → Option Nat
  | m, [] => some m
  | m, t :: l => if mayN t = true ∧ np t ≤ m then countN (m - np t + 1) l else none
theorem count_run : ∀ (l : List Tg) (st : List Ex) (k : Nat), countN st.length l = some k → (∀ t ∈ l, mayN t = true) ∧ ∃ st', runS st l = some st' ∧ st'.length = k
  | [], st, k, h => by injection h with h; exact ⟨by simp, st, rfl, h⟩
  | t :: l, st, k, h => by
    simp only [countN] at h
    split at h
    · rename_i hc
      obtain ⟨hm, hp⟩ := hc
      have e : push st t = some (.mk t (st.take (np t)).reverse :: st.drop (np t)) := by unfold push; rw [if_pos hp]
      obtain ⟨h1, st', h2, h3⟩ := count_run l (.mk t (st.take (np t)).reverse :: st.drop (np t)) k (by simpa using h)
      refine ⟨?_, st', by simp only [runS, e]; exact h2, h3⟩
      intro x hx
      rcases List.mem_cons.1 hx with rfl | hx
      · exact hm
      · exact h1 x hx
    · cases h
theorem run_count : ∀ (l : List Tg) (st st' : List Ex), (∀ t ∈ l, mayN t = true) → runS st l = some st' → countN st.length l = some st'.length
  | [], st, st', _, h => by injection h with h; subst h; rfl
  | t :: l, st, st', hm, h => by
    simp only [runS] at h
    cases hp : push st t with
    | none => rw [hp] at h; cases h
    | some st1 =>
      rw [hp] at h
      obtain ⟨hn, rfl⟩ := push_some hp
      have := run_count l _ st' (fun x hx => hm x (List.mem_cons_of_mem _ hx)) h
      simp only [countN]
      rw [if_pos ⟨hm t (List.mem_cons_self ..), hn⟩]
      simpa using this
theorem count_at (l : List Tg) (k m : Nat) (h : k < l.length) : countN m (l.drop k) = if mayN l[k] = true ∧ np l[k] ≤ m then countN (m - np l[k] + 1) (l.drop (k + 1)) else none := by
  rw [List.drop_eq_getElem_cons h]; rfl
theorem count_end (l : List Tg) (k m : Nat) (h : l.length ≤ k) : countN m (l.drop k) = some m := by
  rw [List.drop_eq_nil_of_le h]; rfl

def stepO (o : Int) (b : UInt8) : Int := if b = 40 then o + 1 else if b = 41 then o - 1 else o
def okL (o : Int) : List UInt8 → Bool
  | [] => true
  | b :: r => if 40 < stepO o b then false else okL (stepO o b) r
def endO (o : Int) : List UInt8 → Int
  | [] => o
  | b :: r => endO (stepO o b) r
theorem okL_at (l : List UInt8) (k : Nat) (o : Int) (h : k < l.length) : okL o (l.drop k) = if 40 < stepO o l[k] then false else okL (stepO o l[k]) (l.drop (k + 1)) := by
  rw [List.drop_eq_getElem_cons h]; rfl
theorem okL_end (l : List UInt8) (k : Nat) (o : Int) (h : l.length ≤ k) : okL o (l.drop k) = true := by
  rw [List.drop_eq_nil_of_le h]; rfl
theorem okL_app (a b : List UInt8) (o : Int) : okL o (a ++ b) = (okL o a && okL (endO o a) b) := by
  induction a generalizing o with
  | nil => simp [okL, endO]
  | cons x a ih =>
    simp only [List.cons_append, okL, endO]
    split
    · rfl
    · exact ih _
theorem endO_app (a b : List UInt8) (o : Int) : endO o (a ++ b) = endO (endO o a) b := by
  induction a generalizing o with
  | nil => rfl
  | cons x a ih => exact ih _
/-- bytes that are no brackets -/
def Calm (l : List UInt8) : Prop := ∀ b ∈ l, b ≠ 40 ∧ b ≠ 41
theorem Calm.end_ {l : List UInt8} (h : Calm l) (o : Int) : endO o l = o := by
  induction l with
  | nil => rfl
  | cons b l ih =>
    obtain ⟨h1, h2⟩ := h b (List.mem_cons_self ..)
    have : stepO o b = o := by unfold stepO; rw [if_neg h1, if_neg h2]
    simp only [endO, this]
    exact ih fun x hx => h x (List.mem_cons_of_mem _ hx)
theorem Calm.ok {l : List UInt8} (h : Calm l) {o : Int} (ho : o ≤ 40) : okL o l = true := by
  induction l with
  | nil => rfl
  | cons b l ih =>
    obtain ⟨h1, h2⟩ := h b (List.mem_cons_self ..)
    have : stepO o b = o := by unfold stepO; rw [if_neg h1, if_neg h2]
    simp only [okL, this]
    rw [if_neg (by omega)]
    exact ih fun x hx => h x (List.mem_cons_of_mem _ hx)
theorem calm_name {lo hi : Int} (hlo : 65 ≤ lo) {l : List UInt8} (h : nameB lo hi l = true) : Calm l := by
  have key : ∀ b : UInt8, 42 ≤ (b.toNat : Int) → b ≠ 40 ∧ b ≠ 41 := fun b hb => by
    constructor <;> (rintro rfl; revert hb; decide)
  match l with
  | [] => cases h
  | c :: l =>
    simp only [nameB, Bool.and_eq_true, decide_eq_true_eq, inB] at h
    obtain ⟨⟨_, h1, h2⟩, h3⟩ := h
    intro b hb
    rcases List.mem_cons.1 hb with rfl | hb
    · exact key _ (by omega)
    · have : goesB b.toNat = true := by
        unfold restB at h3
        exact List.all_eq_true.1 h3 b (by simpa using hb)
      refine key _ ?_
      simp only [goesB, inB, Bool.or_eq_true, Bool.and_eq_true, decide_eq_true_eq, beq_iff_eq] at this
      omega

theorem total7_app (a b : List Tg) : total7 (a ++ b) = total7 a + total7 b := by
  induction a with
  | nil => simp [total7]
  | cons x a ih => simp only [List.cons_append, total7, ih]; omega
theorem total7_drop (l : List Tg) (k : Nat) : total7 (l.drop k) ≤ total7 l := by
  have := total7_app (l.take k) (l.drop k)
  rw [List.take_append_drop] at this
  omega
theorem total7_mem {l : List Tg} {t : Tg} (h : t ∈ l) : t.2.1.size ≤ total7 l := by
  induction l with
  | nil => cases h
  | cons x l ih =>
    simp only [total7]
    rcases List.mem_cons.1 h with rfl | h
    · omega
    · have := ih h; omega
theorem nm_len (t : Tg) : (nm t).length = t.2.1.size := by simp [nm]
theorem conL_len (b : Bool) (ks : List Ex) (h : ∀ e ∈ ks, e.text.length + 2 ≤ 3 * total7 e.nodes) : (conL b (textsP ks)).length + ks.length ≤ 3 * total7 (nodesL ks) := by
  induction ks generalizing b with
  | nil => simp [textsP, conL]
  | cons e ks ih =>
    simp only [textsP, conL, nodesL, total7_app, List.length_cons, List.length_append]
    have h1 := h e (List.mem_cons_self ..)
    have h2 := ih false fun x hx => h x (List.mem_cons_of_mem _ hx)
    omega
theorem nth_cons0 (e : Ex) (ks : List Ex) : nth (textsP (e :: ks)) 0 = (e.root.1, e.text) := rfl
theorem nth_cons1 (e f : Ex) (ks : List Ex) : nth (textsP (e :: f :: ks)) 1 = (f.root.1, f.text) := rfl
theorem txt_len (n : Tg) (ks : List Ex) (hm : mayN n = true) (hk : ks.length = np n) (h : ∀ e ∈ ks, e.text.length + 2 ≤ 3 * total7 e.nodes) :
    (txt n (textsP ks)).length + 2 ≤ 3 * (total7 (nodesL ks) + 1 + n.2.1.size) := by
  have hks := may_kinds hm
  have hn := nm_len n
  unfold txt
  by_cases h0 : n.1 = 0
  · rw [if_pos h0]; simp only [List.length_cons, List.length_nil]; omega
  rw [if_neg h0]
  by_cases h1 : n.1 = 1
  · rw [if_pos h1]; simp only [List.length_cons, List.length_nil]; omega
  rw [if_neg h1]
  by_cases h3 : n.1 = 3
  · rw [if_pos h3]
    have hc := conL_len true ks h
    rw [List.length_append, List.length_append]
    cases ks with
    | nil => simp [textsP, conL] at hc ⊢; omega
    | cons e ks =>
      rw [if_neg (by simp [textsP])]
      simp only [List.length_cons, List.length_nil] at hc ⊢
      omega
  rw [if_neg h3]
  have two : n.1 = 4 ∨ n.1 = 5 → ∃ e f, ks = [e, f] := fun hh => by
    have := np_two hm hh
    rw [this] at hk
    match ks, hk with
    | [e, f], _ => exact ⟨e, f, rfl⟩
  by_cases h4 : n.1 = 4
  · rw [if_pos h4]
    obtain ⟨e, f, rfl⟩ := two (.inl h4)
    rw [nth_cons0, nth_cons1]
    have s1 := sideL_len 4 true (e.root.1, e.text)
    have s2 := sideL_len 4 false (f.root.1, f.text)
    have t1 := h e (by simp)
    have t2 := h f (by simp)
    simp only [nodesL, total7_app, List.append_nil, List.length_append, List.length_cons] at s1 s2 ⊢
    omega
  rw [if_neg h4]
  by_cases h5 : n.1 = 5
  · rw [if_pos h5]
    obtain ⟨e, f, rfl⟩ := two (.inr h5)
    rw [nth_cons0, nth_cons1]
    have s1 := sideL_len 5 true (e.root.1, e.text)
    have s2 := sideL_len 5 false (f.root.1, f.text)
    have t1 := h e (by simp)
    have t2 := h f (by simp)
    simp only [nodesL, total7_app, List.append_nil, List.length_append, List.length_cons] at s1 s2 ⊢
    omega
  rw [if_neg h5]
  by_cases h6 : n.1 = 6
  · rw [if_pos h6]
    have hnp := (np_proj hm h6).1
    rw [hnp] at hk
    match ks, hk with
    | [e], _ =>
      rw [nth_cons0]
      have t1 := h e (by simp)
      have hpos : 1 ≤ n.2.1.size := by
        unfold mayN at hm
        rw [if_neg (by omega), if_neg (by omega), if_neg h3, if_neg (by omega), if_pos h6, Bool.and_eq_true] at hm
        have h7 := hm.1
        rw [← hn]
        cases hx : nm n with
        | nil => unfold nm at hx; rw [hx] at h7; cases h7
        | cons a b => simp
      simp only [nodesL, List.append_nil, List.length_append, List.length_cons, List.length_nil]
      omega
  · rw [if_neg h6]; omega
mutual
theorem text_len : ∀ (e : Ex), e.wf → (∀ t ∈ e.nodes, mayN t = true) → e.text.length + 2 ≤ 3 * total7 e.nodes
  | .mk n ks, hw, hm => by
    have := txt_len n ks (hm n (by simp [Ex.nodes])) hw.1 (text_lens ks hw.2 fun t ht => hm t (by simp [Ex.nodes, ht]))
    simp only [Ex.nodes, total7_app, total7, Ex.text] at this ⊢
    omega
theorem text_lens : ∀ (ks : List Ex), wfL ks → (∀ t ∈ nodesL ks, mayN t = true) → ∀ e ∈ ks, e.text.length + 2 ≤ 3 * total7 e.nodes
  | [], _, _ => fun _ h => by cases h
  | e :: ks, hw, hm => fun x hx => by
    rcases List.mem_cons.1 hx with h | hx
    · rw [h]; exact text_len e hw.1 fun t ht => hm t (by simp [nodesL, ht])
    · exact text_lens ks hw.2 (fun t ht => hm t (by simp [nodesL, ht])) x hx
end
/-- a row of one tree, or more: what Text needs -/
theorem good_gen {l : List Tg} {st : List Ex} (hl : l.length ≤ 600) (hf : total7 l ≤ 6600) (hn : ∀ t ∈ l, t.2.1.size ≤ 1000) (hp : 0 < l.length) (hm : ∀ t ∈ l, mayN t = true) (hr : runS [] l = some st) : Good7 l st := by
  refine ⟨hl, hp, hm, hr, fun j hj => ?_, hn⟩
  obtain ⟨sn, hsn⟩ := run_take hr (j + 1)
  obtain ⟨sk, hsk⟩ := run_take hr j
  obtain ⟨_, e⟩ := run_next hj hsk hsn
  rw [e] at hsn
  obtain ⟨h1, _, _, h4⟩ := run_pop hsn
  have ht : treeAt l j = some (.mk l[j] (sk.take (np l[j])).reverse) := by unfold treeAt; rw [hsn]; rfl
  rw [text_of ht]
  generalize Ex.mk l[j] (sk.take (np l[j])).reverse = c at *
  have hb : total7 c.nodes ≤ total7 l := by
    rw [← h4]
    exact Nat.le_trans (total7_drop _ _) (total7_take _ _)
  have := text_len c h1 (fun t ht => by rw [← h4] at ht; exact hm t (List.mem_of_mem_take (List.mem_of_mem_drop ht)))
  omega
theorem good_of {l : List Tg} {st : List Ex} (hf : total7 l ≤ 600) (hp : 0 < l.length) (hm : ∀ t ∈ l, mayN t = true) (hr : runS [] l = some st) : Good7 l st :=
  good_gen (Nat.le_trans (total7_ge l) hf) (by omega) (fun t ht => by have := total7_mem ht; omega) hp hm hr
end Go.Proofs.YtdmdcggmgipdbaaGreatDoor.Ex

namespace Go.Proofs.YtdmdcggmgipdbaaGreatDoor.Ex
open Go.RowKit Kit Rw Nm

/-- a row is right -/
def rightB (l : List Tg) : Bool := match countN 0 l with
  | some 1 => okL 0 (textAt l (l.length - 1))
  | _ => false
theorem right_none {l : List Tg} (h : countN 0 l ≠ some 1) : rightB l = false := by
  unfold rightB
  split
  · rename_i h1; exact absurd h1 h
  · rfl

theorem u8_40 (b : UInt8) : b = 40 ↔ (b.toNat : Int) = 40 := by
  rw [← UInt8.toNat_inj]; constructor <;> intro h
  · rw [h]; rfl
  · have : b.toNat = 40 := by omega
    rw [this]; rfl
theorem u8_41 (b : UInt8) : b = 41 ↔ (b.toNat : Int) = 41 := by
  rw [← UInt8.toNat_inj]; constructor <;> intro h
  · rw [h]; rfl
  · have : b.toNat = 41 := by omega
    rw [this]; rfl

set_option maxRecDepth 100000 in
set_option maxHeartbeats 4000000 in
theorem right7_gen (A : Option Addr) (n c : Nat) (l : List Tg) (w : World) (hn : n = l.length) (hr : Rds w w.heap.size A (cellsG l)) (hl : l.length ≤ 600) (hf : total7 l ≤ 6600) (hsz : ∀ t ∈ l, t.2.1.size ≤ 1000) :
    Calls Tryz.prog 19 #[.slice A n c] w fun e w' => e = .returned (.bool (rightB l)) ∧ Q w w' := by
  subst hn
  have HR := Lib.hid hr
  have HF := Lib.hid hf
  have HSz := Lib.hid hsz
  clear hr hf hsz
  go_enter Tryz.func19, Tryz.ntmps19
  go_wp2_with fail
  go_loopw [3, 4] (fun many i wr => ∃ (k m : Nat), k ≤ l.length ∧ m ≤ k ∧ i = .int .i64 k ∧ many = .int .i64 m ∧ Hid (countN 0 l = countN m (l.drop k)) ∧ Hid (Q w wr)) (fun _ i _ => l.length - (intOf i).toNat)
  case atStart => exact ⟨0, 0, Nat.zero_le _, Nat.le_refl _, rfl, rfl, Lib.hid (by simp), Lib.hid (Q.refl w)⟩
  case round =>
    obtain ⟨k, m, hk, hmk, rfl, rfl, HC, HQ⟩ := hrel
    by_cases hlt : k < l.length
    · obtain ⟨ad, rfl, hb, c0, c1, c2⟩ := tok_at (HR.out.q HQ.out) hlt
      have HN := Lib.hid (count_at l k m hlt)
      have HPN := Lib.hid (fun hh : mayN l[k] = true => parts_nat hh)
      have CM := Lib.hid (fun W : World => may_any l[k].1 l[k].2.1 l[k].2.2 W)
      have CP := Lib.hid (fun W : World => parts_any l[k].1 l[k].2.1 l[k].2.2 W)
      have CQ : ∀ W : World, Q wr W → W.cell? (ad.add (k * 3)) = some (.int .i64 l[k].1) ∧ W.cell? ⟨(ad.add (k * 3)).block, (ad.add (k * 3)).off + 1, none⟩ = some (.string l[k].2.1) ∧ W.cell? ⟨(ad.add (k * 3)).block, (ad.add (k * 3)).off + 2, none⟩ = some (.int .i64 l[k].2.2) := fun W q => by
        obtain ⟨ad', e, _, d0, d1, d2⟩ := tok_at (HR.out.q (HQ.out.trans q)) hlt
        injection e with e
        subst e
        exact ⟨d0, d1, d2⟩
      have HCQ := Lib.hid CQ
      clear CQ
      change Hid (∀ W : World, Calls Tryz.prog 43 #[.agg #[.int .i64 l[k].1, .string l[k].2.1, .int .i64 l[k].2.2]] W fun e w' => e = .returned (.bool (mayN l[k])) ∧ Q W w') at CM
      change Hid (∀ W : World, Calls Tryz.prog 44 #[.agg #[.int .i64 l[k].1, .string l[k].2.1, .int .i64 l[k].2.2]] W fun e w' => e = .returned (.int .i64 (partsN l[k])) ∧ Q W w') at CP
      cases hm : mayN l[k]
      · rw [hm] at CM HN
        have HE : Hid (rightB l = false) := Lib.hid (right_none (by rw [HC.out, HN.out]; simp))
        clear hm
        go_wp2_with (go_at_call 43; refine (CM.out _).mono ?_; rintro e w1 ⟨rfl, q1⟩; have HQ1 := Lib.hid (HQ.out.trans q1); clear q1)
        go_ret
        exact ⟨by rw [HE.out]; rfl, HQ1.out⟩
      · obtain ⟨hpn, hp8⟩ := HPN.out hm
        rw [hm] at CM HN
        rw [hpn] at CP
        generalize np l[k] = p at *
        clear hm hpn HPN
        by_cases hpm : p ≤ m
        · have d0 : decide ((m : Int) < (p : Int)) = false := decide_eq_false (by omega)
          have e1 : (m : Int) - (p : Int) + 1 = ((m - p + 1 : Nat) : Int) := by omega
          have HC' : Hid (countN 0 l = countN (m - p + 1) (l.drop (k + 1))) := by unfold Hid; rw [HC.out, HN.out, if_pos ⟨rfl, hpm⟩]
          clear HN HC
          go_wp2_with (first
            | (go_at_call 43; refine (CM.out _).mono ?_; rintro e w1 ⟨rfl, q1⟩; have HQ1 := Lib.hid q1; obtain ⟨y0, y1, y2⟩ := HCQ.out _ q1; clear q1)
            | (go_at_call 44; refine (CP.out _).mono ?_; rintro e w2 ⟨rfl, q2⟩; have HQ2 := Lib.hid (HQ1.out.trans q2); obtain ⟨z0, z1, z2⟩ := HCQ.out _ (HQ1.out.trans q2); clear q2)
            | (go_at_call 44; refine (CP.out _).mono ?_; rintro e w3 ⟨rfl, q3⟩; have HQ3 := Lib.hid (HQ.out.trans (HQ2.out.trans q3)); clear q3))
          go_roundw
          case rel => exact ⟨k + 1, m - p + 1, by omega, by omega, by go_num, by go_num, HC', HQ3⟩
          case measure => simp [intOf]; omega
        · have d0 : decide ((m : Int) < (p : Int)) = true := decide_eq_true (by omega)
          have HE : Hid (rightB l = false) := Lib.hid (right_none (by rw [HC.out, HN.out, if_neg (by rintro ⟨_, h⟩; exact hpm h)]; simp))
          clear HN HC
          go_wp2_with (first
            | (go_at_call 43; refine (CM.out _).mono ?_; rintro e w1 ⟨rfl, q1⟩; have HQ1 := Lib.hid q1; obtain ⟨y0, y1, y2⟩ := HCQ.out _ q1; clear q1)
            | (go_at_call 44; refine (CP.out _).mono ?_; rintro e w2 ⟨rfl, q2⟩; have HQ2 := Lib.hid (HQ1.out.trans q2); clear q2))
          go_ret
          exact ⟨by rw [HE.out]; rfl, HQ.out.trans HQ2.out⟩
    · obtain rfl : k = l.length := by omega
      have HN := Lib.hid (count_end l l.length m (Nat.le_refl _))
      by_cases h1 : m = 1
      · subst h1
        have hcn : countN 0 l = some 1 := by rw [HC.out, HN.out]
        obtain ⟨hmay, st, hrun, _⟩ := count_run l [] 1 hcn
        have hpos : 0 < l.length := by
          cases l with
          | nil => simp [countN] at hcn
          | cons a l => simp
        have hg := good_gen hl HF.out HSz.out hpos hmay hrun
        have CT := Lib.hid (fun (W : World) (q : Q w W) => text7_any A l.length c l st W rfl (HR.out.q q) hg)
        have HE : Hid (rightB l = okL 0 (textAt l (l.length - 1))) := by unfold Hid rightB; rw [hcn]; rfl
        have htl := hg.text (l.length - 1) (by omega)
        clear hcn hmay hrun hpos hg HC HN
        generalize textAt l (l.length - 1) = T at *
        obtain ⟨s, hs⟩ : ∃ s : ByteArray, s = bs T := ⟨_, rfl⟩
        have hsT : s.data.toList = T := by rw [hs, bs_list]
        rw [← hs] at CT
        have hsz : s.size ≤ 20000 := by rw [hs, bs_size]; exact htl
        subst hsT
        clear hs htl
        go_wp2_with (go_at_call 24; refine (CT.out _ HQ.out).mono ?_; rintro e w1 ⟨rfl, q1⟩; have HQ1 := Lib.hid (HQ.out.trans q1); clear q1)
        clear CT
        go_loopw [7, 8] (fun open_ i wr => ∃ (k : Nat) (o : Int), k ≤ s.size ∧ i = .int .i64 k ∧ open_ = .int .i64 o ∧ -k ≤ o ∧ o ≤ 40 ∧ Hid (okL 0 s.data.toList = okL o (s.data.toList.drop k)) ∧ wr = w1) (fun _ i _ => s.size - (intOf i).toNat)
        case atStart => exact ⟨0, 0, Nat.zero_le _, rfl, rfl, by omega, by omega, Lib.hid (by simp), rfl⟩
        case round =>
          obtain ⟨k, o, hk, rfl, rfl, ho1, ho2, HO, rfl⟩ := hrel
          by_cases hlt : k < s.size
          · have HS := Lib.hid (okL_at s.data.toList k o (by simpa using hlt))
            have HB : Hid (s.data.toList[k]'(by simpa using hlt) = s[k]) := rfl
            rw [HB.out] at HS
            by_cases hA : s[k] = 40
            · have hA' := (u8_40 s[k]).1 hA
              have hst : stepO o s[k] = o + 1 := by unfold stepO; rw [if_pos hA]
              rw [hst] at HS
              have d40 : ((s[k].toNat : Int) == 40) = true := by rw [hA']; rfl
              have d41 : ((s[k].toNat : Int) == 41) = false := by rw [hA']; rfl
              clear hst
              by_cases h40 : 40 < o + 1
              · have HS' : Hid (okL o (s.data.toList.drop k) = false) := by unfold Hid; rw [HS.out, if_pos h40]
                have d : decide (40 < o + 1) = true := decide_eq_true h40
                clear HS
                go_wp2_with fail
                go_ret
                exact ⟨by rw [HE.out, HO.out, HS'.out]; rfl, HQ1.out⟩
              · have HS' : Hid (okL o (s.data.toList.drop k) = okL (o + 1) (s.data.toList.drop (k + 1))) := by unfold Hid; rw [HS.out, if_neg h40]
                have d : decide (40 < o + 1) = false := decide_eq_false h40
                clear HS
                go_wp2_with fail
                go_roundw
                case rel => exact ⟨k + 1, o + 1, by omega, by go_num, rfl, by omega, by omega, Lib.hid (HO.out.trans HS'.out), by trivial⟩
                case measure => simp [intOf]; omega
            · by_cases hB : s[k] = 41
              · have hB' := (u8_41 s[k]).1 hB
                have hst : stepO o s[k] = o - 1 := by unfold stepO; rw [if_neg hA, if_pos hB]
                rw [hst] at HS
                have d40 : ((s[k].toNat : Int) == 40) = false := by rw [hB']; rfl
                have d41 : ((s[k].toNat : Int) == 41) = true := by rw [hB']; rfl
                clear hst
                by_cases h40 : 40 < o - 1
                · have HS' : Hid (okL o (s.data.toList.drop k) = false) := by unfold Hid; rw [HS.out, if_pos h40]
                  have d : decide (40 < o - 1) = true := decide_eq_true h40
                  clear HS
                  go_wp2_with fail
                  go_ret
                  exact ⟨by rw [HE.out, HO.out, HS'.out]; rfl, HQ1.out⟩
                · have HS' : Hid (okL o (s.data.toList.drop k) = okL (o - 1) (s.data.toList.drop (k + 1))) := by unfold Hid; rw [HS.out, if_neg h40]
                  have d : decide (40 < o - 1) = false := decide_eq_false h40
                  clear HS
                  go_wp2_with fail
                  go_roundw
                  case rel => exact ⟨k + 1, o - 1, by omega, by go_num, rfl, by omega, by omega, Lib.hid (HO.out.trans HS'.out), by trivial⟩
                  case measure => simp [intOf]; omega
              · have hA' : ((s[k].toNat : Int) = 40) → False := fun e => hA ((u8_40 s[k]).2 e)
                have hB' : ((s[k].toNat : Int) = 41) → False := fun e => hB ((u8_41 s[k]).2 e)
                have hst : stepO o s[k] = o := by unfold stepO; rw [if_neg hA, if_neg hB]
                rw [hst] at HS
                have d40 : ((s[k].toNat : Int) == 40) = false := beq_eq_false_iff_ne.2 hA'
                have d41 : ((s[k].toNat : Int) == 41) = false := beq_eq_false_iff_ne.2 hB'
                clear hst
                by_cases h40 : 40 < o
                · have HS' : Hid (okL o (s.data.toList.drop k) = false) := by unfold Hid; rw [HS.out, if_pos h40]
                  have d : decide (40 < o) = true := decide_eq_true h40
                  clear HS
                  go_wp2_with fail
                  go_ret
                  exact ⟨by rw [HE.out, HO.out, HS'.out]; rfl, HQ1.out⟩
                · have HS' : Hid (okL o (s.data.toList.drop k) = okL (o) (s.data.toList.drop (k + 1))) := by unfold Hid; rw [HS.out, if_neg h40]
                  have d : decide (40 < o) = false := decide_eq_false h40
                  clear HS
                  go_wp2_with fail
                  go_roundw
                  case rel => exact ⟨k + 1, o, by omega, by go_num, rfl, by omega, by omega, Lib.hid (HO.out.trans HS'.out), by trivial⟩
                  case measure => simp [intOf]; omega
          · have HS := Lib.hid (okL_end s.data.toList k o (by simp; omega))
            go_wp2_with fail
            go_ret
            exact ⟨by rw [HE.out, HO.out, HS.out]; rfl, HQ1.out⟩
      · have d0 : ((m : Int) != 1) = true := by simp; omega
        have HE : Hid (rightB l = false) := Lib.hid (right_none (by rw [HC.out, HN.out]; simpa using h1))
        clear h1
        go_wp2_with fail
        go_ret
        exact ⟨by rw [HE.out]; rfl, HQ.out⟩
theorem right7_any (A : Option Addr) (n c : Nat) (l : List Tg) (w : World) (hn : n = l.length) (hr : Rds w w.heap.size A (cellsG l)) (hf : total7 l ≤ 600) :
    Calls Tryz.prog 19 #[.slice A n c] w fun e w' => e = .returned (.bool (rightB l)) ∧ Q w w' :=
  right7_gen A n c l w hn hr (Nat.le_trans (total7_ge l) hf) (by omega) (fun t ht => by have := total7_mem ht; omega)
end Go.Proofs.YtdmdcggmgipdbaaGreatDoor.Ex

namespace Go.Proofs.YtdmdcggmgipdbaaGreatDoor.Ld
open Go.RowKit Kit Rw
open Go.Proofs.YtdmdcggmgipdbaaGreatDoor.Sg (Sig findI)
open Go.Proofs.YtdmdcggmgipdbaaGreatDoor.Tm (Tm Store mayB ofKey isPl isPl_iff Made belowL belowI)
open Go.Proofs.YtdmdcggmgipdbaaGreatDoor.Ex (Ex mayN np rightB nodesL)
def varB (names : List ByteArray) (ks : List (List Int)) (y : Int) : Bool := !((tmP ks y.toNat).k == 2 && decide ((names.length : Int) ≤ (tmP ks y.toNat).s))
def varsB (names : List ByteArray) (ks : List (List Int)) (id : Nat) : Bool := (belowL ks id).all (varB names ks)
def nodesE (L : List Sig) (names : List ByteArray) (ks : List (List Int)) (id : Int) : Int :=
  if isPl id ks.length = true then if varsB names ks id.toNat = true then if 300 < (exP L names ks id.toNat).size then 7 else if rightB (exP L names ks id.toNat).nodes = true then 0 else 7 else 1 else 1
def nodesV (L : List Sig) (names : List ByteArray) (ks : List (List Int)) (id : Int) : List Tg := if nodesE L names ks id = 0 then (exP L names ks id.toNat).nodes else []
def textV (L : List Sig) (names : List ByteArray) (ks : List (List Int)) (id : Int) : List UInt8 := if nodesE L names ks id = 0 then (exP L names ks id.toNat).text else []
theorem below_mem {ks : List (List Int)} {id : Nat} {y : Nat} : (y : Int) ∈ belowL ks id ↔ Made ks id y := by
  rw [(Tm.below_is ks id).mem]
  constructor
  · rintro ⟨n, h, e⟩
    have : y = n := by omega
    rw [this]; exact h
  · intro h; exact ⟨y, h, rfl⟩
theorem varsB_iff {names : List ByteArray} {ks : List (List Int)} {id : Nat} : varsB names ks id = true ↔ VarsIn names ks id := by
  unfold varsB VarsIn
  rw [List.all_eq_true]
  constructor
  · intro h y hy hk
    have := h (y : Int) (below_mem.2 hy)
    unfold varB at this
    rw [Int.toNat_natCast, hk] at this
    simp only [beq_self_eq_true, Bool.true_and, Bool.not_eq_true', decide_eq_false_iff_not] at this
    omega
  · intro h x hx
    obtain ⟨y, hy, rfl⟩ := ((Tm.below_is ks id).mem x).1 hx
    unfold varB
    rw [Int.toNat_natCast]
    by_cases hk : (tmP ks y).k = 2
    · have := h y hy hk
      rw [hk, decide_eq_false (by omega), Bool.and_false]; rfl
    · rw [beq_eq_false_iff_ne.2 hk, Bool.false_and]; rfl
/-- with nodes: what that says -/
theorem nodesE_ok {L : List Sig} {names : List ByteArray} {ks : List (List Int)} {id : Int} (h : nodesE L names ks id = 0) : ∃ i : Nat, id = (i : Int) ∧ i < ks.length ∧ VarsIn names ks i ∧ (exP L names ks i).size ≤ 300 ∧ rightB (exP L names ks i).nodes = true := by
  unfold nodesE at h
  by_cases h1 : isPl id ks.length = true
  · obtain ⟨p, q⟩ := (isPl_iff _ _).1 h1
    obtain ⟨i, rfl⟩ := Int.eq_ofNat_of_zero_le p
    rw [if_pos h1, Int.toNat_natCast] at h
    by_cases h2 : varsB names ks i = true
    · rw [if_pos h2] at h
      by_cases h3 : 300 < (exP L names ks i).size
      · rw [if_pos h3] at h; omega
      · rw [if_neg h3] at h
        by_cases h4 : rightB (exP L names ks i).nodes = true
        · exact ⟨i, rfl, by omega, varsB_iff.1 h2, by omega, h4⟩
        · rw [if_neg h4] at h; omega
    · rw [if_neg h2] at h; omega
  · rw [if_neg h1] at h; omega

def szP (ks : List (List Int)) (i : Nat) : Nat := (exP [] [] ks i).size
mutual
theorem size_names {L L' : List Sig} {names names' : List ByteArray} {ks : List (List Int)} : ∀ (i : Nat), (exS L names ks i).map Ex.Ex.size = (exS L' names' ks i).map Ex.Ex.size
  | 0 => rfl
  | i + 1 => by
    have ih := size_names (L := L) (L' := L') (names := names) (names' := names') (ks := ks) i
    show (exS L names ks i ++ [_]).map Ex.Ex.size = (exS L' names' ks i ++ [_]).map Ex.Ex.size
    rw [List.map_append, List.map_append, ih]
    congr 1
    simp only [List.map_cons, List.map_nil]
    congr 1
    show (nodesL _ ++ [_]).length = (nodesL _ ++ [_]).length
    rw [List.length_append, List.length_append]
    congr 1
    have each : ∀ (l : List Int), (nodesL (l.map fun a => (exS L names ks i)[a.toNat]?.getD noE)).length = (nodesL (l.map fun a => (exS L' names' ks i)[a.toNat]?.getD noE)).length := by
      intro l
      induction l with
      | nil => rfl
      | cons a l ihl =>
        simp only [List.map_cons, nodesL, List.length_append, ihl]
        congr 1
        have h1 := congrArg (fun z => z[a.toNat]?) ih
        simp only [List.getElem?_map] at h1
        cases ha : (exS L names ks i)[a.toNat]? with
        | none =>
          rw [ha] at h1
          cases hb : (exS L' names' ks i)[a.toNat]? with
          | none => rfl
          | some e => rw [hb] at h1; cases h1
        | some e =>
          rw [ha] at h1
          cases hb : (exS L' names' ks i)[a.toNat]? with
          | none => rw [hb] at h1; cases h1
          | some e' =>
            rw [hb] at h1
            simp only [Option.map_some, Option.some.injEq] at h1
            exact h1
    exact each _
end
theorem size_any (L : List Sig) (names : List ByteArray) (ks : List (List Int)) (i : Nat) : (exP L names ks i).size = szP ks i := by
  have h := congrArg (fun z => z[i]?) (size_names (L := L) (L' := []) (names := names) (names' := []) (ks := ks) (i + 1))
  simp only [List.getElem?_map] at h
  rw [exS_get (Nat.lt_succ_self i), exS_get (Nat.lt_succ_self i)] at h
  simp only [Option.map_some, Option.some.injEq] at h
  exact h
def sumZ (ks : List (List Int)) : List Int → Nat
  | [] => 0
  | a :: r => szP ks a.toNat + sumZ ks r
theorem szP_eq {L : List Sig} {ks : List (List Int)} (hS : Store L ks) {i : Nat} {key : List Int} (h : ks[i]? = some key) : szP ks i = 1 + sumZ ks (ofKey key).xs := by
  rw [← size_any L [] ks i, exP_kids hS h]
  show (nodesL _ ++ [_]).length = _
  rw [List.length_append]
  have : ∀ (l : List Int), (nodesL (l.map fun a => exP L [] ks a.toNat)).length = sumZ ks l := by
    intro l
    induction l with
    | nil => rfl
    | cons a l ih =>
      simp only [List.map_cons, nodesL, List.length_append, ih, sumZ]
      rw [← size_any L [] ks a.toNat]; rfl
  rw [this]
  simp
  omega
/-- the least of a size and 1000 -/
def mz (ks : List (List Int)) (i : Nat) : Nat := min (szP ks i) 1000
def sumM (ks : List (List Int)) : List Int → Nat
  | [] => 0
  | a :: r => mz ks a.toNat + sumM ks r
theorem min_sum (ks : List (List Int)) (l : List Int) : min (1 + sumM ks l) 1000 = min (1 + sumZ ks l) 1000 := by
  have : (sumM ks l = sumZ ks l) ∨ (1000 ≤ sumM ks l ∧ 1000 ≤ sumZ ks l) := by
    induction l with
    | nil => exact .inl rfl
    | cons a l ih =>
      simp only [sumM, sumZ, mz]
      omega
  omega
theorem mz_eq {L : List Sig} {ks : List (List Int)} (hS : Store L ks) {i : Nat} {key : List Int} (h : ks[i]? = some key) : mz ks i = min (1 + sumM ks (ofKey key).xs) 1000 := by
  rw [min_sum, ← szP_eq hS h]; rfl
def sizesF (ks : List (List Int)) (n : Nat) : List Int := (List.range n).map fun i => (mz ks i : Int)
theorem sizesF_len (ks : List (List Int)) (n : Nat) : (sizesF ks n).length = n := by simp [sizesF]
theorem sizesF_at (ks : List (List Int)) (n j : Nat) (h : j < n) : (sizesF ks n)[j]'(by rw [sizesF_len]; exact h) = (mz ks j : Int) := by simp [sizesF]
theorem sizesF_next (ks : List (List Int)) (n : Nat) : sizesF ks (n + 1) = sizesF ks n ++ [(mz ks n : Int)] := by simp [sizesF, List.range_succ]
end Go.Proofs.YtdmdcggmgipdbaaGreatDoor.Ld
