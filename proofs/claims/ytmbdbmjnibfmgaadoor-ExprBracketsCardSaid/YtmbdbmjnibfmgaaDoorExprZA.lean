/-
  Plain: the pieces of a node's text, and what a row of pieces says.
  Contracts of the pieces' small functions: say, textOf, zero, one, name, joint, proj.
-/
import Derived.Test.YtmbdbmjnibfmgaaDoorExprD
import Derived.Test.YtmbdbmjnibfmgaaDoorExprF
import Derived.Test.YtmbdbmjnibfmgaaDoorExprI
namespace Go.Proofs.YtmbdbmjnibfmgaaDoor.Ex
open Go.RowKit Kit Rw
open Go.Proofs.YtmbdbmjnibfmgaaDoor.Nm

/-- a piece of a text: some bytes, or a place -/
abbrev Pc := ByteArray × Int
def cellsPc : List Pc → List Value
  | [] => []
  | p :: l => .string p.1 :: .int .i64 p.2 :: cellsPc l
theorem cellsPc_len (l : List Pc) : (cellsPc l).length = l.length * 2 := by
  induction l with
  | nil => rfl
  | cons s l ih => simp [cellsPc, ih]; omega
theorem cellsPc_app (a b : List Pc) : cellsPc (a ++ b) = cellsPc a ++ cellsPc b := by
  induction a with
  | nil => rfl
  | cons s l ih => simp [cellsPc, ih]
theorem cellsPc_one (l : List Pc) : ∀ v ∈ cellsPc l, v.oneCell' = true := by
  induction l with
  | nil => simp [cellsPc]
  | cons s l ih => simp only [cellsPc, List.mem_cons]; rintro v (rfl | rfl | h); exact rfl; exact rfl; exact ih v h
theorem cellsPc_at : ∀ (l : List Pc) (k : Nat) (h : k < l.length), (cellsPc l)[k * 2]? = some (.string l[k].1) ∧ (cellsPc l)[k * 2 + 1]? = some (.int .i64 l[k].2)
  | p :: l, 0, _ => ⟨rfl, rfl⟩
  | p :: l, k + 1, h => by
    have := cellsPc_at l k (by simpa using h)
    rw [show (k + 1) * 2 = k * 2 + 1 + 1 by omega]
    exact this
def sayP (s : ByteArray) : Pc := (s, -1)
def atP (j : Nat) : Pc := (⟨#[]⟩, (j : Int))
/-- what a piece says -/
def pcL (l : List Tg) (p : Pc) : List UInt8 := if p.2 = -1 then p.1.data.toList else textAt l p.2.toNat
def pcsL (l : List Tg) : List Pc → List UInt8
  | [] => []
  | p :: r => pcL l p ++ pcsL l r
theorem pcsL_app (l : List Tg) (a b : List Pc) : pcsL l (a ++ b) = pcsL l a ++ pcsL l b := by
  induction a with
  | nil => rfl
  | cons p a ih => simp [pcsL, ih]
theorem pcL_say (l : List Tg) (s : ByteArray) : pcL l (sayP s) = s.data.toList := rfl
theorem pcL_at (l : List Tg) (j : Nat) : pcL l (atP j) = textAt l j := by
  unfold pcL atP
  rw [if_neg (by show ¬ ((j : Int) = -1); omega)]
  rfl
/-- what is still to be done for a piece -/
def sizeAt (l : List Tg) (j : Nat) : Nat := match treeAt l j with
  | some c => c.size
  | none => 0
theorem size_of {l : List Tg} {j : Nat} {c : Ex} (h : treeAt l j = some c) : sizeAt l j = c.size := by unfold sizeAt; rw [h]
def pcW (l : List Tg) (p : Pc) : Nat := if p.2 = -1 then 1 else 16 * sizeAt l p.2.toNat
def pcsW (l : List Tg) : List Pc → Nat
  | [] => 0
  | p :: r => pcW l p + pcsW l r
theorem pcsW_app (l : List Tg) (a b : List Pc) : pcsW l (a ++ b) = pcsW l a + pcsW l b := by
  induction a with
  | nil => simp [pcsW]
  | cons p a ih => simp [pcsW, ih]; omega
theorem pcsW_rev (l : List Tg) (a : List Pc) : pcsW l a.reverse = pcsW l a := by
  induction a with
  | nil => rfl
  | cons p a ih => simp [pcsW_app, pcsW, ih]; omega
theorem pcW_say (l : List Tg) (s : ByteArray) : pcW l (sayP s) = 1 := rfl
theorem pcW_at (l : List Tg) (j : Nat) : pcW l (atP j) = 16 * sizeAt l j := by
  unfold pcW atP
  rw [if_neg (by show ¬ ((j : Int) = -1); omega)]
  rfl
/-- bytes, or a place in the row -/
def PcOk (l : List Tg) (p : Pc) : Prop := (∃ s, p = sayP s) ∨ ∃ j, p = atP j ∧ j < l.length
theorem pcW_pos {l : List Tg} {st : List Ex} (hs : runS [] l = some st) {p : Pc} (h : PcOk l p) : 0 < pcW l p := by
  rcases h with ⟨s, rfl⟩ | ⟨j, rfl, hj⟩
  · rw [pcW_say]; omega
  · obtain ⟨sk, hsk⟩ := run_take hs j
    obtain ⟨h, _⟩ := tree_at hs hj hsk
    rw [pcW_at, size_of h]
    have := size_pos (Ex.mk l[j] (sk.take (np l[j])).reverse)
    omega
theorem pcsW_len {l : List Tg} {st : List Ex} (hs : runS [] l = some st) : ∀ {ps : List Pc} (_ : ∀ p ∈ ps, PcOk l p), ps.length ≤ pcsW l ps
  | [], _ => Nat.le_refl _
  | p :: ps, h => by
    have h1 := pcW_pos hs (h p (by simp))
    have h2 := pcsW_len hs (ps := ps) fun x hx => h x (by simp [hx])
    simp only [pcsW, List.length_cons]
    omega

/-- the parts of a constructor -/
def conP (b : Bool) : List Nat → List Pc
  | [] => []
  | k :: r => sayP (if b = true then ⟨#[40]⟩ else ⟨#[44]⟩) :: atP k :: conP false r
theorem conP_app (b : Bool) (K : List Nat) (k : Nat) : conP b (K ++ [k]) = conP b K ++ [sayP (if b = true ∧ K = [] then ⟨#[40]⟩ else ⟨#[44]⟩), atP k] := by
  induction K generalizing b with
  | nil => cases b <;> simp [conP]
  | cons q K ih => simp [conP, ih]
theorem conP_len (b : Bool) (K : List Nat) : (conP b K).length = 2 * K.length := by
  induction K generalizing b with
  | nil => rfl
  | cons q K ih => simp [conP, ih]; omega
/-- a part of two, with its brackets -/
def jointP (l : List Tg) (nk : Int) (k : Nat) (last : Bool) : List Pc := if inBr nk (l[k]?.map (·.1) |>.getD 0) last = true then [sayP ⟨#[40]⟩, atP k, sayP ⟨#[41]⟩] else [atP k]
/-- the pieces of a node -/
def pcs (l : List Tg) (t : Tg) (a : Nat) (K : List Nat) : List Pc :=
  if t.1 = 0 then [sayP ⟨#[48]⟩] else if t.1 = 1 then [sayP ⟨#[49]⟩] else if t.1 = 3 then sayP t.2.1 :: (conP true K ++ (if K = [] then [] else [sayP ⟨#[41]⟩]))
  else if t.1 = 4 then jointP l 4 (K[0]?.getD 0) false ++ sayP ⟨#[124]⟩ :: jointP l 4 (K[1]?.getD 0) true
  else if t.1 = 5 then jointP l 5 (K[0]?.getD 0) false ++ sayP ⟨#[38]⟩ :: jointP l 5 (K[1]?.getD 0) true
  else if t.1 = 6 then [sayP t.2.1, sayP ⟨#[126]⟩, sayP ⟨#[figD t.2.2.toNat]⟩, sayP ⟨#[40]⟩, atP (a - 1), sayP ⟨#[41]⟩] else [sayP t.2.1]

theorem conP_text {l : List Tg} {a : Nat} : ∀ {ks : List Ex} {K : List Nat} (b : Bool), Ends l a ks K → pcsL l (conP b K) = conL b (textsP ks)
  | [], K, b, h => by
    have : K = [] := List.length_eq_zero_iff.1 h.len
    subst this; rfl
  | e :: ks, [], b, h => absurd h.len (by simp)
  | e :: ks, k :: K, b, h => by
    have h0 := h.each 0 (by simp) (by simp)
    have hr : Ends l a ks K := ⟨by have := h.len; simpa using this, fun i h1 h2 => by have := h.each (i + 1) (by simp; omega) (by simp; omega); simpa using this⟩
    simp only [conP, pcsL, pcL_say, pcL_at, conP_text false hr, textsP, conL]
    have e1 : treeAt l k = some e := h0.2
    rw [text_of e1]
    cases b <;> simp
theorem conP_w {l : List Tg} {a : Nat} : ∀ {ks : List Ex} {K : List Nat} (b : Bool), Ends l a ks K → pcsW l (conP b K) = K.length + 16 * (nodesL ks).length
  | [], K, b, h => by
    have : K = [] := List.length_eq_zero_iff.1 h.len
    subst this; rfl
  | e :: ks, [], b, h => absurd h.len (by simp)
  | e :: ks, k :: K, b, h => by
    have h0 := h.each 0 (by simp) (by simp)
    have hr : Ends l a ks K := ⟨by have := h.len; simpa using this, fun i h1 h2 => by have := h.each (i + 1) (by simp; omega) (by simp; omega); simpa using this⟩
    have e1 : treeAt l k = some e := h0.2
    simp only [conP, pcsW, pcW_say, pcW_at, conP_w false hr, size_of e1, nodesL, List.length_append, List.length_cons, Ex.size]
    omega
theorem jointP_text {l : List Tg} {st : List Ex} (hs : runS [] l = some st) (nk : Int) {k : Nat} (last : Bool) {e : Ex} (hk : k < l.length) (ht : treeAt l k = some e) (h36 : nk = 4 ∨ nk = 5) : pcsL l (jointP l nk k last) = sideL nk (!last) (e.root.1, e.text) := by
  have hr : (l[k]?.map (·.1) |>.getD 0) = e.root.1 := by rw [List.getElem?_eq_getElem hk, root_of hs hk ht]; rfl
  unfold jointP sideL inBr
  rw [hr]
  have h1 : ¬ (nk = 3 ∨ nk = 6) := by omega
  rw [if_neg h1]
  by_cases h2 : e.root.1 = 4 ∨ e.root.1 = 5
  · rw [if_pos h2]
    cases last
    · by_cases h3 : e.root.1 = nk
      · rw [if_neg (by simp [h3]), if_neg (by simp [h3])]
        simp [pcsL, pcL_at, text_of ht]
      · rw [if_pos (by simp [h3]), if_pos ⟨h2, .inr h3⟩]
        simp [pcsL, pcL_at, pcL_say, text_of ht]
    · rw [if_pos (by simp), if_pos ⟨h2, .inl rfl⟩]
      simp [pcsL, pcL_at, pcL_say, text_of ht]
  · rw [if_neg h2, if_neg (by simp), if_neg fun h => h2 h.1]
    simp [pcsL, pcL_at, text_of ht]
theorem jointP_w {l : List Tg} (nk : Int) {k : Nat} (last : Bool) {e : Ex} (ht : treeAt l k = some e) : pcsW l (jointP l nk k last) ≤ 2 + 16 * e.nodes.length := by
  unfold jointP
  split <;> simp only [pcsW, pcW_say, pcW_at, size_of ht, Ex.size] <;> omega
theorem jointP_len (l : List Tg) (nk : Int) (k : Nat) (last : Bool) : (jointP l nk k last).length ≤ 3 := by
  unfold jointP; split <;> simp
theorem ok_say (l : List Tg) (s : ByteArray) : PcOk l (sayP s) := .inl ⟨s, rfl⟩
theorem conP_ok {l : List Tg} : ∀ {K : List Nat} (b : Bool), (∀ k ∈ K, k < l.length) → ∀ p ∈ conP b K, PcOk l p
  | [], b, _, p, hp => by cases hp
  | k :: K, b, h, p, hp => by
    simp only [conP, List.mem_cons] at hp
    rcases hp with rfl | rfl | hp
    · exact ok_say _ _
    · exact .inr ⟨k, rfl, h k (by simp)⟩
    · exact conP_ok false (fun x hx => h x (by simp [hx])) p hp
theorem jointP_ok {l : List Tg} (nk : Int) {k : Nat} (last : Bool) (hk : k < l.length) : ∀ p ∈ jointP l nk k last, PcOk l p := by
  unfold jointP
  split
  · simp only [List.mem_cons, List.not_mem_nil, or_false]
    rintro p (rfl | rfl | rfl)
    · exact ok_say _ _
    · exact .inr ⟨k, rfl, hk⟩
    · exact ok_say _ _
  · simp only [List.mem_cons, List.not_mem_nil, or_false]
    rintro p rfl
    exact .inr ⟨k, rfl, hk⟩
theorem two_of {α : Type} {L : List α} (h : L.length = 2) : ∃ a b, L = [a, b] := by
  match L, h with
  | [a, b], _ => exact ⟨a, b, rfl⟩
/-- the pieces of a node say its text, and are less work -/
theorem pcs_all {l : List Tg} {st : List Ex} (hs : runS [] l = some st) {a : Nat} (ha : a < l.length) (hm : mayN l[a] = true) {sk : List Ex} (hsk : runS [] (l.take a) = some sk) {K : List Nat} (hE : Ends l a (sk.take (np l[a])).reverse K) (hN : NearK a K) :
    pcsL l (pcs l l[a] a K) = textAt l a ∧ pcsW l (pcs l l[a] a K) < 16 * sizeAt l a ∧ (∀ p ∈ pcs l l[a] a K, PcOk l p) ∧ (pcs l l[a] a K).length ≤ 20 := by
  obtain ⟨ht, hnp⟩ := tree_at hs ha hsk
  rw [text_of ht, size_of ht]
  have hlen : K.length = np l[a] := by rw [hE.len, List.length_reverse, List.length_take]; omega
  have h8 := (parts_nat hm).2
  have hKa : ∀ i (h : i < K.length), K[i] < l.length := fun i h => by
    have := (hE.each i h (by rw [← hE.len]; exact h)).1; omega
  generalize hks : (sk.take (np l[a])).reverse = ks at *
  have hsz : (Ex.mk l[a] ks).size = 1 + (nodesL ks).length := by simp [Ex.size, Ex.nodes]; omega
  rw [hsz]
  have hkl : ks.length = np l[a] := by rw [← hE.len, hlen]
  unfold Ex.text txt pcs
  generalize l[a] = t at *
  rcases may_kinds hm with h | h | h | h | h | h | h
  · simp only [h, if_true]
    exact ⟨rfl, by simp only [pcsW, pcW_say]; omega, by simp only [List.mem_cons, List.not_mem_nil, or_false]; rintro p rfl; exact ok_say _ _, by simp⟩
  · simp only [h, if_true, if_neg (show ¬ (1 : Int) = 0 by omega)]
    exact ⟨rfl, by simp only [pcsW, pcW_say]; omega, by simp only [List.mem_cons, List.not_mem_nil, or_false]; rintro p rfl; exact ok_say _ _, by simp⟩
  · rw [h]
    simp only [show ¬ ((2 : Int) = 0) by omega, show ¬ ((2 : Int) = 1) by omega, show ¬ ((2 : Int) = 3) by omega, show ¬ ((2 : Int) = 4) by omega, show ¬ ((2 : Int) = 5) by omega, show ¬ ((2 : Int) = 6) by omega, if_false]
    exact ⟨by simp [pcsL, pcL_say, nm], by simp only [pcsW, pcW_say]; omega, by simp only [List.mem_cons, List.not_mem_nil, or_false]; rintro p rfl; exact ok_say _ _, by simp⟩
  · rw [h]
    simp only [show ¬ ((3 : Int) = 0) by omega, show ¬ ((3 : Int) = 1) by omega, if_false, if_true]
    have hnil : K = [] ↔ textsP ks = [] := by
      rw [← List.length_eq_zero_iff, ← List.length_eq_zero_iff, textsP_len, hE.len]
    refine ⟨?_, ?_, ?_, ?_⟩
    · simp only [pcsL, pcL_say, pcsL_app, conP_text true hE]
      by_cases hK : K = []
      · rw [if_pos hK, if_pos (hnil.1 hK)]; simp [pcsL, nm]
      · rw [if_neg hK, if_neg fun x => hK (hnil.2 x)]; simp [pcsL, nm, pcL_say]
    · simp only [pcsW, pcW_say, pcsW_app, conP_w true hE]
      split <;> simp only [pcsW, pcW_say] <;> omega
    · intro p hp
      simp only [List.mem_cons, List.mem_append] at hp
      rcases hp with rfl | hp | hp
      · exact ok_say _ _
      · refine conP_ok true (fun k hk => ?_) p hp
        obtain ⟨i, hi, rfl⟩ := List.mem_iff_getElem.1 hk
        exact hKa i hi
      · split at hp
        · cases hp
        · simp only [List.mem_cons, List.not_mem_nil, or_false] at hp
          subst hp; exact ok_say _ _
    · simp only [List.length_cons, List.length_append, conP_len]
      split <;> simp <;> omega
  · have h2 := np_two hm (.inl h)
    rw [h2] at hlen hkl
    obtain ⟨k0, k1, rfl⟩ := two_of hlen
    obtain ⟨e0, e1, rfl⟩ := two_of hkl
    have t0 := (hE.each 0 (by simp) (by simp)).2
    have t1 := (hE.each 1 (by simp) (by simp)).2
    have l0 := hKa 0 (by simp)
    have l1 := hKa 1 (by simp)
    simp only [List.getElem_cons_zero, List.getElem_cons_succ] at t0 t1 l0 l1
    rw [h]
    simp only [show ¬ ((4 : Int) = 0) by omega, show ¬ ((4 : Int) = 1) by omega, show ¬ ((4 : Int) = 3) by omega, if_false, if_true, List.getElem?_cons_zero, List.getElem?_cons_succ, Option.getD_some]
    refine ⟨?_, ?_, ?_, ?_⟩
    · rw [pcsL_app]
      simp only [pcsL, pcL_say]
      rw [jointP_text hs 4 false l0 t0 (.inl rfl), jointP_text hs 4 true l1 t1 (.inl rfl), nth_at [e0, e1] 0 (by simp), nth_at [e0, e1] 1 (by simp)]
      rfl
    · have w0 := jointP_w 4 false t0
      have w1 := jointP_w 4 true t1
      simp only [pcsW_app, pcsW, pcW_say, nodesL, List.append_nil, List.length_append] at w0 w1 ⊢
      omega
    · intro p hp
      simp only [List.mem_append, List.mem_cons] at hp
      rcases hp with hp | rfl | hp
      · exact jointP_ok 4 false l0 p hp
      · exact ok_say _ _
      · exact jointP_ok 4 true l1 p hp
    · have w0 := jointP_len l 4 k0 false
      have w1 := jointP_len l 4 k1 true
      simp only [List.length_append, List.length_cons]
      omega
  · have h2 := np_two hm (.inr h)
    rw [h2] at hlen hkl
    obtain ⟨k0, k1, rfl⟩ := two_of hlen
    obtain ⟨e0, e1, rfl⟩ := two_of hkl
    have t0 := (hE.each 0 (by simp) (by simp)).2
    have t1 := (hE.each 1 (by simp) (by simp)).2
    have l0 := hKa 0 (by simp)
    have l1 := hKa 1 (by simp)
    simp only [List.getElem_cons_zero, List.getElem_cons_succ] at t0 t1 l0 l1
    rw [h]
    simp only [show ¬ ((5 : Int) = 0) by omega, show ¬ ((5 : Int) = 1) by omega, show ¬ ((5 : Int) = 3) by omega, show ¬ ((5 : Int) = 4) by omega, if_false, if_true, List.getElem?_cons_zero, List.getElem?_cons_succ, Option.getD_some]
    refine ⟨?_, ?_, ?_, ?_⟩
    · rw [pcsL_app]
      simp only [pcsL, pcL_say]
      rw [jointP_text hs 5 false l0 t0 (.inr rfl), jointP_text hs 5 true l1 t1 (.inr rfl), nth_at [e0, e1] 0 (by simp), nth_at [e0, e1] 1 (by simp)]
      rfl
    · have w0 := jointP_w 5 false t0
      have w1 := jointP_w 5 true t1
      simp only [pcsW_app, pcsW, pcW_say, nodesL, List.append_nil, List.length_append] at w0 w1 ⊢
      omega
    · intro p hp
      simp only [List.mem_append, List.mem_cons] at hp
      rcases hp with hp | rfl | hp
      · exact jointP_ok 5 false l0 p hp
      · exact ok_say _ _
      · exact jointP_ok 5 true l1 p hp
    · have w0 := jointP_len l 5 k0 false
      have w1 := jointP_len l 5 k1 true
      simp only [List.length_append, List.length_cons]
      omega
  · obtain ⟨n1, m, _, _, _⟩ := np_proj hm h
    rw [n1] at hlen hkl
    obtain ⟨k0, rfl⟩ : ∃ k0, K = [k0] := by
      match K, hlen with
      | [a], _ => exact ⟨a, rfl⟩
    obtain ⟨e0, rfl⟩ : ∃ e0, ks = [e0] := by
      match ks, hkl with
      | [a], _ => exact ⟨a, rfl⟩
    have t0 := (hE.each 0 (by simp) (by simp)).2
    have l0 := hKa 0 (by simp)
    have hk0 := (hN 0 (by simp)).2 (by simp)
    simp only [List.getElem_cons_zero] at t0 l0 hk0
    have ea : a - 1 = k0 := by omega
    rw [h, ea]
    simp only [show ¬ ((6 : Int) = 0) by omega, show ¬ ((6 : Int) = 1) by omega, show ¬ ((6 : Int) = 3) by omega, show ¬ ((6 : Int) = 4) by omega, show ¬ ((6 : Int) = 5) by omega, if_false, if_true]
    refine ⟨?_, ?_, ?_, ?_⟩
    · simp only [pcsL, pcL_say, pcL_at, text_of t0, nth_at [e0] 0 (by simp)]
      simp [nm]
    · simp only [pcsW, pcW_say, pcW_at, size_of t0, nodesL, List.append_nil, Ex.size]
      omega
    · simp only [List.mem_cons, List.not_mem_nil, or_false]
      rintro p (rfl | rfl | rfl | rfl | rfl | rfl)
      · exact ok_say _ _
      · exact ok_say _ _
      · exact ok_say _ _
      · exact ok_say _ _
      · exact .inr ⟨k0, rfl, l0⟩
      · exact ok_say _ _
    · simp
end Go.Proofs.YtmbdbmjnibfmgaaDoor.Ex

namespace Go.Proofs.YtmbdbmjnibfmgaaDoor.Ex
open Go.RowKit Kit Rw
open Go.Proofs.YtmbdbmjnibfmgaaDoor.Nm

theorem pieceInfo : (Tryd.prog.info? 54).map (fun i => (i.zero, i.size, i.bytes)) = some (some (.agg #[.string ⟨#[]⟩, .int .i64 0]), 2, 24) := by kernel_rfl
def PcsPost (ps : List Pc) (w : World) (e : Ending) (w' : World) : Prop :=
  ∃ g cap, e = .returned (.slice (some ⟨g, 0, none⟩) ps.length cap) ∧ w'.ownsRow w.heap.size 54 2 (.slice (some ⟨g, 0, none⟩) ps.length cap) ps.length (cellsPc ps) ∧ Q w w'
theorem pcs_lit {w W : World} (ps : List Pc) (cs : Array Value) (q : Q w W) (hc : cs = (cellsPc ps).toArray) (n : Nat) (hn : n = ps.length) (hl : ps.length ≤ 1000) : PcsPost ps w (.returned (.slice (some ⟨W.heap.size, 0, none⟩) n n)) (W.alloc (.cells cs 54)) := by
  subst hc hn
  have := World.ownsRow_lit (base := w.heap.size) (e := 54) (size := 2) W (cellsPc ps).toArray ps.length q.size (by unfold maxLen; omega) (by simp [cellsPc_len])
  exact ⟨_, _, rfl, by simpa using this, q.alloc _⟩

set_option maxRecDepth 100000 in
set_option maxHeartbeats 1000000 in
theorem say_any (s : ByteArray) (w : World) :
    Calls Tryd.prog 60 #[.string s] w fun e w' => e = .returned (.agg #[.string s, .int .i64 (-1)]) ∧ Q w w' := by
  have hq := (Q.refl w).alloc (Obj.cells #[.string s, .int .i64 (-1)] 54)
  go_enter Tryd.func60, Tryd.ntmps60
  go_wp2_with fail
  refine bodyPost_ret (v := .agg #[.string s, .int .i64 (-1)]) (by simp [results, Tryd.f60, go_sem]) rfl ?_
  exact ⟨rfl, hq⟩

set_option maxRecDepth 100000 in
set_option maxHeartbeats 1000000 in
theorem textOf_any (k : Nat) (w : World) :
    Calls Tryd.prog 22 #[.int .i64 (k : Int)] w fun e w' => e = .returned (.agg #[.string ⟨#[]⟩, .int .i64 (k : Int)]) ∧ Q w w' := by
  have hq := (Q.refl w).alloc (Obj.cells #[.string ⟨#[]⟩, .int .i64 (k : Int)] 54)
  go_enter Tryd.func22, Tryd.ntmps22
  go_wp2_with fail
  refine bodyPost_ret (v := .agg #[.string ⟨#[]⟩, .int .i64 (k : Int)]) (by simp [results, Tryd.f22, go_sem]) rfl ?_
  exact ⟨rfl, hq⟩

set_option maxHeartbeats 1000000 in
theorem zero_any (A S : Option Addr) (n c m d : Nat) (a : Nat) (w : World) :
    Calls Tryd.prog 40 #[.agg #[.slice A n c, .slice S m d], .int .i64 (a : Int)] w (PcsPost [sayP ⟨#[48]⟩] w) := by
  have hq := (Q.refl w).alloc (Obj.cells #[Value.slice A n c, Value.slice S m d] 47)
  go_enter Tryd.func40, Tryd.ntmps40
  go_wp2_with (go_at_call 60; refine (say_any _ _).mono ?_; rintro e w1 ⟨rfl, q1⟩; have HQ1 := Lib.hid (hq.trans q1); clear q1)
  go_ret
  exact pcs_lit [sayP ⟨#[48]⟩] _ HQ1.out rfl _ rfl (by simp)

set_option maxHeartbeats 1000000 in
theorem one_any (A S : Option Addr) (n c m d : Nat) (a : Nat) (w : World) :
    Calls Tryd.prog 41 #[.agg #[.slice A n c, .slice S m d], .int .i64 (a : Int)] w (PcsPost [sayP ⟨#[49]⟩] w) := by
  have hq := (Q.refl w).alloc (Obj.cells #[Value.slice A n c, Value.slice S m d] 47)
  go_enter Tryd.func41, Tryd.ntmps41
  go_wp2_with (go_at_call 60; refine (say_any _ _).mono ?_; rintro e w1 ⟨rfl, q1⟩; have HQ1 := Lib.hid (hq.trans q1); clear q1)
  go_ret
  exact pcs_lit [sayP ⟨#[49]⟩] _ HQ1.out rfl _ rfl (by simp)

set_option maxRecDepth 100000 in
set_option maxHeartbeats 1000000 in
theorem pname_any (A S : Option Addr) (n c m d : Nat) (l : List Tg) (a : Nat) (w : World) (hn : n = l.length) (hr : Rds w w.heap.size A (cellsG l)) (ha : a < l.length) :
    Calls Tryd.prog 42 #[.agg #[.slice A n c, .slice S m d], .int .i64 (a : Int)] w (PcsPost [sayP l[a].2.1] w) := by
  subst hn
  have hq := (Q.refl w).alloc (Obj.cells #[Value.slice A l.length c, Value.slice S m d] 47)
  have hbx := own_new w [Value.slice A l.length c, Value.slice S m d] 47
  have b0 := (hbx.2 0 _ rfl).1
  obtain ⟨ad, rfl, hb, c0, c1, c2⟩ := tok_at (hr.q hq) ha
  have HQ := Lib.hid hq
  clear hbx hr hq
  go_enter Tryd.func42, Tryd.ntmps42
  go_wp2_with (go_at_call 60; refine (say_any _ _).mono ?_; rintro e w1 ⟨rfl, q1⟩; have HQ1 := Lib.hid (HQ.out.trans q1); clear q1)
  go_ret
  exact pcs_lit [sayP l[a].2.1] _ HQ1.out rfl _ rfl (by simp)

set_option maxRecDepth 100000 in
set_option maxHeartbeats 1000000 in
theorem joint_any (A S : Option Addr) (n c m d : Nat) (l : List Tg) (a p : Nat) (w : World) (hn : n = l.length) (hr : Rds w w.heap.size A (cellsG l)) (ha : a < l.length) (hp : p < l.length) (hl : l.length ≤ 1000000) :
    Calls Tryd.prog 67 #[.agg #[.slice A n c, .slice S m d], .int .i64 (a : Int), .int .i64 (p : Int)] w (PcsPost (jointP l l[a].1 p (decide (p + 1 = a))) w) := by
  subst hn
  have hq := (Q.refl w).alloc (Obj.cells #[Value.slice A l.length c, Value.slice S m d] 47)
  have hbx := own_new w [Value.slice A l.length c, Value.slice S m d] 47
  have b0 := (hbx.2 0 _ rfl).1
  have b1 := (hbx.2 1 _ rfl).1
  have CI := Lib.hid (isIn_any A S l.length c m d l a p _ rfl (hr.q hq) ha hp hl)
  have HQ := Lib.hid hq
  have HE : Hid (jointP l l[a].1 p (decide (p + 1 = a)) = if inBr l[a].1 l[p].1 (decide (p + 1 = a)) = true then [sayP ⟨#[40]⟩, atP p, sayP ⟨#[41]⟩] else [atP p]) := by
    unfold Hid jointP; rw [List.getElem?_eq_getElem hp]; rfl
  clear hbx hr hq
  cases hin : inBr l[a].1 l[p].1 (decide (p + 1 = a))
  · rw [hin] at CI HE
    go_enter Tryd.func67, Tryd.ntmps67
    go_wp2_with (first
      | (go_at_call 28; refine CI.out.mono ?_; rintro e w1 ⟨rfl, q1⟩; have HQ1 := Lib.hid (HQ.out.trans q1); clear q1)
      | (go_at_call 22; refine (textOf_any _ _).mono ?_; rintro e w2 ⟨rfl, q2⟩; have HQ2 := Lib.hid (HQ1.out.trans q2); clear q2))
    go_ret
    rw [HE.out]
    exact pcs_lit [atP p] _ HQ2.out rfl _ rfl (by simp)
  · rw [hin] at CI HE
    go_enter Tryd.func67, Tryd.ntmps67
    go_wp2_with (first
      | (go_at_call 28; refine CI.out.mono ?_; rintro e w1 ⟨rfl, q1⟩; have HQ1 := Lib.hid (HQ.out.trans q1); clear q1)
      | (go_at_call 60; refine (say_any _ _).mono ?_; rintro e w2 ⟨rfl, q2⟩; replace HQ1 := Lib.hid (HQ1.out.trans q2); clear q2)
      | (go_at_call 22; refine (textOf_any _ _).mono ?_; rintro e w2 ⟨rfl, q2⟩; replace HQ1 := Lib.hid (HQ1.out.trans q2); clear q2))
    go_ret
    rw [HE.out]
    exact pcs_lit [sayP ⟨#[40]⟩, atP p, sayP ⟨#[41]⟩] _ HQ1.out rfl _ rfl (by simp)
end Go.Proofs.YtmbdbmjnibfmgaaDoor.Ex
