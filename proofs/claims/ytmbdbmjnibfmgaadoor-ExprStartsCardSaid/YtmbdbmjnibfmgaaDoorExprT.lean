/-
  Plain: reading the tokens of a tree's text comes to its nodes, or to too many brackets.
  Plain: each tree's tokens are read as its nodes; a whole text, with brackets around it too.
-/
import Derived.Test.YtmbdbmjnibfmgaaDoorExprP
import Derived.Test.YtmbdbmjnibfmgaaDoorExprR
namespace Go.Proofs.YtmbdbmjnibfmgaaDoor.Ex
open Go.RowKit Kit Rw
open Go.Proofs.YtmbdbmjnibfmgaaDoor.Nm

/-- these tokens stand from a place on -/
def At (toks : List Tg) (p : Nat) (ts : List TT) : Prop := ∀ i (h : i < ts.length), ∃ hp : p + i < toks.length, toks[p + i].1 = (ts[i].1 : Int) ∧ toks[p + i].2.1 = bs ts[i].2
theorem At.left {toks : List Tg} {p : Nat} {a b : List TT} (h : At toks p (a ++ b)) : At toks p a := fun i hi => by
  have := h i (by simp; omega)
  rw [List.getElem_append_left hi] at this
  exact this
theorem At.right {toks : List Tg} {p : Nat} {a b : List TT} (h : At toks p (a ++ b)) : At toks (p + a.length) b := fun i hi => by
  have := h (a.length + i) (by simp; omega)
  rw [List.getElem_append_right (by omega)] at this
  simp only [Nat.add_sub_cancel_left, ← Nat.add_assoc] at this
  exact this
theorem At.head {toks : List Tg} {p : Nat} {t : TT} {r : List TT} (h : At toks p (t :: r)) : ∃ hp : p < toks.length, toks[p].1 = (t.1 : Int) ∧ toks[p].2.1 = bs t.2 := h 0 (by simp)
theorem At.tail {toks : List Tg} {p : Nat} {t : TT} {r : List TT} (h : At toks p (t :: r)) : At toks (p + 1) r := At.right (a := [t]) h
theorem At.sign {toks : List Tg} {p : Nat} {c : UInt8} {r : List TT} (h : At toks p (sgT c :: r)) : ∃ hp : p < toks.length, toks[p].1 = 3 ∧ toks[p].2.1 = ⟨#[c]⟩ := h.head
theorem At.sgIs {toks : List Tg} {p : Nat} {c : UInt8} {r : List TT} (h : At toks p (sgT c :: r)) (d : UInt8) : isSg toks p ⟨#[d]⟩ = decide (c = d) := by
  obtain ⟨hp, h1, h2⟩ := h.sign
  rw [isSg_at hp ⟨h1, h2⟩, eqS_dec, decide_eq_decide]
  simp
theorem At.noSg {toks : List Tg} {p : Nat} {t : TT} {r : List TT} (h : At toks p (t :: r)) (ht : t.1 ≠ 3) (s : ByteArray) : isSg toks p s = false := by
  obtain ⟨hp, h1, _⟩ := h.head
  unfold isSg
  rw [List.getElem?_eq_getElem hp]
  have : (toks[p].1 == 3) = false := beq_eq_false_iff_ne.2 (by rw [h1]; omega)
  simp only [this, Bool.false_and]
/-- what may follow an expression -/
def Fol (toks : List Tg) (q : Nat) : Prop := isSg toks q ⟨#[40]⟩ = false ∧ isSg toks q ⟨#[126]⟩ = false
theorem Fol.sign {toks : List Tg} {q : Nat} {c : UInt8} {r : List TT} (h : At toks q (sgT c :: r)) (hc : c ≠ 40 ∧ c ≠ 126) : Fol toks q :=
  ⟨by rw [h.sgIs, decide_eq_false hc.1], by rw [h.sgIs, decide_eq_false hc.2]⟩
theorem Fol.end_ {toks : List Tg} {q : Nat} (h : q = toks.length) : Fol toks q := ⟨isSg_end h _, isSg_end h _⟩

/-- behind a part, ahead of goOn -/
def GR (toks : List Tg) (p : Nat) (ns : List Tg) (ss : List Lv) (er : Int) (p' : Nat) (ns' : List Tg) : Prop :=
  (∃ p2 ns2 ss2, GoOn toks p ns ss true p2 ns2 ss2 ∧ RunP toks p2 ns2 ss2 er p' ns') ∨ (er = 0 ∧ ∃ ss2, GoOn toks p ns ss false p' ns' ss2)
theorem GR.run {toks : List Tg} {p : Nat} {ns : List Tg} {ss : List Lv} {p1 : Nat} {ns1 : List Tg} {ss1 : List Lv} {er : Int} {p' : Nat} {ns' : List Tg} (h : PartS toks p ns ss false 0 p1 ns1 ss1) (hg : GR toks p1 ns1 ss1 er p' ns') : RunP toks p ns ss er p' ns' := by
  rcases hg with ⟨p2, ns2, ss2, h1, h2⟩ | ⟨rfl, ss2, h1⟩
  · exact .more h h1 h2
  · exact .done h h1
theorem GR.pop {toks : List Tg} {p : Nat} {ns : List Tg} {bs : List Lv} {t : Tg} {s : ByteArray} {er : Int} {p' : Nat} {ns' : List Tg} {r : List TT} (hs : SgnOk s) (hb : 0 < bs.length) (ha : At toks p (sgT 41 :: r)) (hg : GR toks (p + 1) (ns ++ joinN s ++ endN t) bs er p' ns') :
    GR toks p ns (bs ++ [(t, s)]) er p' ns' := by
  obtain ⟨hp, h⟩ := ha.sign
  rcases hg with ⟨p2, ns2, ss2, h1, h2⟩ | ⟨rfl, ss2, h1⟩
  · exact .inl ⟨_, _, _, .pop hs hb hp h h1, h2⟩
  · exact .inr ⟨rfl, _, .pop hs hb hp h h1⟩
theorem GR.bar {toks : List Tg} {p : Nat} {ns : List Tg} {bs : List Lv} {t : Tg} {s : ByteArray} {er : Int} {p' : Nat} {ns' : List Tg} {r : List TT} (hs : s = ⟨#[]⟩ ∨ s = ⟨#[124]⟩) (ha : At toks p (sgT 124 :: r)) (hg : RunP toks (p + 1) (ns ++ joinN s) (bs ++ [(t, ⟨#[124]⟩)]) er p' ns') :
    GR toks p ns (bs ++ [(t, s)]) er p' ns' := by
  obtain ⟨hp, h⟩ := ha.sign
  exact .inl ⟨_, _, _, .bar hs hp h, hg⟩
theorem GR.amp {toks : List Tg} {p : Nat} {ns : List Tg} {bs : List Lv} {t : Tg} {s : ByteArray} {er : Int} {p' : Nat} {ns' : List Tg} {r : List TT} (hs : s = ⟨#[]⟩ ∨ s = ⟨#[38]⟩) (ha : At toks p (sgT 38 :: r)) (hg : RunP toks (p + 1) (ns ++ joinN s) (bs ++ [(t, ⟨#[38]⟩)]) er p' ns') :
    GR toks p ns (bs ++ [(t, s)]) er p' ns' := by
  obtain ⟨hp, h⟩ := ha.sign
  exact .inl ⟨_, _, _, .amp hs hp h, hg⟩
theorem GR.comma {toks : List Tg} {p : Nat} {ns : List Tg} {bs : List Lv} {nm s : ByteArray} {m : Nat} {er : Int} {p' : Nat} {ns' : List Tg} {r : List TT} (hs : SgnOk s) (hb : 0 < bs.length) (hm : m < 8) (ha : At toks p (sgT 44 :: r)) (hg : RunP toks (p + 1) (ns ++ joinN s) (bs ++ [((3, nm, ((m + 1 : Nat) : Int)), ⟨#[]⟩)]) er p' ns') :
    GR toks p ns (bs ++ [((3, nm, (m : Int)), s)]) er p' ns' := by
  obtain ⟨hp, h⟩ := ha.sign
  exact .inl ⟨_, _, _, .comma hs hb hm hp h, hg⟩
theorem GR.stop {toks : List Tg} {p : Nat} {ns : List Tg} {t : Tg} {s : ByteArray} (hs : SgnOk s) (hp : p = toks.length) : GR toks p ns [(t, s)] 0 p (ns ++ joinN s) := .inr ⟨rfl, _, .stop hs hp⟩

/-- from ahead of a part to behind one; or there are too many brackets -/
def Step (toks : List Tg) (p : Nat) (ns : List Tg) (ss : List Lv) (q : Nat) (ns1 : List Tg) (ss1 : List Lv) (D : Nat) : Prop :=
  (41 < D ∧ ∃ p', RunP toks p ns ss 7 p' []) ∨ ∀ er p' ns', GR toks q ns1 ss1 er p' ns' → RunP toks p ns ss er p' ns'
theorem Step.mono {toks : List Tg} {p : Nat} {ns : List Tg} {ss : List Lv} {q : Nat} {ns1 : List Tg} {ss1 : List Lv} {D D' : Nat} (h : Step toks p ns ss q ns1 ss1 D) (hD : D ≤ D') : Step toks p ns ss q ns1 ss1 D' := by
  rcases h with ⟨h1, h2⟩ | h
  · exact .inl ⟨by omega, h2⟩
  · exact .inr h
/-- a step, a turn, a step -/
theorem Step.then_ {toks : List Tg} {p : Nat} {ns : List Tg} {ss : List Lv} {q : Nat} {ns1 : List Tg} {ss1 : List Lv} {p2 : Nat} {ns2 : List Tg} {ss2 : List Lv} {q' : Nat} {ns3 : List Tg} {ss3 : List Lv} {D : Nat} (h : Step toks p ns ss q ns1 ss1 D)
    (ht : ∀ er p' ns', RunP toks p2 ns2 ss2 er p' ns' → GR toks q ns1 ss1 er p' ns') (k : Step toks p2 ns2 ss2 q' ns3 ss3 D) : Step toks p ns ss q' ns3 ss3 D := by
  rcases h with h | h
  · exact .inl h
  · rcases k with ⟨hD, p', hr⟩ | k
    · exact .inl ⟨hD, p', h _ _ _ (ht _ _ _ hr)⟩
    · exact .inr fun er p' ns' hg => h _ _ _ (ht _ _ _ (k _ _ _ hg))
theorem Step.end_ {toks : List Tg} {p : Nat} {ns : List Tg} {ss : List Lv} {q : Nat} {ns1 : List Tg} {ss1 : List Lv} {q' : Nat} {ns3 : List Tg} {ss3 : List Lv} {D : Nat} (h : Step toks p ns ss q ns1 ss1 D)
    (ht : ∀ er p' ns', GR toks q' ns3 ss3 er p' ns' → GR toks q ns1 ss1 er p' ns') : Step toks p ns ss q' ns3 ss3 D := by
  rcases h with h | h
  · exact .inl h
  · exact .inr fun er p' ns' hg => h _ _ _ (ht _ _ _ hg)
theorem Step.opened {toks : List Tg} {p : Nat} {ns : List Tg} {ss : List Lv} {p1 : Nat} {ns1 : List Tg} {ss1 : List Lv} {q' : Nat} {ns3 : List Tg} {ss3 : List Lv} {D : Nat} (h : PartS toks p ns ss true 0 p1 ns1 ss1) (k : Step toks p1 ns1 ss1 q' ns3 ss3 D) : Step toks p ns ss q' ns3 ss3 D := by
  rcases k with ⟨hD, p', hr⟩ | k
  · exact .inl ⟨hD, p', .opened h hr⟩
  · exact .inr fun er p' ns' hg => .opened h (k _ _ _ hg)

/-- an expression's nodes without the last join, and the sign that tells it -/
def Ex.pre : Ex → List Tg
  | .mk n ks => if n.1 = 4 ∨ n.1 = 5 then nodesL ks else nodesL ks ++ [n]
def sgnOf (k : Int) : ByteArray := if k = 4 then ⟨#[124]⟩ else if k = 5 then ⟨#[38]⟩ else ⟨#[]⟩
theorem sgn_ok (k : Int) : SgnOk (sgnOf k) := by
  unfold sgnOf SgnOk
  split
  · exact .inr (.inl rfl)
  · split
    · exact .inr (.inr rfl)
    · exact .inl rfl
theorem root_two {n : Tg} (hm : mayN n = true) (h : n.1 = 4 ∨ n.1 = 5) : n = (n.1, ⟨#[]⟩, 2) := by
  obtain ⟨k, s, m⟩ := n
  unfold mayN at hm
  simp only at h hm ⊢
  rw [if_neg (by omega), if_neg (by omega), if_neg (by omega), if_pos h, Bool.and_eq_true, beq_iff_eq] at hm
  have h1 := hm.1
  rw [List.isEmpty_iff, ByteArray.toList_eq] at h1
  rw [hm.2, show s = ⟨#[]⟩ from ByteArray.ext (Array.toList_eq_nil_iff.1 h1)]
theorem pre_join {x : Ex} (hm : mayN x.root = true) : x.pre ++ joinN (sgnOf x.root.1) = x.nodes := by
  obtain ⟨n, ks⟩ := x
  simp only [Ex.root] at hm ⊢
  simp only [Ex.pre, Ex.nodes]
  by_cases h : n.1 = 4 ∨ n.1 = 5
  · rw [if_pos h]
    congr 1
    have e := root_two hm h
    rcases h with h | h
    · rw [h] at e ⊢
      rw [e]; rfl
    · rw [h] at e ⊢
      rw [e]; rfl
  · rw [if_neg h]
    have : sgnOf n.1 = ⟨#[]⟩ := by unfold sgnOf; rw [if_neg (by omega), if_neg (by omega)]
    rw [this, joinN_none, List.append_nil]

def ExprRun (x : Ex) : Prop := ∀ (toks : List Tg) (p : Nat) (ns : List Tg) (bs : List Lv) (t : Tg), At toks p x.toks → Fol toks (p + x.toks.length) →
  Step toks p ns (bs ++ [(t, ⟨#[]⟩)]) (p + x.toks.length) (ns ++ x.pre) (bs ++ [(t, sgnOf x.root.1)]) (bs.length + 1 + x.deep)
def PartRun (x : Ex) : Prop := ∀ (toks : List Tg) (p : Nat) (ns : List Tg) (ss : List Lv), 0 < ss.length → At toks p x.toks → Fol toks (p + x.toks.length) →
  Step toks p ns ss (p + x.toks.length) (ns ++ x.nodes) ss (ss.length + x.deep)
def BrackRun (x : Ex) : Prop := ∀ (toks : List Tg) (p : Nat) (ns : List Tg) (ss : List Lv), 0 < ss.length → At toks p (sgT 40 :: (x.toks ++ [sgT 41])) →
  Step toks p ns ss (p + (x.toks.length + 2)) (ns ++ x.nodes) ss (ss.length + x.deep + 1)
/-- behind an expression in brackets of some kind: what the level's node adds -/
theorem level_end {x : Ex} (hm : mayN x.root = true) {toks : List Tg} {p : Nat} {ns : List Tg} {ss : List Lv} {t : Tg} {er : Int} {p' : Nat} {ns' : List Tg} {r : List TT} (hs : 0 < ss.length) (ha : At toks p (sgT 41 :: r)) (hg : GR toks (p + 1) (ns ++ x.nodes ++ endN t) ss er p' ns') :
    GR toks p (ns ++ x.pre) (ss ++ [(t, sgnOf x.root.1)]) er p' ns' := by
  refine GR.pop (sgn_ok _) hs ha ?_
  rw [List.append_assoc ns, pre_join hm]
  exact hg
theorem brack_of {x : Ex} (hm : mayN x.root = true) (h : ExprRun x) : BrackRun x := fun toks p ns ss hs ha => by
  obtain ⟨hp, _⟩ := ha.sign
  have hg : isSg toks p ⟨#[40]⟩ = true := ha.sgIs 40
  have h41 : At toks (p + 1 + x.toks.length) (sgT 41 :: []) := ha.tail.right
  by_cases h40 : ss.length ≤ 40
  · have k := h toks (p + 1) ns ss (0, ⟨#[]⟩, 0) ha.tail.left (Fol.sign h41 (by decide))
    refine Step.opened (.brack hp hg h40) ((k.end_ fun er p' ns' hr => ?_).mono (by omega))
    refine level_end hm hs h41 ?_
    rw [show endN ((0, ⟨#[]⟩, 0) : Tg) = [] from rfl, List.append_nil]
    have e : p + 1 + x.toks.length + 1 = p + (x.toks.length + 2) := by omega
    rw [e]
    exact hr
  · exact .inl ⟨by omega, _, .err (.brackF hp hg (by omega)) (by decide)⟩
theorem deep_kid (k : Int) (ks : List Ex) (e : Ex) (he : e ∈ ks) (hb : ∀ b, inBr k e.root.1 b = true) : e.deep + 1 ≤ deepL k ks := by
  induction ks with
  | nil => cases he
  | cons f ks ih =>
    simp only [deepL]
    rcases List.mem_cons.1 he with rfl | he
    · rw [if_pos (hb _)]; exact Nat.le_max_left ..
    · exact Nat.le_trans (ih he) (Nat.le_max_right ..)
/-- the expressions of a constructor, from one on -/
theorem con_loop (nm : ByteArray) (D : Nat) : ∀ (ks : List Ex) (e : Ex) (m : Nat) (toks : List Tg) (p : Nat) (ns : List Tg) (ss : List Lv), 0 < ss.length → (∀ x ∈ e :: ks, ExprRun x ∧ mayN x.root = true ∧ ss.length + 1 + x.deep ≤ D) → m + ks.length ≤ 8 →
    At toks p (e.toks ++ conTT false (toksP ks) ++ [sgT 41]) →
    Step toks p ns (ss ++ [((3, nm, (m : Int)), ⟨#[]⟩)]) (p + (e.toks ++ conTT false (toksP ks) ++ [sgT 41]).length) (ns ++ nodesL (e :: ks) ++ [(3, nm, ((m + ks.length : Nat) : Int))]) ss D
  | [], e, m, toks, p, ns, ss, hs, hx, hm8, ha => by
    obtain ⟨h1, h2, h3⟩ := hx e (by simp)
    have ha' : At toks p (e.toks ++ [sgT 41]) := by simpa [toksP, conTT] using ha
    have h41 : At toks (p + e.toks.length) (sgT 41 :: []) := ha'.right
    have k := (h1 toks p ns ss (3, nm, (m : Int)) ha'.left (Fol.sign h41 (by decide))).mono h3
    refine k.end_ fun er p' ns' hr => level_end h2 hs h41 ?_
    have e1 : p + (e.toks ++ conTT false (toksP []) ++ [sgT 41]).length = p + e.toks.length + 1 := by simp [toksP, conTT]; omega
    rw [e1] at hr
    rw [show endN ((3, nm, (m : Int)) : Tg) = [(3, nm, (m : Int))] from rfl]
    simpa [nodesL] using hr
  | f :: ks, e, m, toks, p, ns, ss, hs, hx, hm8, ha => by
    obtain ⟨h1, h2, h3⟩ := hx e (by simp)
    have ha' : At toks p (e.toks ++ sgT 44 :: (f.toks ++ conTT false (toksP ks) ++ [sgT 41])) := by simpa [toksP, conTT] using ha
    have h44 : At toks (p + e.toks.length) (sgT 44 :: (f.toks ++ conTT false (toksP ks) ++ [sgT 41])) := ha'.right
    have k := (h1 toks p ns ss (3, nm, (m : Int)) ha'.left (Fol.sign h44 (by decide))).mono h3
    have ih := con_loop nm D ks f (m + 1) toks (p + e.toks.length + 1) (ns ++ e.nodes) ss hs (fun x hx' => hx x (List.mem_cons_of_mem _ hx')) (by simp at hm8; omega) h44.tail
    have st := k.then_ (fun er p' ns' hr => GR.comma (sgn_ok _) hs (by simp at hm8; omega) h44 (by rw [List.append_assoc ns, pre_join h2]; exact hr)) ih
    have e1 : p + (e.toks ++ conTT false (toksP (f :: ks)) ++ [sgT 41]).length = p + e.toks.length + 1 + (f.toks ++ conTT false (toksP ks) ++ [sgT 41]).length := by simp [toksP, conTT]; omega
    have e2 : ns ++ nodesL (e :: f :: ks) ++ [((3 : Int), nm, ((m + (f :: ks).length : Nat) : Int))] = ns ++ e.nodes ++ nodesL (f :: ks) ++ [(3, nm, ((m + 1 + ks.length : Nat) : Int))] := by
      have : m + (f :: ks).length = m + 1 + ks.length := by simp; omega
      rw [this]
      simp [nodesL]
    rw [e1, e2]
    exact st
end Go.Proofs.YtmbdbmjnibfmgaaDoor.Ex

namespace Go.Proofs.YtmbdbmjnibfmgaaDoor.Ex
open Go.RowKit Kit Rw
open Go.Proofs.YtmbdbmjnibfmgaaDoor.Nm

theorem numOf_fig (m : Nat) (h1 : 1 ≤ m) (h8 : m ≤ 8) : Lx.numOf [figD m] = some m := by
  have : m = 1 ∨ m = 2 ∨ m = 3 ∨ m = 4 ∨ m = 5 ∨ m = 6 ∨ m = 7 ∨ m = 8 := by omega
  rcases this with rfl | rfl | rfl | rfl | rfl | rfl | rfl | rfl <;> decide
theorem con_names {n : Tg} (hm : mayN n = true) (h : n.1 = 3 ∨ n.1 = 6) : nameB 97 122 (nm n) = true := by
  unfold mayN at hm
  rcases h with h | h
  · rw [if_neg (by omega), if_neg (by omega), if_pos h, Bool.and_eq_true] at hm; exact hm.1
  · rw [if_neg (by omega), if_neg (by omega), if_neg (by omega), if_neg (by omega), if_pos h, Bool.and_eq_true] at hm; exact hm.1
theorem not_var {l : List UInt8} (h : nameB 97 122 l = true) : nameB 65 90 l = false := by
  cases l with
  | nil => cases h
  | cons c r =>
    simp only [nameB, Bool.and_eq_true, decide_eq_true_eq, inB] at h
    have : inB 65 90 c.toNat = false := by
      rw [Bool.eq_false_iff]
      simp only [inB, ne_eq, Bool.and_eq_true, decide_eq_true_eq]
      omega
    simp only [nameB, this, Bool.and_false, Bool.false_and]
theorem conT_of {toks : List Tg} {p : Nat} {n : Tg} {r : List TT} (hm : mayN n = true) (h : n.1 = 3 ∨ n.1 = 6) (ha : At toks p ((1, nm n) :: r)) : ∃ hp : p < toks.length, ConT toks[p] n.2.1 := by
  obtain ⟨hp, h1, h2⟩ := ha.head
  have hc := con_names hm h
  refine ⟨hp, h1, ?_, hc, not_var hc⟩
  rw [h2]
  exact bs_back _
theorem con_node {n : Tg} {m : Nat} (h : n.1 = 3) (hn : n.2.2 = (m : Int)) : n = (3, n.2.1, (m : Int)) := by
  obtain ⟨k, s, q⟩ := n
  simp only at h hn
  rw [h, hn]
theorem np_con {n : Tg} (hm : mayN n = true) (h : n.1 = 3) : n.2.2 = (np n : Int) ∧ np n ≤ 8 := by
  obtain ⟨h1, h2⟩ := parts_nat hm
  refine ⟨?_, h2⟩
  rw [← h1]
  unfold partsN
  rw [if_neg (by omega)]
theorem inBr_con (pk : Int) (b : Bool) {k : Int} (h : k = 3 ∨ k = 6) : inBr k pk b = true := by unfold inBr; rw [if_pos h]
/-- a part that is no join -/
theorem part_step (n : Tg) (ks : List Ex) (hm : mayN n = true) (hk : ks.length = np n) (h45 : ¬ (n.1 = 4 ∨ n.1 = 5)) (hks : ∀ e ∈ ks, ExprRun e ∧ mayN e.root = true) : PartRun (.mk n ks) := fun toks p ns ss hs ha hf => by
  have hkinds := may_kinds hm
  simp only [Ex.toks, txtT] at ha hf ⊢
  simp only [Ex.nodes, Ex.deep]
  have leaf : ∀ t : TT, t.1 ≠ 3 → ks = [] → At toks p [t] → (∀ hp : p < toks.length, toks[p].1 = (t.1 : Int) ∧ toks[p].2.1 = bs t.2 → LeafT toks[p] n) → Step toks p ns ss (p + 1) (ns ++ (nodesL ks ++ [n])) ss (ss.length + deepL n.1 ks) := fun t ht hk0 ha1 hl => by
    obtain ⟨hp, h1, h2⟩ := ha1.head
    subst hk0
    exact .inr fun er p' ns' hg => GR.run (.leaf hp (hl hp ⟨h1, h2⟩) (ha1.noSg ht _)) (by simpa [nodesL] using hg)
  have none : np n = 0 → ks = [] := fun h => List.eq_nil_of_length_eq_zero (by omega)
  by_cases h0 : n.1 = 0
  · rw [if_pos h0] at ha hf ⊢
    have hn : n = (0, ⟨#[]⟩, 0) := by
      obtain ⟨k, s, q⟩ := n
      simp only at h0
      subst h0
      unfold mayN at hm
      simp only [if_pos, Bool.and_eq_true, beq_iff_eq, true_or] at hm
      rw [List.isEmpty_iff, ByteArray.toList_eq] at hm
      rw [hm.2, show s = ⟨#[]⟩ from ByteArray.ext (Array.toList_eq_nil_iff.1 hm.1)]
    refine leaf _ (by decide) (none (by rw [hn]; rfl)) ha fun hp hh => .inl ⟨hh.1, hh.2, hn⟩
  rw [if_neg h0] at ha hf ⊢
  by_cases h1 : n.1 = 1
  · rw [if_pos h1] at ha hf ⊢
    have hn : n = (1, ⟨#[]⟩, 0) := by
      obtain ⟨k, s, q⟩ := n
      simp only at h1
      subst h1
      unfold mayN at hm
      simp only [or_true, if_true, Bool.and_eq_true, beq_iff_eq] at hm
      rw [List.isEmpty_iff, ByteArray.toList_eq] at hm
      rw [hm.2, show s = ⟨#[]⟩ from ByteArray.ext (Array.toList_eq_nil_iff.1 hm.1)]
    refine leaf _ (by decide) (none (by rw [hn]; rfl)) ha fun hp hh => .inr (.inl ⟨hh.1, hh.2, hn⟩)
  rw [if_neg h1] at ha hf ⊢
  by_cases h3 : n.1 = 3
  · rw [if_pos h3] at ha hf ⊢
    obtain ⟨hp, hc⟩ := conT_of hm (.inl h3) ha
    have hg : isSg toks p ⟨#[40]⟩ = false := ha.noSg (show (1 : Nat) ≠ 3 by decide) _
    obtain ⟨hn2, hn8⟩ := np_con hm h3
    cases ks with
    | nil =>
      simp only [toksP, conTT, if_true, List.append_nil] at ha hf ⊢
      have hz : np n = 0 := by simpa using hk.symm
      have hn : n = (3, n.2.1, 0) := con_node (m := 0) h3 (by rw [hn2, hz])
      refine .inr fun er p' ns' hr => GR.run (.con hp hc hg hf.1 hf.2) ?_
      rw [← hn]
      simpa [nodesL] using hr
    | cons e ks =>
      rw [if_neg (by simp [toksP])] at ha hf ⊢
      have ha' : At toks p ((1, nm n) :: sgT 40 :: (e.toks ++ conTT false (toksP ks) ++ [sgT 41])) := by simpa [toksP, conTT] using ha
      have h40 := ha'.tail
      obtain ⟨hp1, _⟩ := h40.sign
      have hg1 : isSg toks (p + 1) ⟨#[40]⟩ = true := h40.sgIs 40
      have hel : p + ((1, nm n) :: (conTT true (toksP (e :: ks)) ++ [sgT 41])).length = p + 2 + (e.toks ++ conTT false (toksP ks) ++ [sgT 41]).length := by simp [toksP, conTT]; omega
      have hlen : ks.length + 1 = np n := by simpa using hk
      by_cases h40' : ss.length ≤ 40
      · have k := con_loop n.2.1 (ss.length + deepL n.1 (e :: ks)) ks e 1 toks (p + 2) ns ss hs (fun x hx => by
          obtain ⟨x1, x2⟩ := hks x hx
          have := deep_kid n.1 (e :: ks) x hx (fun b => inBr_con _ b (.inl h3))
          exact ⟨x1, x2, by omega⟩) (by omega) h40.tail
        rw [hel]
        have hnode : n = (3, n.2.1, ((1 + ks.length : Nat) : Int)) := con_node h3 (by rw [hn2, ← hlen, Nat.add_comm])
        refine Step.opened (.call hp1 hc hg hg1 h40') ?_
        rw [← hnode, List.append_assoc ns] at k
        exact k
      · refine .inl ⟨?_, _, .err (.callF hp1 hc hg hg1 (by omega)) (by decide)⟩
        have := deep_kid n.1 (e :: ks) e (by simp) (fun b => inBr_con _ b (.inl h3))
        omega
  rw [if_neg h3] at ha hf ⊢
  rw [if_neg (by omega), if_neg (by omega)] at ha hf ⊢
  by_cases h6 : n.1 = 6
  · rw [if_pos h6] at ha hf ⊢
    obtain ⟨hnp, m, hm1, hm2, hm3⟩ := np_proj hm h6
    rw [hnp] at hk
    obtain ⟨e, rfl⟩ : ∃ e, ks = [e] := by
      match ks, hk with
      | [e], _ => exact ⟨e, rfl⟩
    · obtain ⟨x1, x2⟩ := hks e (by simp)
      rw [hm1, Int.toNat_natCast] at ha hf ⊢
      have ha' : At toks p ((1, nm n) :: sgT 126 :: (2, [figD m]) :: sgT 40 :: (e.toks ++ [sgT 41])) := ha
      obtain ⟨hp, hc⟩ := conT_of hm (.inr h6) ha'
      have hg : isSg toks p ⟨#[40]⟩ = false := ha'.noSg (show (1 : Nat) ≠ 3 by decide) _
      have a1 := ha'.tail
      have a2 := a1.tail
      have a3 := a2.tail
      have hg1 : isSg toks (p + 1) ⟨#[40]⟩ = false := a1.sgIs 40
      have hg2 : isSg toks (p + 1) ⟨#[126]⟩ = true := a1.sgIs 126
      have hg3 : isSg toks (p + 3) ⟨#[40]⟩ = true := a3.sgIs 40
      obtain ⟨hp2, k1, k2⟩ := a2.head
      obtain ⟨hp3, _⟩ := a3.sign
      have hnum : NumT (toks[p + 2]'hp2) m := by
        refine ⟨k1, ?_, ?_, hm2, hm3⟩
        · rw [k2, bs_size]; simp
        · rw [k2, bs_list]; exact numOf_fig m hm2 hm3
      have hdk := deep_kid n.1 [e] e (by simp) (fun b => inBr_con _ b (.inr h6))
      have hnode : n = (6, n.2.1, (m : Int)) := by
        obtain ⟨k, s, q⟩ := n
        simp only at h6 hm1
        rw [h6, hm1]
      have h41 : At toks (p + 4 + e.toks.length) (sgT 41 :: []) := a3.tail.right
      have hel : p + ((1, nm n) :: sgT 126 :: (2, [figD m]) :: sgT 40 :: ((nthT (toksP [e]) 0).2 ++ [sgT 41])).length = p + 4 + e.toks.length + 1 := by
        show p + ((1, nm n) :: sgT 126 :: (2, [figD m]) :: sgT 40 :: (e.toks ++ [sgT 41])).length = _
        simp; omega
      by_cases h40' : ss.length ≤ 40
      · have k := (x1 toks (p + 4) ns ss (6, n.2.1, (m : Int)) a3.tail.left (Fol.sign h41 (by decide))).mono (show ss.length + 1 + e.deep ≤ ss.length + deepL n.1 [e] by omega)
        rw [hel]
        refine Step.opened (.proj hp3 hc hg hg1 hg2 hnum hg3 h40') (k.end_ fun er p' ns' hr => level_end x2 hs h41 ?_)
        rw [show endN ((6, n.2.1, (m : Int)) : Tg) = [(6, n.2.1, (m : Int))] from rfl, ← hnode]
        simpa [nodesL] using hr
      · exact .inl ⟨by omega, _, .err (.projF hp3 hc hg hg1 hg2 hnum hg3 (by omega)) (by decide)⟩
  · rw [if_neg h6] at ha hf ⊢
    have h2 : n.1 = 2 := by omega
    have hv : nameB 65 90 (nm n) = true ∧ n.2.2 = 0 := by
      unfold mayN at hm
      rw [if_neg (by omega), if_pos h2, Bool.and_eq_true, beq_iff_eq] at hm
      exact hm
    refine leaf _ (show (1 : Nat) ≠ 3 by decide) (none (by unfold np partsN; rw [if_neg h6, hv.2]; rfl)) ha fun hp hh => .inr (.inr ⟨hh.1, ?_, ?_⟩)
    · rw [hh.2, bs_list]; exact hv.1
    · rw [hh.2]
      have : bs (nm n) = n.2.1 := bs_back _
      rw [this]
      obtain ⟨k, s, q⟩ := n
      simp only at h2 hv
      rw [h2, hv.2]
theorem part_expr {x : Ex} (h45 : ¬ (x.root.1 = 4 ∨ x.root.1 = 5)) (h : PartRun x) : ExprRun x := fun toks p ns bs t ha hf => by
  have k := h toks p ns (bs ++ [(t, ⟨#[]⟩)]) (by simp) ha hf
  have e1 : x.pre = x.nodes := by
    obtain ⟨n, ks⟩ := x
    exact if_neg h45
  have e2 : sgnOf x.root.1 = ⟨#[]⟩ := by unfold sgnOf; rw [if_neg (by omega), if_neg (by omega)]
  rw [e1, e2]
  have e3 : (bs ++ [(t, (⟨#[]⟩ : ByteArray))]).length = bs.length + 1 := by simp
  rw [e3] at k
  exact k
end Go.Proofs.YtmbdbmjnibfmgaaDoor.Ex
