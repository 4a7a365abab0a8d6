/-
  Contract of Read: what the reader's steps, one by one, come to.
-/
import Derived.Test.YtmbdbmjnibfmgaaDoorExprM
import Derived.Test.YtmbdbmjnibfmgaaDoorExprO
namespace Go.Proofs.YtmbdbmjnibfmgaaDoor.Ex
open Go.RowKit Kit Rw
open Go.Proofs.YtmbdbmjnibfmgaaDoor.Nm

/-- a token that is a part by itself -/
def LeafT (t : Tg) (n : Tg) : Prop :=
  (t.1 = 2 ∧ t.2.1 = ⟨#[48]⟩ ∧ n = (0, ⟨#[]⟩, 0)) ∨ (t.1 = 2 ∧ t.2.1 = ⟨#[49]⟩ ∧ n = (1, ⟨#[]⟩, 0)) ∨ (t.1 = 1 ∧ nameB 65 90 t.2.1.data.toList = true ∧ n = (2, t.2.1, 0))
/-- a token that is a constructor's name -/
def ConT (t : Tg) (nm : ByteArray) : Prop := t.1 = 1 ∧ t.2.1 = nm ∧ nameB 97 122 nm.data.toList = true ∧ nameB 65 90 nm.data.toList = false
/-- a token that is a number of a part -/
def NumT (t : Tg) (n : Nat) : Prop := t.1 = 2 ∧ t.2.1.size ≤ 1000000 ∧ Lx.numOf t.2.1.data.toList = some n ∧ 1 ≤ n ∧ n ≤ 8
/-- what part comes to -/
inductive PartS (toks : List Tg) : Nat → List Tg → List Lv → Bool → Int → Nat → List Tg → List Lv → Prop where
  | over {p ns ss} (hp : p = toks.length) : PartS toks p ns ss false 2 p ns ss
  | leaf {p ns ss n} (hp : p < toks.length) (h : LeafT toks[p] n) (hg : isSg toks p ⟨#[40]⟩ = false) : PartS toks p ns ss false 0 (p + 1) (ns ++ [n]) ss
  | con {p ns ss nm} (hp : p < toks.length) (h : ConT toks[p] nm) (hg : isSg toks p ⟨#[40]⟩ = false) (h1 : isSg toks (p + 1) ⟨#[40]⟩ = false) (h2 : isSg toks (p + 1) ⟨#[126]⟩ = false) : PartS toks p ns ss false 0 (p + 1) (ns ++ [(3, nm, 0)]) ss
  | brack {p ns ss} (hp : p < toks.length) (hg : isSg toks p ⟨#[40]⟩ = true) (hs : ss.length ≤ 40) : PartS toks p ns ss true 0 (p + 1) ns (ss ++ [((0, ⟨#[]⟩, 0), ⟨#[]⟩)])
  | brackF {p ns ss} (hp : p < toks.length) (hg : isSg toks p ⟨#[40]⟩ = true) (hs : 40 < ss.length) : PartS toks p ns ss false 7 p ns ss
  | call {p ns ss nm} (hp : p + 1 < toks.length) (h : ConT (toks[p]'(by omega)) nm) (hg : isSg toks p ⟨#[40]⟩ = false) (h1 : isSg toks (p + 1) ⟨#[40]⟩ = true) (hs : ss.length ≤ 40) : PartS toks p ns ss true 0 (p + 2) ns (ss ++ [((3, nm, 1), ⟨#[]⟩)])
  | callF {p ns ss nm} (hp : p + 1 < toks.length) (h : ConT (toks[p]'(by omega)) nm) (hg : isSg toks p ⟨#[40]⟩ = false) (h1 : isSg toks (p + 1) ⟨#[40]⟩ = true) (hs : 40 < ss.length) : PartS toks p ns ss false 7 (p + 1) ns ss
  | proj {p ns ss nm} {n : Nat} (hp : p + 3 < toks.length) (h : ConT (toks[p]'(by omega)) nm) (hg : isSg toks p ⟨#[40]⟩ = false) (h1 : isSg toks (p + 1) ⟨#[40]⟩ = false) (h2 : isSg toks (p + 1) ⟨#[126]⟩ = true) (h3 : NumT (toks[p + 2]'(by omega)) n) (h4 : isSg toks (p + 3) ⟨#[40]⟩ = true) (hs : ss.length ≤ 40) :
      PartS toks p ns ss true 0 (p + 4) ns (ss ++ [((6, nm, (n : Int)), ⟨#[]⟩)])
  | projF {p ns ss nm} {n : Nat} (hp : p + 3 < toks.length) (h : ConT (toks[p]'(by omega)) nm) (hg : isSg toks p ⟨#[40]⟩ = false) (h1 : isSg toks (p + 1) ⟨#[40]⟩ = false) (h2 : isSg toks (p + 1) ⟨#[126]⟩ = true) (h3 : NumT (toks[p + 2]'(by omega)) n) (h4 : isSg toks (p + 3) ⟨#[40]⟩ = true) (hs : 40 < ss.length) :
      PartS toks p ns ss false 7 (p + 3) ns ss
theorem PartS.on {toks : List Tg} {p : Nat} {ns : List Tg} {ss : List Lv} {b : Bool} {p' : Nat} {ns' : List Tg} {ss' : List Lv} (h : PartS toks p ns ss b 0 p' ns' ss') : p < p' ∧ p' ≤ toks.length := by
  cases h <;> omega
theorem PartS.grow {toks : List Tg} {p : Nat} {ns : List Tg} {ss : List Lv} {b : Bool} {er : Int} {p' : Nat} {ns' : List Tg} {ss' : List Lv} (h : PartS toks p ns ss b er p' ns' ss') : ns.length ≤ ns'.length ∧ ss'.length ≤ ss.length + 1 ∧ ss.length ≤ ss'.length ∧ (ss.length ≤ 41 → ss'.length ≤ 41) := by
  cases h <;> simp <;> omega

theorem part_any (W0 w : World) (B : Nat) (A : Option Addr) (c : Nat) (toks : List Tg) (p : Nat) (ns : List Tg) (ss : List Lv) (v u : Value) (b : Bool) (er : Int) (p' : Nat) (ns' : List Tg) (ss' : List Lv) (h : RS W0 w B A c toks p ns ss v u) (hP : PartS toks p ns ss b er p' ns' ss')
    (hs0 : 0 < ss.length) (hl : toks.length ≤ 100000) (hn : ns.length ≤ 100000) :
    Calls Tryd.prog 24 #[.pointer (some ⟨B, 0, none⟩)] w fun e w' => e = .returned (.tuple #[.bool b, .int .i64 er]) ∧ ∃ v' u', RS W0 w' B A c toks p' ns' ss' v' u' := by
  have fin : ∀ {t : Tg} {q : Nat} {b er} {w' : World}, OpenR W0 B A c toks q ns ss v t b er w' → (ss.length ≤ 40 → b = true ∧ er = 0 ∧ ∃ v' u', RS W0 w' B A c toks (q + 1) ns (ss ++ [(t, ⟨#[]⟩)]) v' u') ∧ (40 < ss.length → b = false ∧ er = 7 ∧ ∃ v' u', RS W0 w' B A c toks q ns ss v' u') := by
    intro t q b er w' hR
    rcases hR with ⟨h1, h2, h3, u', h4⟩ | ⟨h1, h2, h3, u', h4⟩
    · exact ⟨fun _ => ⟨h2, h3, v, u', h4⟩, fun h => by omega⟩
    · exact ⟨fun h => by omega, fun _ => ⟨h2, h3, v, u', h4⟩⟩
  cases hP with
  | over hp =>
    subst hp
    refine (part_over W0 w B A c toks ns ss v u h).mono ?_
    rintro e w' ⟨rfl, h⟩
    exact ⟨rfl, _, _, h⟩
  | leaf hp ht hg =>
    rcases ht with ⟨k1, k2, rfl⟩ | ⟨k1, k2, rfl⟩ | ⟨k1, k2, rfl⟩
    · refine (part_zero W0 w B A c toks p ns ss v u h hp hg k1 k2 (by omega) hl).mono ?_
      rintro e w' ⟨rfl, v', h⟩
      exact ⟨rfl, _, _, h⟩
    · refine (part_one W0 w B A c toks p ns ss v u h hp hg k1 k2 (by omega) hl).mono ?_
      rintro e w' ⟨rfl, v', h⟩
      exact ⟨rfl, _, _, h⟩
    · refine (part_var W0 w B A c toks p ns ss v u h hp hg _ k1 rfl k2 (by omega) hl).mono ?_
      rintro e w' ⟨rfl, v', h⟩
      exact ⟨rfl, _, _, h⟩
  | @con nm hp ht hg h1 h2 =>
    obtain ⟨k1, k2, k3, k4⟩ := ht
    refine (part_con W0 w B A c toks p ns ss v u h hp hg nm k1 k2 k4 k3 (fun b er w' => b = false ∧ er = 0 ∧ ∃ v', RS W0 w' B A c toks (p + 1) (ns ++ [(3, nm, 0)]) ss v' u) (fun W hW => (con_leaf W0 W B A c toks p ns ss v u nm hW h1 h2 (by omega) (by omega)).mono ?_)).mono ?_
    · rintro e w' ⟨rfl, h⟩
      exact ⟨_, _, rfl, rfl, rfl, h⟩
    · rintro e w' ⟨b, er, rfl, rfl, rfl, v', h⟩
      exact ⟨rfl, _, _, h⟩
  | brack hp hg hs =>
    refine (part_brack W0 w B A c toks p ns ss v u h hp hg hs0 hl).mono ?_
    rintro e w' ⟨b, er, rfl, hR⟩
    obtain ⟨rfl, rfl, h⟩ := (fin hR).1 hs
    exact ⟨rfl, h⟩
  | brackF hp hg hs =>
    refine (part_brack W0 w B A c toks p ns ss v u h hp hg hs0 hl).mono ?_
    rintro e w' ⟨b, er, rfl, hR⟩
    obtain ⟨rfl, rfl, h⟩ := (fin hR).2 hs
    exact ⟨rfl, h⟩
  | @call nm hp ht hg h1 hs =>
    obtain ⟨k1, k2, k3, k4⟩ := ht
    refine (part_con W0 w B A c toks p ns ss v u h (by omega) hg nm k1 k2 k4 k3 (OpenR W0 B A c toks (p + 1) ns ss v (3, nm, 1)) (fun W hW => con_open W0 W B A c toks p ns ss v u nm hW h1 hs0 (by omega))).mono ?_
    rintro e w' ⟨b, er, rfl, hR⟩
    obtain ⟨rfl, rfl, h⟩ := (fin hR).1 hs
    exact ⟨rfl, h⟩
  | @callF nm hp ht hg h1 hs =>
    obtain ⟨k1, k2, k3, k4⟩ := ht
    refine (part_con W0 w B A c toks p ns ss v u h (by omega) hg nm k1 k2 k4 k3 (OpenR W0 B A c toks (p + 1) ns ss v (3, nm, 1)) (fun W hW => con_open W0 W B A c toks p ns ss v u nm hW h1 hs0 (by omega))).mono ?_
    rintro e w' ⟨b, er, rfl, hR⟩
    obtain ⟨rfl, rfl, h⟩ := (fin hR).2 hs
    exact ⟨rfl, h⟩
  | @proj nm n hp ht hg h1 h2 h3 h4 hs =>
    obtain ⟨k1, k2, k3, k4⟩ := ht
    obtain ⟨n1, n2, n3, n4, n5⟩ := h3
    refine (part_con W0 w B A c toks p ns ss v u h (by omega) hg nm k1 k2 k4 k3 (OpenR W0 B A c toks (p + 3) ns ss v (6, nm, (n : Int))) (fun W hW => con_proj W0 W B A c toks p ns ss v u nm _ n hW h1 h2 (by omega) n1 rfl n2 n3 n4 n5 h4 hs0 hl)).mono ?_
    rintro e w' ⟨b, er, rfl, hR⟩
    obtain ⟨rfl, rfl, h⟩ := (fin hR).1 hs
    exact ⟨rfl, h⟩
  | @projF nm n hp ht hg h1 h2 h3 h4 hs =>
    obtain ⟨k1, k2, k3, k4⟩ := ht
    obtain ⟨n1, n2, n3, n4, n5⟩ := h3
    refine (part_con W0 w B A c toks p ns ss v u h (by omega) hg nm k1 k2 k4 k3 (OpenR W0 B A c toks (p + 3) ns ss v (6, nm, (n : Int))) (fun W hW => con_proj W0 W B A c toks p ns ss v u nm _ n hW h1 h2 (by omega) n1 rfl n2 n3 n4 n5 h4 hs0 hl)).mono ?_
    rintro e w' ⟨b, er, rfl, hR⟩
    obtain ⟨rfl, rfl, h⟩ := (fin hR).2 hs
    exact ⟨rfl, h⟩

/-- what Read comes to: why it stopped (0: it didn't), where, and the nodes -/
inductive RunP (toks : List Tg) : Nat → List Tg → List Lv → Int → Nat → List Tg → Prop where
  | err {p ns ss er p' ns' ss'} (h : PartS toks p ns ss false er p' ns' ss') (he : er ≠ 0) : RunP toks p ns ss er p' []
  | opened {p ns ss p1 ns1 ss1 er p' ns'} (h : PartS toks p ns ss true 0 p1 ns1 ss1) (hr : RunP toks p1 ns1 ss1 er p' ns') : RunP toks p ns ss er p' ns'
  | more {p ns ss p1 ns1 ss1 p2 ns2 ss2 er p' ns'} (h : PartS toks p ns ss false 0 p1 ns1 ss1) (hg : GoOn toks p1 ns1 ss1 true p2 ns2 ss2) (hr : RunP toks p2 ns2 ss2 er p' ns') : RunP toks p ns ss er p' ns'
  | done {p ns ss p1 ns1 ss1 p2 ns2 ss2} (h : PartS toks p ns ss false 0 p1 ns1 ss1) (hg : GoOn toks p1 ns1 ss1 false p2 ns2 ss2) : RunP toks p ns ss 0 p2 ns2
theorem GoOn.places {toks : List Tg} {p : Nat} {ns : List Tg} {ss : List Lv} {b : Bool} {p' : Nat} {ns' : List Tg} {ss' : List Lv} (h : GoOn toks p ns ss b p' ns' ss') (hp : p ≤ toks.length) : p ≤ p' ∧ p' ≤ toks.length ∧ 0 < ss'.length ∧ ss'.length ≤ ss.length ∧ ns'.length ≤ ns.length + 2 * (p' - p) + 1 := by
  have hj : ∀ s, (joinN s).length ≤ 1 := fun s => by unfold joinN; split; exact Nat.le_refl _; split; exact Nat.le_refl _; exact Nat.zero_le _
  have he : ∀ t, (endN t).length ≤ 1 := fun t => by unfold endN; split; exact Nat.le_refl _; exact Nat.zero_le _
  induction h with
  | @bar p ns bs t s hs hq h => have := hj s; simp only [List.length_append, List.length_cons, List.length_nil]; omega
  | @amp p ns bs t s hs hq h => have := hj s; simp only [List.length_append, List.length_cons, List.length_nil]; omega
  | @stop p ns t s hs hq => have := hj s; simp only [List.length_append, List.length_cons, List.length_nil]; omega
  | @comma p ns bs nm s m hs hb hm hq h => have := hj s; simp only [List.length_append, List.length_cons, List.length_nil]; omega
  | @pop p ns bs t s b p' ns' ss' hs hb hq h hg ih =>
    have := hj s
    have := he t
    have := ih (by omega)
    simp only [List.length_append, List.length_cons, List.length_nil] at this ⊢
    omega
end Go.Proofs.YtmbdbmjnibfmgaaDoor.Ex
