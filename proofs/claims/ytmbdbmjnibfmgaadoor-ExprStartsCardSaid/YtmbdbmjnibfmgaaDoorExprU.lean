/-
  Plain: joins; whole texts, in brackets, and two with a sign between; how deep a right row's text is.
-/
import Derived.Test.YtmbdbmjnibfmgaaDoorExprT
namespace Go.Proofs.YtmbdbmjnibfmgaaDoor.Ex
open Go.RowKit Kit Rw
open Go.Proofs.YtmbdbmjnibfmgaaDoor.Nm

def JoinTok (c : UInt8) (k : Int) : Prop := (c = 124 ∧ k = 4) ∨ (c = 38 ∧ k = 5)
theorem join_tok {c : UInt8} {k : Int} (hj : JoinTok c k) : sgnOf k = ⟨#[c]⟩ := by
  rcases hj with ⟨rfl, rfl⟩ | ⟨rfl, rfl⟩ <;> rfl
theorem join_gr {c : UInt8} {k : Int} (hj : JoinTok c k) {toks : List Tg} {p : Nat} {ns : List Tg} {bs : List Lv} {t : Tg} {s : ByteArray} {er : Int} {p' : Nat} {ns' : List Tg} {r : List TT} (hs : s = ⟨#[]⟩ ∨ s = sgnOf k) (ha : At toks p (sgT c :: r)) (hg : RunP toks (p + 1) (ns ++ joinN s) (bs ++ [(t, sgnOf k)]) er p' ns') :
    GR toks p ns (bs ++ [(t, s)]) er p' ns' := by
  rcases hj with ⟨rfl, rfl⟩ | ⟨rfl, rfl⟩
  · exact GR.bar hs ha hg
  · exact GR.amp hs ha hg
theorem join_step {c : UInt8} {k : Int} (hj : JoinTok c k) (n : Tg) (a b : Ex) (hn : n.1 = k) (hma : mayN a.root = true) (hmb : mayN b.root = true) (ha1 : ExprRun a) (hb1 : ExprRun b) (hb2 : ¬ (b.root.1 = 4 ∨ b.root.1 = 5) → PartRun b)
    (hx : (Ex.mk n [a, b]).toks = sideT k true (a.root.1, a.toks) ++ sgT c :: sideT k false (b.root.1, b.toks)) : ExprRun (.mk n [a, b]) := fun toks p ns bs t ha hf => by
  have hk45 : k = 4 ∨ k = 5 := by rcases hj with ⟨_, h⟩ | ⟨_, h⟩; exact .inl h; exact .inr h
  have hk36 : ¬ (k = 3 ∨ k = 6) := by omega
  have hc : c ≠ 40 ∧ c ≠ 126 := by rcases hj with ⟨rfl, _⟩ | ⟨rfl, _⟩ <;> decide
  rw [hx] at ha hf ⊢
  have hsgn : sgnOf (Ex.mk n [a, b]).root.1 = sgnOf k := by show sgnOf n.1 = _; rw [hn]
  have hpre : (Ex.mk n [a, b]).pre = a.nodes ++ b.nodes := by
    have h : n.1 = 4 ∨ n.1 = 5 := by rw [hn]; exact hk45
    simp only [Ex.pre]
    rw [if_pos h]
    simp [nodesL]
  have hdeep : (Ex.mk n [a, b]).deep = max (a.deep + (if inBr k a.root.1 false = true then 1 else 0)) (b.deep + (if inBr k b.root.1 true = true then 1 else 0)) := by
    simp only [Ex.deep, deepL, hn, List.isEmpty_cons, List.isEmpty_nil]
    omega
  rw [hsgn, hpre, hdeep]
  have hbs : (bs ++ [(t, (⟨#[]⟩ : ByteArray))]).length = bs.length + 1 := by simp
  have hbs2 : (bs ++ [(t, sgnOf k)]).length = bs.length + 1 := by simp
  have hmid : At toks (p + (sideT k true (a.root.1, a.toks)).length) (sgT c :: sideT k false (b.root.1, b.toks)) := ha.right
  -- the second part
  have second : Step toks (p + (sideT k true (a.root.1, a.toks)).length + 1) (ns ++ a.nodes) (bs ++ [(t, sgnOf k)]) (p + (sideT k true (a.root.1, a.toks) ++ sgT c :: sideT k false (b.root.1, b.toks)).length) (ns ++ (a.nodes ++ b.nodes)) (bs ++ [(t, sgnOf k)])
      (bs.length + 1 + max (a.deep + (if inBr k a.root.1 false = true then 1 else 0)) (b.deep + (if inBr k b.root.1 true = true then 1 else 0))) := by
    have hat := hmid.tail
    have hel : p + (sideT k true (a.root.1, a.toks) ++ sgT c :: sideT k false (b.root.1, b.toks)).length = p + (sideT k true (a.root.1, a.toks)).length + 1 + (sideT k false (b.root.1, b.toks)).length := by simp; omega
    rw [hel] at hf ⊢
    rw [← List.append_assoc]
    by_cases h45 : b.root.1 = 4 ∨ b.root.1 = 5
    · have hi : inBr k b.root.1 true = true := by unfold inBr; rw [if_neg hk36, if_pos h45]; rfl
      have hs : sideT k false (b.root.1, b.toks) = sgT 40 :: (b.toks ++ [sgT 41]) := by unfold sideT; rw [if_pos ⟨h45, .inl rfl⟩]
      rw [hs] at hat ⊢
      have st := brack_of hmb hb1 toks _ (ns ++ a.nodes) (bs ++ [(t, sgnOf k)]) (by simp) hat
      have e : (sgT 40 :: (b.toks ++ [sgT 41])).length = b.toks.length + 2 := by simp
      rw [e]
      refine st.mono ?_
      rw [hbs2, if_pos hi]
      omega
    · have hs : sideT k false (b.root.1, b.toks) = b.toks := by unfold sideT; rw [if_neg (fun h => h45 h.1)]
      rw [hs] at hat hf ⊢
      refine (hb2 h45 toks _ (ns ++ a.nodes) (bs ++ [(t, sgnOf k)]) (by simp) hat hf).mono ?_
      rw [hbs2]
      omega
  -- the first part, and the sign
  by_cases h5 : (a.root.1 = 4 ∨ a.root.1 = 5) ∧ a.root.1 ≠ k
  · have hs : sideT k true (a.root.1, a.toks) = sgT 40 :: (a.toks ++ [sgT 41]) := by unfold sideT; rw [if_pos ⟨h5.1, .inr h5.2⟩]
    have hi : inBr k a.root.1 false = true := by unfold inBr; rw [if_neg hk36, if_pos h5.1]; simpa using h5.2
    have hat := ha.left
    rw [hs] at hat
    have st := brack_of hma ha1 toks p ns (bs ++ [(t, ⟨#[]⟩)]) (by simp) hat
    have e : (sideT k true (a.root.1, a.toks)).length = a.toks.length + 2 := by rw [hs]; simp
    rw [← e] at st
    refine (st.mono ?_).then_ (fun er p' ns' hr => join_gr hj (.inl rfl) hmid ?_) second
    · rw [hbs, if_pos hi]; omega
    · rw [joinN_none, List.append_nil]; exact hr
  · have hs : sideT k true (a.root.1, a.toks) = a.toks := by unfold sideT; rw [if_neg (fun h => h5 ⟨h.1, h.2.resolve_left (by decide)⟩)]
    have hat := ha.left
    rw [hs] at hat
    have hfol : Fol toks (p + a.toks.length) := by
      rw [hs] at hmid
      exact Fol.sign hmid hc
    have st := ha1 toks p ns bs t hat hfol
    have hsa : sgnOf a.root.1 = ⟨#[]⟩ ∨ sgnOf a.root.1 = sgnOf k := by
      by_cases h : a.root.1 = 4 ∨ a.root.1 = 5
      · have : a.root.1 = k := by
          by_cases e : a.root.1 = k
          · exact e
          · exact absurd ⟨h, e⟩ h5
        rw [this]; exact .inr rfl
      · left; unfold sgnOf; rw [if_neg (by omega), if_neg (by omega)]
    have e : (sideT k true (a.root.1, a.toks)).length = a.toks.length := by rw [hs]
    rw [← e] at st
    refine (st.mono ?_).then_ (fun er p' ns' hr => join_gr hj hsa hmid ?_) second
    · omega
    · rw [List.append_assoc ns, pre_join hma]; exact hr
mutual
theorem run_expr : ∀ (x : Ex), x.wf → (∀ t ∈ x.nodes, mayN t = true) → ExprRun x ∧ mayN x.root = true ∧ (¬ (x.root.1 = 4 ∨ x.root.1 = 5) → PartRun x)
  | .mk n ks, hw, hm => by
    have hn : mayN n = true := hm n (by simp [Ex.nodes])
    have hks := run_exprs ks hw.2 fun t ht => hm t (by simp [Ex.nodes, ht])
    by_cases h45 : n.1 = 4 ∨ n.1 = 5
    · have h2 := np_two hn h45
      have hk := hw.1
      rw [h2] at hk
      obtain ⟨a, b, rfl⟩ : ∃ a b, ks = [a, b] := by
        match ks, hk with
        | [a, b], _ => exact ⟨a, b, rfl⟩
      obtain ⟨a1, a2, _⟩ := hks a (by simp)
      obtain ⟨b1, b2, b3⟩ := hks b (by simp)
      refine ⟨?_, hn, fun h => absurd h45 h⟩
      rcases h45 with h | h
      · refine join_step (.inl ⟨rfl, rfl⟩) n a b h a2 b2 a1 b1 b3 ?_
        simp only [Ex.toks, txtT]
        rw [if_neg (by omega), if_neg (by omega), if_neg (by omega), if_pos h]
        rfl
      · refine join_step (.inr ⟨rfl, rfl⟩) n a b h a2 b2 a1 b1 b3 ?_
        simp only [Ex.toks, txtT]
        rw [if_neg (by omega), if_neg (by omega), if_neg (by omega), if_neg (by omega), if_pos h]
        rfl
    · have hp := part_step n ks hn hw.1 h45 fun e he => ⟨(hks e he).1, (hks e he).2.1⟩
      exact ⟨part_expr (x := .mk n ks) h45 hp, hn, fun _ => hp⟩
theorem run_exprs : ∀ (ks : List Ex), wfL ks → (∀ t ∈ nodesL ks, mayN t = true) → ∀ e ∈ ks, ExprRun e ∧ mayN e.root = true ∧ (¬ (e.root.1 = 4 ∨ e.root.1 = 5) → PartRun e)
  | [], _, _ => fun _ h => by cases h
  | e :: ks, hw, hm => fun x hx => by
    rcases List.mem_cons.1 hx with h | hx
    · rw [h]; exact run_expr e hw.1 fun t ht => hm t (by simp [nodesL, ht])
    · exact run_exprs ks hw.2 (fun t ht => hm t (by simp [nodesL, ht])) x hx
end

/-! ### whole texts -/
abbrev ss0 : List Lv := [((0, ⟨#[]⟩, 0), ⟨#[]⟩)]
/-- a whole expression is read as its nodes, or has too many brackets -/
theorem read_whole {x : Ex} (hw : x.wf) (hm : ∀ t ∈ x.nodes, mayN t = true) {toks : List Tg} (ha : At toks 0 x.toks) (hl : toks.length = x.toks.length) :
    (40 < x.deep ∧ ∃ p', RunP toks 0 [] ss0 7 p' []) ∨ RunP toks 0 [] ss0 0 toks.length x.nodes := by
  obtain ⟨h1, h2, _⟩ := run_expr x hw hm
  have st := h1 toks 0 [] [] (0, ⟨#[]⟩, 0) ha (Fol.end_ (by rw [hl, Nat.zero_add]))
  rcases st with ⟨hd, h⟩ | st
  · exact .inl ⟨by simp at hd; omega, h⟩
  · refine .inr (st 0 toks.length x.nodes ?_)
    have := GR.stop (toks := toks) (p := 0 + x.toks.length) (ns := [] ++ x.pre) (t := (0, ⟨#[]⟩, 0)) (sgn_ok x.root.1) (by rw [hl, Nat.zero_add])
    rw [List.append_assoc, pre_join h2, Nat.zero_add, ← hl] at this
    rw [Nat.zero_add, ← hl]
    exact this
/-- read as a part, or there are too many brackets -/
def RunsAs (ts : List TT) (N : List Tg) : Prop := ∀ (toks : List Tg) (p : Nat) (ns : List Tg) (ss : List Lv), 0 < ss.length → At toks p ts → ∃ D, Step toks p ns ss (p + ts.length) (ns ++ N) ss D
def brT (ts : List TT) : List TT := sgT 40 :: (ts ++ [sgT 41])
theorem RunsAs.tree {x : Ex} (hw : x.wf) (hm : ∀ t ∈ x.nodes, mayN t = true) : RunsAs (brT x.toks) x.nodes := fun toks p ns ss hs ha => by
  obtain ⟨h1, h2, _⟩ := run_expr x hw hm
  have e : (brT x.toks).length = x.toks.length + 2 := by simp [brT]
  rw [e]
  exact ⟨_, brack_of h2 h1 toks p ns ss hs ha⟩
theorem RunsAs.brack {ts : List TT} {N : List Tg} (h : RunsAs ts N) : RunsAs (brT ts) N := fun toks p ns ss hs ha => by
  have ha : At toks p (sgT 40 :: (ts ++ [sgT 41])) := ha
  obtain ⟨hp, _⟩ := ha.sign
  have hg : isSg toks p ⟨#[40]⟩ = true := ha.sgIs 40
  have h41 : At toks (p + 1 + ts.length) (sgT 41 :: []) := ha.tail.right
  by_cases h40 : ss.length ≤ 40
  · obtain ⟨D, k⟩ := h toks (p + 1) ns (ss ++ [((0, ⟨#[]⟩, 0), ⟨#[]⟩)]) (by simp) ha.tail.left
    refine ⟨D, Step.opened (.brack hp hg h40) (k.end_ fun er p' ns' hr => ?_)⟩
    refine GR.pop (.inl rfl) hs h41 ?_
    rw [joinN_none, List.append_nil, show endN ((0, ⟨#[]⟩, 0) : Tg) = [] from rfl, List.append_nil]
    have e : p + 1 + ts.length + 1 = p + (brT ts).length := by simp [brT]; omega
    rw [e]
    exact hr
  · exact ⟨42, .inl ⟨by omega, _, .err (.brackF hp hg (by omega)) (by decide)⟩⟩
theorem RunsAs.whole {ts : List TT} {N : List Tg} (h : RunsAs ts N) {toks : List Tg} (ha : At toks 0 ts) (hl : toks.length = ts.length) :
    (∃ p', RunP toks 0 [] ss0 7 p' []) ∨ RunP toks 0 [] ss0 0 toks.length N := by
  obtain ⟨D, st⟩ := h toks 0 [] ss0 (by simp) ha
  rcases st with ⟨_, h⟩ | st
  · exact .inl h
  · refine .inr (st 0 toks.length N ?_)
    have := GR.stop (toks := toks) (p := 0 + ts.length) (ns := [] ++ N) (t := (0, ⟨#[]⟩, 0)) (s := ⟨#[]⟩) (.inl rfl) (by rw [hl, Nat.zero_add])
    rw [joinN_none, List.append_nil, Nat.zero_add, ← hl] at this
    rw [Nat.zero_add, ← hl]
    exact this
theorem two_whole {c : UInt8} {k : Int} (hj : JoinTok c k) {ts us : List TT} {N M : List Tg} (h : RunsAs ts N) (g : RunsAs us M) {toks : List Tg} (ha : At toks 0 (ts ++ sgT c :: us)) (hl : toks.length = (ts ++ sgT c :: us).length) :
    (∃ p', RunP toks 0 [] ss0 7 p' []) ∨ RunP toks 0 [] ss0 0 toks.length (N ++ M ++ [(k, ⟨#[]⟩, 2)]) := by
  obtain ⟨D, st⟩ := h toks 0 [] ss0 (by simp) ha.left
  have hmid : At toks (0 + ts.length) (sgT c :: us) := ha.right
  obtain ⟨E, su⟩ := g toks (0 + ts.length + 1) ([] ++ N) [((0, ⟨#[]⟩, 0), sgnOf k)] (by simp) hmid.tail
  have se := (st.mono (Nat.le_max_left D E)).then_ (fun er p' ns' hr => join_gr (bs := []) hj (.inl rfl) hmid (by rw [joinN_none, List.append_nil]; exact hr)) (su.mono (Nat.le_max_right D E))
  rcases se with ⟨_, h⟩ | se
  · exact .inl h
  · refine .inr (se 0 toks.length _ ?_)
    have e : 0 + ts.length + 1 + us.length = toks.length := by rw [hl]; simp; omega
    have := GR.stop (toks := toks) (p := 0 + ts.length + 1 + us.length) (ns := [] ++ N ++ M) (t := (0, ⟨#[]⟩, 0)) (sgn_ok k) e
    have ej : joinN (sgnOf k) = [(k, ⟨#[]⟩, 2)] := by rcases hj with ⟨_, rfl⟩ | ⟨_, rfl⟩ <;> rfl
    rw [ej] at this
    rw [e] at this ⊢
    exact this
end Go.Proofs.YtmbdbmjnibfmgaaDoor.Ex
