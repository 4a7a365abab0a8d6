/-
  Plain: the tokens of a tree's text.
-/
import Derived.Test.YtmbdbmjnibfmgaaDoorRef7G
import Derived.Test.YtmbdbmjnibfmgaaDoorRef6D
namespace Go.Proofs.YtmbdbmjnibfmgaaDoor.Ex
open Go.RowKit Kit Rw
open Go.Proofs.YtmbdbmjnibfmgaaDoor.Nm
open Go.Proofs.YtmbdbmjnibfmgaaDoor.Lx (Tk lx tk fig ltr goes signs numLen signLen lx_nil lx_some)

/-- a token: its kind, its bytes -/
abbrev TT := Nat × List UInt8
def ktT (t : Tk) : TT := (t.kind, t.text)
def sgT (c : UInt8) : TT := (3, [c])
def sideT (kind : Int) (first : Bool) (p : Int × List TT) : List TT := if (p.1 = 4 ∨ p.1 = 5) ∧ (first = false ∨ p.1 ≠ kind) then sgT 40 :: (p.2 ++ [sgT 41]) else p.2
def conTT (b : Bool) : List (Int × List TT) → List TT
  | [] => []
  | p :: r => sgT (if b = true then 40 else 44) :: (p.2 ++ conTT false r)
def nthT (ps : List (Int × List TT)) (i : Nat) : Int × List TT := ps[i]?.getD (0, [])
def txtT (n : Tg) (ps : List (Int × List TT)) : List TT :=
  if n.1 = 0 then [(2, [48])] else if n.1 = 1 then [(2, [49])] else if n.1 = 3 then (1, nm n) :: (conTT true ps ++ (if ps = [] then [] else [sgT 41]))
  else if n.1 = 4 then sideT 4 true (nthT ps 0) ++ sgT 124 :: sideT 4 false (nthT ps 1) else if n.1 = 5 then sideT 5 true (nthT ps 0) ++ sgT 38 :: sideT 5 false (nthT ps 1)
  else if n.1 = 6 then (1, nm n) :: sgT 126 :: (2, [figD n.2.2.toNat]) :: sgT 40 :: ((nthT ps 0).2 ++ [sgT 41]) else [(1, nm n)]
mutual
def Ex.toks : Ex → List TT
  | .mk n ks => txtT n (toksP ks)
def toksP : List Ex → List (Int × List TT)
  | [] => []
  | e :: r => (e.root.1, e.toks) :: toksP r
end

/-! ### reading bytes as tokens, piece by piece -/
def sepB (c : UInt8) : Bool := c == 40 || c == 41 || c == 44 || c == 124 || c == 38 || c == 126
def Sep : List UInt8 → Prop
  | [] => True
  | c :: _ => sepB c = true
/-- these bytes are these tokens, whatever is behind -/
def LxA (s : List UInt8) (ts : List TT) : Prop := ∀ z p, ∃ l, lx (s ++ z) p = (l ++ (lx z (p + s.length)).1, (lx z (p + s.length)).2) ∧ l.map ktT = ts
/-- .. if a sign is behind, or nothing -/
def Lx1 (s : List UInt8) (ts : List TT) : Prop := ∀ z p, Sep z → ∃ l, lx (s ++ z) p = (l ++ (lx z (p + s.length)).1, (lx z (p + s.length)).2) ∧ l.map ktT = ts
theorem LxA.one {s : List UInt8} {ts : List TT} (h : LxA s ts) : Lx1 s ts := fun z p _ => h z p
theorem LxA.app {a b : List UInt8} {ts us : List TT} (h : LxA a ts) (k : Lx1 b us) : Lx1 (a ++ b) (ts ++ us) := fun z p hz => by
  obtain ⟨l, e1, e2⟩ := h (b ++ z) p
  obtain ⟨m, e3, e4⟩ := k z (p + a.length) hz
  refine ⟨l ++ m, ?_, by rw [List.map_append, e2, e4]⟩
  rw [List.append_assoc, e1, e3, List.length_append, ← Nat.add_assoc, List.append_assoc]
theorem LxA.appA {a b : List UInt8} {ts us : List TT} (h : LxA a ts) (k : LxA b us) : LxA (a ++ b) (ts ++ us) := fun z p => by
  obtain ⟨l, e1, e2⟩ := h (b ++ z) p
  obtain ⟨m, e3, e4⟩ := k z (p + a.length)
  refine ⟨l ++ m, ?_, by rw [List.map_append, e2, e4]⟩
  rw [List.append_assoc, e1, e3, List.length_append, ← Nat.add_assoc, List.append_assoc]
theorem Lx1.app {a b : List UInt8} {ts us : List TT} (h : Lx1 a ts) (k : Lx1 b us) (hb : ∃ c r, b = c :: r ∧ sepB c = true) : Lx1 (a ++ b) (ts ++ us) := fun z p hz => by
  obtain ⟨l, e1, e2⟩ := h (b ++ z) p (by obtain ⟨c, r, rfl, hc⟩ := hb; exact hc)
  obtain ⟨m, e3, e4⟩ := k z (p + a.length) hz
  refine ⟨l ++ m, ?_, by rw [List.map_append, e2, e4]⟩
  rw [List.append_assoc, e1, e3, List.length_append, ← Nat.add_assoc, List.append_assoc]
theorem Lx1.appA {a b : List UInt8} {ts us : List TT} (h : Lx1 a ts) (k : LxA b us) (hb : ∃ c r, b = c :: r ∧ sepB c = true) : LxA (a ++ b) (ts ++ us) := fun z p => by
  obtain ⟨l, e1, e2⟩ := h (b ++ z) p (by obtain ⟨c, r, rfl, hc⟩ := hb; exact hc)
  obtain ⟨m, e3, e4⟩ := k z (p + a.length)
  refine ⟨l ++ m, ?_, by rw [List.map_append, e2, e4]⟩
  rw [List.append_assoc, e1, e3, List.length_append, ← Nat.add_assoc, List.append_assoc]
theorem LxA.nil : LxA [] [] := fun z p => ⟨[], by simp, rfl⟩
theorem sep_cases {c : UInt8} (h : sepB c = true) : c = 40 ∨ c = 41 ∨ c = 44 ∨ c = 124 ∨ c = 38 ∨ c = 126 := by
  simpa only [sepB, Bool.or_eq_true, beq_iff_eq, or_assoc] using h
theorem LxA.sign {c : UInt8} (h : sepB c = true) : LxA [c] [sgT c] := fun z p => by
  have hb : Lx.blank c = false := by rcases sep_cases h with rfl | rfl | rfl | rfl | rfl | rfl <;> decide
  have ht : tk c z = some (3, 0) := by
    have h1 : ltr c = false := by rcases sep_cases h with rfl | rfl | rfl | rfl | rfl | rfl <;> decide
    have h2 : fig c = false := by rcases sep_cases h with rfl | rfl | rfl | rfl | rfl | rfl <;> decide
    have h3 : ¬ (c = 60 ∨ c = 58) := by rcases sep_cases h with rfl | rfl | rfl | rfl | rfl | rfl <;> decide
    have h4 : c ∈ signs := by rcases sep_cases h with rfl | rfl | rfl | rfl | rfl | rfl <;> decide
    unfold tk signLen
    rw [h1, h2]
    simp [h3, h4]
  refine ⟨[⟨3, [c], p⟩], ?_, rfl⟩
  rw [List.singleton_append, lx_some hb ht]
  rfl
theorem sep_goes {z : List UInt8} (h : Sep z) {f : UInt8 → Bool} (hf : ∀ c, sepB c = true → f c = false) (r : List UInt8) (hr : r.all f = true) : (r ++ z).takeWhile f = r := by
  induction r with
  | nil =>
    cases z with
    | nil => rfl
    | cons c z => simp [hf c h]
  | cons a r ih =>
    simp only [List.all_cons, Bool.and_eq_true] at hr
    simp [hr.1, ih hr.2]
theorem sep_not_goes : ∀ c, sepB c = true → goes c = false := fun c h => by rcases sep_cases h with rfl | rfl | rfl | rfl | rfl | rfl <;> decide
theorem sep_not_fig : ∀ c, sepB c = true → fig c = false := fun c h => by rcases sep_cases h with rfl | rfl | rfl | rfl | rfl | rfl <;> decide
theorem Lx1.name {lo hi : Int} (hlo : (lo = 97 ∧ hi = 122) ∨ (lo = 65 ∧ hi = 90)) {s : List UInt8} (h : nameB lo hi s = true) : Lx1 s [(1, s)] := fun z p hz => by
  cases s with
  | nil => cases h
  | cons c r =>
    simp only [nameB, Bool.and_eq_true, decide_eq_true_eq, inB] at h
    obtain ⟨⟨_, h1, h2⟩, h3⟩ := h
    have hl : ltr c = true := by
      rw [show ltr c = Lx.ltrI c.toNat from rfl]
      simp only [Lx.ltrI, Bool.or_eq_true, Bool.and_eq_true, decide_eq_true_eq]
      omega
    have hb : Lx.blank c = false := by
      rw [show Lx.blank c = Lx.blankI c.toNat from rfl]
      simp only [Lx.blankI, Bool.or_eq_false_iff, beq_eq_false_iff_ne]
      omega
    have hr : r.all goes = true := by
      unfold restB at h3
      simp only [List.drop_succ_cons, List.drop_zero] at h3
      rw [List.all_eq_true] at h3 ⊢
      intro x hx
      have := h3 x hx
      rw [show goes x = Lx.goesI x.toNat from rfl]
      simp only [goesB, inB, Bool.or_eq_true, Bool.and_eq_true, decide_eq_true_eq, beq_iff_eq] at this
      simp only [Lx.goesI, Lx.ltrI, Lx.figI, Bool.or_eq_true, Bool.and_eq_true, decide_eq_true_eq, beq_iff_eq]
      omega
    have ht : tk c (r ++ z) = some (1, r.length) := by
      unfold tk
      rw [if_pos hl, sep_goes hz sep_not_goes r hr]
    refine ⟨[⟨1, c :: r, p⟩], ?_, rfl⟩
    rw [List.cons_append, lx_some hb ht]
    simp [Nat.add_assoc]
theorem Lx1.digit {d : UInt8} (h : 48 ≤ d.toNat ∧ d.toNat ≤ 57) : Lx1 [d] [(2, [d])] := fun z p hz => by
  have hl : ltr d = false := by
    rw [show ltr d = Lx.ltrI d.toNat from rfl, Bool.eq_false_iff]
    simp only [Lx.ltrI, ne_eq, Bool.or_eq_true, Bool.and_eq_true, decide_eq_true_eq]
    omega
  have hf : fig d = true := by
    rw [show fig d = Lx.figI d.toNat from rfl]
    simp only [Lx.figI, Bool.and_eq_true, decide_eq_true_eq]
    omega
  have hb : Lx.blank d = false := by
    rw [show Lx.blank d = Lx.blankI d.toNat from rfl]
    simp only [Lx.blankI, Bool.or_eq_false_iff, beq_eq_false_iff_ne]
    omega
  have ht : tk d z = some (2, 0) := by
    unfold tk numLen
    have := sep_goes hz sep_not_fig [] rfl
    rw [List.nil_append] at this
    rw [hl, hf, this]
    rfl
  refine ⟨[⟨2, [d], p⟩], ?_, rfl⟩
  rw [List.singleton_append, lx_some hb ht]
  rfl

/-! ### a tree's text -/
theorem lx_side (kind : Int) (first : Bool) (e : Ex) (h : Lx1 e.text e.toks) : Lx1 (sideL kind first (e.root.1, e.text)) (sideT kind first (e.root.1, e.toks)) := by
  unfold sideL sideT
  split
  · have h1 : LxA [40] [sgT 40] := LxA.sign rfl
    have h2 : LxA [41] [sgT 41] := LxA.sign rfl
    exact h1.app (h.app h2.one ⟨41, [], rfl, rfl⟩)
  · exact h
theorem lx_con (ks : List Ex) (h : ∀ e ∈ ks, Lx1 e.text e.toks) : ∀ b, Lx1 (conL b (textsP ks)) (conTT b (toksP ks)) := by
  induction ks with
  | nil => intro b; exact LxA.nil.one
  | cons e ks ih =>
    intro b
    have h1 : LxA [if b = true then 40 else 44] [sgT (if b = true then 40 else 44)] := LxA.sign (by cases b <;> rfl)
    have h2 := h e (List.mem_cons_self ..)
    have h3 := ih (fun x hx => h x (List.mem_cons_of_mem _ hx)) false
    show Lx1 ((if b = true then 40 else 44) :: (e.text ++ conL false (textsP ks))) (sgT (if b = true then 40 else 44) :: (e.toks ++ conTT false (toksP ks)))
    refine h1.app ?_
    cases ks with
    | nil =>
      show Lx1 (e.text ++ []) (e.toks ++ [])
      rw [List.append_nil, List.append_nil]
      exact h2
    | cons f ks => exact h2.app h3 ⟨44, _, rfl, rfl⟩
theorem lx_step (n : Tg) (ks : List Ex) (hm : mayN n = true) (hk : ks.length = np n) (h : ∀ e ∈ ks, Lx1 e.text e.toks) : Lx1 (txt n (textsP ks)) (txtT n (toksP ks)) := by
  have hks := may_kinds hm
  have two : n.1 = 4 ∨ n.1 = 5 → ∃ e f, ks = [e, f] := fun hh => by
    have := np_two hm hh
    rw [this] at hk
    match ks, hk with
    | [e, f], _ => exact ⟨e, f, rfl⟩
  have con : n.1 = 3 ∨ n.1 = 6 → nameB 97 122 (nm n) = true := fun hh => by
    unfold mayN at hm
    rcases hh with hh | hh
    · rw [if_neg (by omega), if_neg (by omega), if_pos hh, Bool.and_eq_true] at hm; exact hm.1
    · rw [if_neg (by omega), if_neg (by omega), if_neg (by omega), if_neg (by omega), if_pos hh, Bool.and_eq_true] at hm; exact hm.1
  unfold txt txtT
  by_cases h0 : n.1 = 0
  · rw [if_pos h0, if_pos h0]; exact Lx1.digit (by decide)
  rw [if_neg h0, if_neg h0]
  by_cases h1 : n.1 = 1
  · rw [if_pos h1, if_pos h1]; exact Lx1.digit (by decide)
  rw [if_neg h1, if_neg h1]
  by_cases h3 : n.1 = 3
  · rw [if_pos h3, if_pos h3]
    have hn := Lx1.name (.inl ⟨rfl, rfl⟩) (con (.inl h3))
    cases ks with
    | nil => simp only [textsP, toksP, conL, conTT, if_true, List.append_nil]; exact hn
    | cons e ks =>
      rw [if_neg (by simp [textsP]), if_neg (by simp [toksP]), List.append_assoc]
      have hc := lx_con (e :: ks) h true
      have hz : LxA [41] [sgT 41] := LxA.sign rfl
      exact hn.app (hc.app hz.one ⟨41, [], rfl, rfl⟩) ⟨40, _, rfl, rfl⟩
  rw [if_neg h3, if_neg h3]
  have join : ∀ (k : Int) (c : UInt8), sepB c = true → (n.1 = 4 ∨ n.1 = 5) → Lx1 (sideL k true (nth (textsP ks) 0) ++ c :: sideL k false (nth (textsP ks) 1)) (sideT k true (nthT (toksP ks) 0) ++ sgT c :: sideT k false (nthT (toksP ks) 1)) := fun k c hc hh => by
    obtain ⟨e, f, rfl⟩ := two hh
    have s1 := lx_side k true e (h e (by simp))
    have s2 := lx_side k false f (h f (by simp))
    have hz : LxA [c] [sgT c] := LxA.sign hc
    exact s1.app (hz.app s2) ⟨c, _, rfl, hc⟩
  by_cases h4 : n.1 = 4
  · rw [if_pos h4, if_pos h4]; exact join 4 124 rfl (.inl h4)
  rw [if_neg h4, if_neg h4]
  by_cases h5 : n.1 = 5
  · rw [if_pos h5, if_pos h5]; exact join 5 38 rfl (.inr h5)
  rw [if_neg h5, if_neg h5]
  by_cases h6 : n.1 = 6
  · rw [if_pos h6, if_pos h6]
    obtain ⟨hnp, m, hm1, hm2, hm3⟩ := np_proj hm h6
    rw [hnp] at hk
    match ks, hk with
    | [e], _ =>
      have hn := Lx1.name (.inl ⟨rfl, rfl⟩) (con (.inr h6))
      have hd : Lx1 [figD n.2.2.toNat] [(2, [figD n.2.2.toNat])] := Lx1.digit (by rw [hm1]; unfold figD; rw [Int.toNat_natCast, UInt8.toNat_ofNat']; omega)
      have h40 : LxA [40] [sgT 40] := LxA.sign rfl
      have h41 : LxA [41] [sgT 41] := LxA.sign rfl
      have h126 : LxA [126] [sgT 126] := LxA.sign rfl
      have e1 := (h e (by simp)).app h41.one ⟨41, [], rfl, rfl⟩
      exact hn.app (h126.app (hd.app (h40.app e1) ⟨40, _, rfl, rfl⟩)) ⟨126, _, rfl, rfl⟩
  · rw [if_neg h6, if_neg h6]
    have h2 : n.1 = 2 := by omega
    refine Lx1.name (.inr ⟨rfl, rfl⟩) ?_
    unfold mayN at hm
    rw [if_neg (by omega), if_pos h2, Bool.and_eq_true] at hm
    exact hm.1
mutual
theorem lx_tree : ∀ (e : Ex), e.wf → (∀ t ∈ e.nodes, mayN t = true) → Lx1 e.text e.toks
  | .mk n ks, hw, hm => lx_step n ks (hm n (by simp [Ex.nodes])) hw.1 (lx_trees ks hw.2 fun t ht => hm t (by simp [Ex.nodes, ht]))
theorem lx_trees : ∀ (ks : List Ex), wfL ks → (∀ t ∈ nodesL ks, mayN t = true) → ∀ e ∈ ks, Lx1 e.text e.toks
  | [], _, _ => fun _ h => by cases h
  | e :: ks, hw, hm => fun x hx => by
    rcases List.mem_cons.1 hx with h | hx
    · rw [h]; exact lx_tree e hw.1 fun t ht => hm t (by simp [nodesL, ht])
    · exact lx_trees ks hw.2 (fun t ht => hm t (by simp [nodesL, ht])) x hx
end
/-- the tokens of a whole text -/
theorem Lx1.all {s : List UInt8} {ts : List TT} (h : Lx1 s ts) : ∃ l, lx s 0 = (l, none) ∧ l.map ktT = ts := by
  obtain ⟨l, e1, e2⟩ := h [] 0 trivial
  rw [List.append_nil, lx_nil] at e1
  exact ⟨l, by simpa using e1, e2⟩
end Go.Proofs.YtmbdbmjnibfmgaaDoor.Ex
