/-
  What the proofs lean on, part 13 of 25.
-/
import Derived.Test.YtdmdcggmgipdbaaGreatDoorPl
namespace Go.Proofs.YtdmdcggmgipdbaaGreatDoor.Ld
open Go.RowKit Kit Rw
open Go.Proofs.YtdmdcggmgipdbaaGreatDoor.Nm (nameB inB restB goesB)
open Go.Proofs.YtdmdcggmgipdbaaGreatDoor.Ex (Ex mayN np nm sideL conL nth txt textsP textsP_len figD)
def isOp (x : Ex) : Prop := x.root.1 = 4 ∨ x.root.1 = 5
instance (x : Ex) : Decidable (isOp x) := by unfold isOp; infer_instance
/-- a tree, in brackets if it is of two parts -/
def atomT (x : Ex) : List UInt8 := if isOp x then 40 :: (x.text ++ [41]) else x.text
def Good (x : Ex) : Prop := x.wf ∧ ∀ t ∈ x.nodes, mayN t = true
def stopE (u : List UInt8) : Prop := ∀ c r, u = c :: r → c = 41 ∨ c = 44
def stopA (u : List UInt8) : Prop := ∀ c r, u = c :: r → c = 41 ∨ c = 44 ∨ c = 124 ∨ c = 38
theorem stopE.a {u : List UInt8} (h : stopE u) : stopA u := fun c r e => (h c r e).imp id fun h => .inl h
theorem stopE.nil : stopE [] := fun _ _ e => by cases e
theorem stopE.end_ (u : List UInt8) : stopE (41 :: u) := fun c r e => by injection e with e; exact .inl e.symm
theorem stopE.more (u : List UInt8) : stopE (44 :: u) := fun c r e => by injection e with e; exact .inr e.symm
/-- text, as far as it is one -/
def EP (x : Ex) : Prop := ∀ (y : Ex), Good y → ∀ u v, stopE u → stopE v → x.text ++ u = y.text ++ v → x = y ∧ u = v
def AP (x : Ex) : Prop := ∀ (y : Ex), Good y → ∀ u v, stopA u → stopA v → atomT x ++ u = atomT y ++ v → x = y ∧ u = v
theorem Good.kid {n : Tg} {ks : List Ex} (h : Good (.mk n ks)) {e : Ex} (he : e ∈ ks) : Good e := by
  obtain ⟨h1, h2⟩ := h
  simp only [Ex.Ex.wf] at h1
  refine ⟨(Ex.wfL_iff ks).1 h1.2 e he, fun t ht => h2 t ?_⟩
  simp only [Ex.Ex.nodes, List.mem_append]
  refine .inl ?_
  clear h1 h2
  induction ks with
  | nil => cases he
  | cons a ks ih =>
    simp only [Ex.nodesL, List.mem_append]
    simp only [List.mem_cons] at he
    rcases he with rfl | he
    · exact .inl ht
    · exact .inr (ih he)
theorem Good.own {n : Tg} {ks : List Ex} (h : Good (.mk n ks)) : mayN n = true ∧ ks.length = np n := by
  obtain ⟨h1, h2⟩ := h
  simp only [Ex.Ex.wf] at h1
  exact ⟨h2 n (by simp [Ex.Ex.nodes]), h1.1⟩
theorem kid_small {n : Tg} {ks : List Ex} {e : Ex} (he : e ∈ ks) : e.size < (Ex.Ex.mk n ks).size := by
  have : e.size ≤ (Ex.nodesL ks).length := by
    induction ks with
    | nil => cases he
    | cons a ks ih =>
      simp only [Ex.nodesL, List.length_append]
      simp only [List.mem_cons] at he
      rcases he with rfl | he
      · unfold Ex.Ex.size; omega
      · have := ih he; omega
  have e1 : (Ex.Ex.mk n ks).size = (Ex.nodesL ks).length + 1 := by simp [Ex.Ex.size, Ex.Ex.nodes]
  omega

def isNc (c : UInt8) : Bool := goesB c.toNat
theorem name_split {a b u v : List UInt8} (ha : ∀ c ∈ a, isNc c = true) (hb : ∀ c ∈ b, isNc c = true) (hu : ∀ c r, u = c :: r → isNc c = false) (hv : ∀ c r, v = c :: r → isNc c = false) (h : a ++ u = b ++ v) : a = b ∧ u = v := by
  induction a generalizing b with
  | nil =>
    cases b with
    | nil => exact ⟨rfl, h⟩
    | cons c b =>
      have h1 := hu c (b ++ v) (by simpa using h)
      rw [hb c (by simp)] at h1; cases h1
  | cons d a ih =>
    cases b with
    | nil =>
      have h1 := hv d (a ++ u) (by simpa using h.symm)
      rw [ha d (by simp)] at h1; cases h1
    | cons c b =>
      simp only [List.cons_append, List.cons.injEq] at h
      obtain ⟨e1, e2⟩ := ih (b := b) (fun c hc => ha c (by simp [hc])) (fun c hc => hb c (by simp [hc])) h.2
      exact ⟨by rw [h.1, e1], e2⟩
theorem stop_nc {u : List UInt8} (h : stopA u) : ∀ c r, u = c :: r → isNc c = false := fun c r e => by
  rcases h c r e with rfl | rfl | rfl | rfl <;> rfl
/-- a name's bytes -/
theorem name_bytes {lo hi : Int} (hlo : (lo = 65 ∧ hi = 90) ∨ (lo = 97 ∧ hi = 122)) {l : List UInt8} (h : nameB lo hi l = true) : (∀ c ∈ l, isNc c = true) ∧ ∃ c r, l = c :: r ∧ lo ≤ (c.toNat : Int) ∧ (c.toNat : Int) ≤ hi := by
  cases l with
  | nil => cases h
  | cons c r =>
    unfold nameB at h
    simp only [Bool.and_eq_true] at h
    have h1 := h.1.2
    have h2 := h.2
    unfold inB at h1
    simp only [Bool.and_eq_true, decide_eq_true_eq] at h1
    refine ⟨fun d hd => ?_, c, r, rfl, h1.1, h1.2⟩
    simp only [List.mem_cons] at hd
    rcases hd with rfl | hd
    · unfold isNc goesB inB
      simp only [Bool.or_eq_true, Bool.and_eq_true, decide_eq_true_eq]
      rcases hlo with ⟨rfl, rfl⟩ | ⟨rfl, rfl⟩
      · exact .inl (.inl (.inr h1))
      · exact .inl (.inl (.inl h1))
    · unfold restB at h2
      rw [List.all_eq_true] at h2
      exact h2 d (by simpa using hd)
theorem var_bytes {n : Tg} (hm : mayN n = true) (h : n.1 = 2) : (∀ c ∈ nm n, isNc c = true) ∧ ∃ c r, nm n = c :: r ∧ 65 ≤ (c.toNat : Int) ∧ (c.toNat : Int) ≤ 90 := by
  unfold mayN at hm
  rw [if_neg (by omega), if_pos h, Bool.and_eq_true] at hm
  exact name_bytes (.inl ⟨rfl, rfl⟩) hm.1
theorem con_bytes {n : Tg} (hm : mayN n = true) (h : n.1 = 3 ∨ n.1 = 6) : (∀ c ∈ nm n, isNc c = true) ∧ ∃ c r, nm n = c :: r ∧ 97 ≤ (c.toNat : Int) ∧ (c.toNat : Int) ≤ 122 := by
  unfold mayN at hm
  rcases h with h | h
  · rw [if_neg (by omega), if_neg (by omega), if_pos h, Bool.and_eq_true] at hm; exact name_bytes (.inr ⟨rfl, rfl⟩) hm.1
  · rw [if_neg (by omega), if_neg (by omega), if_neg (by omega), if_neg (by omega), if_pos h, Bool.and_eq_true] at hm; exact name_bytes (.inr ⟨rfl, rfl⟩) hm.1
theorem nm_inj {n m : Tg} (h : nm n = nm m) : n.2.1 = m.2.1 := by
  unfold nm at h
  have h2 : n.2.1.data = m.2.1.data := Array.toList_inj.1 h
  cases ha : n.2.1 with
  | mk a =>
    cases hb : m.2.1 with
    | mk b => rw [ha, hb] at h2; simp only at h2; rw [h2]

/-- what follows the name, or is all -/
def tailT : Ex → List UInt8
  | .mk n ks => if n.1 = 3 then conL true (textsP ks) ++ (if textsP ks = [] then [] else [41]) else if n.1 = 6 then 126 :: figD n.2.2.toNat :: 40 :: ((nth (textsP ks) 0).2 ++ [41]) else []
theorem leaf_text {n : Tg} {ks : List Ex} (hno : ¬ isOp (.mk n ks)) : (Ex.Ex.mk n ks).text = (if n.1 = 0 then [48] else if n.1 = 1 then [49] else nm n ++ tailT (.mk n ks)) := by
  have h4 : n.1 ≠ 4 := fun e => hno (.inl e)
  have h5 : n.1 ≠ 5 := fun e => hno (.inr e)
  show txt n (textsP ks) = _
  unfold txt
  simp only [tailT]
  by_cases h0 : n.1 = 0
  · rw [if_pos h0, if_pos h0]
  · rw [if_neg h0, if_neg h0]
    by_cases h1 : n.1 = 1
    · rw [if_pos h1, if_pos h1]
    · rw [if_neg h1, if_neg h1]
      by_cases h3 : n.1 = 3
      · rw [if_pos h3, if_pos h3, List.append_assoc]
      · rw [if_neg h3, if_neg h3, if_neg h4, if_neg h5]
        by_cases h6 : n.1 = 6
        · rw [if_pos h6, if_pos h6]
        · rw [if_neg h6, if_neg h6, List.append_nil]
/-- the first byte tells the kind, but for that of a name -/
def headK (k : Int) (c : UInt8) : Prop := (k = 0 ∧ c = 48) ∨ (k = 1 ∧ c = 49) ∨ (k = 2 ∧ 65 ≤ c.toNat ∧ c.toNat ≤ 90) ∨ ((k = 3 ∨ k = 6) ∧ 97 ≤ c.toNat ∧ c.toNat ≤ 122)
theorem leaf_head {x : Ex} (hg : Good x) (hno : ¬ isOp x) : ∃ c r, x.text = c :: r ∧ headK x.root.1 c := by
  obtain ⟨n, ks⟩ := x
  obtain ⟨hm, _⟩ := hg.own
  rw [leaf_text hno]
  show ∃ c r, _ ∧ headK n.1 c
  have hk := Ex.may_kinds hm
  by_cases h0 : n.1 = 0
  · rw [if_pos h0]; exact ⟨48, [], rfl, .inl ⟨h0, rfl⟩⟩
  · rw [if_neg h0]
    by_cases h1 : n.1 = 1
    · rw [if_pos h1]; exact ⟨49, [], rfl, .inr (.inl ⟨h1, rfl⟩)⟩
    · rw [if_neg h1]
      by_cases h2 : n.1 = 2
      · obtain ⟨_, c, r, e, p, q⟩ := var_bytes hm h2
        rw [e]
        exact ⟨c, _, rfl, .inr (.inr (.inl ⟨h2, by omega, by omega⟩))⟩
      · have h36 : n.1 = 3 ∨ n.1 = 6 := by
          have h4 : n.1 ≠ 4 := fun e => hno (.inl e)
          have h5 : n.1 ≠ 5 := fun e => hno (.inr e)
          omega
        obtain ⟨_, c, r, e, p, q⟩ := con_bytes hm h36
        rw [e]
        exact ⟨c, _, rfl, .inr (.inr (.inr ⟨h36, by omega, by omega⟩))⟩
theorem headK_not {k : Int} {c : UInt8} (h : headK k c) : c ≠ 40 := by
  rintro rfl
  rcases h with ⟨_, h⟩ | ⟨_, h⟩ | ⟨_, h, _⟩ | ⟨_, h, _⟩
  · cases h
  · cases h
  · exact absurd h (by decide)
  · exact absurd h (by decide)
theorem headK_same {k m : Int} {c : UInt8} (h : headK k c) (g : headK m c) : k = m ∨ ((k = 3 ∨ k = 6) ∧ (m = 3 ∨ m = 6)) := by
  have h48 : (48 : UInt8).toNat = 48 := rfl
  have h49 : (49 : UInt8).toNat = 49 := rfl
  rcases h with ⟨a, h⟩ | ⟨a, h⟩ | ⟨a, h⟩ | ⟨a, h⟩ <;> rcases g with ⟨b, g⟩ | ⟨b, g⟩ | ⟨b, g⟩ | ⟨b, g⟩
  all_goals first
    | exact .inl (by omega)
    | exact .inr ⟨a, b⟩
    | (exfalso; subst h; first | (cases g; done) | (rw [h48] at g; omega) | (rw [h49] at g; omega))
    | (exfalso; subst g; first | (rw [h48] at h; omega) | (rw [h49] at h; omega))
    | (exfalso; omega)
/-- parts in brackets -/
theorem con_parts : ∀ (es fs : List Ex), (∀ e ∈ es, EP e) → (∀ f ∈ fs, Good f) → ∀ u v, conL false (textsP es) ++ 41 :: u = conL false (textsP fs) ++ 41 :: v → es = fs ∧ u = v
  | [], [], _, _, u, v, h => by
    simp only [textsP, conL, List.nil_append, List.cons.injEq, true_and] at h
    exact ⟨rfl, h⟩
  | [], f :: fs, _, _, u, v, h => by
    simp only [textsP, conL, List.nil_append, List.cons_append, List.cons.injEq] at h
    exact absurd h.1 (by decide)
  | e :: es, [], _, _, u, v, h => by
    simp only [textsP, conL, List.nil_append, List.cons_append, List.cons.injEq] at h
    exact absurd h.1 (by decide)
  | e :: es, f :: fs, h1, h2, u, v, h => by
    simp only [textsP, conL, List.cons_append, List.cons.injEq, List.append_assoc] at h
    have stop : ∀ (gs : List Ex) (z : List UInt8), stopE (conL false (textsP gs) ++ 41 :: z) := fun gs z => by
      cases gs with
      | nil => exact stopE.end_ z
      | cons g gs => exact stopE.more _
    obtain ⟨e1, e2⟩ := h1 e (by simp) f (h2 f (by simp)) _ _ (stop es u) (stop fs v) h.2
    obtain ⟨e3, e4⟩ := con_parts es fs (fun x hx => h1 x (by simp [hx])) (fun x hx => h2 x (by simp [hx])) u v e2
    exact ⟨by rw [e1, e3], e4⟩
theorem fig_inj {a b : Nat} (ha : a ≤ 9) (hb : b ≤ 9) (h : figD a = figD b) : a = b := by
  unfold figD at h
  have := congrArg UInt8.toNat h
  rw [UInt8.toNat_ofNat', UInt8.toNat_ofNat'] at this
  omega
theorem tg_eq {n m : Tg} (h1 : n.1 = m.1) (h2 : n.2.1 = m.2.1) (h3 : n.2.2 = m.2.2) : n = m := by
  obtain ⟨a, b, c⟩ := n
  obtain ⟨a', b', c'⟩ := m
  simp only at h1 h2 h3
  rw [h1, h2, h3]
theorem no_kids {n : Tg} {ks : List Ex} (hg : Good (.mk n ks)) (h : n.1 = 0 ∨ n.1 = 1 ∨ n.1 = 2) : ks = [] ∧ n.2.2 = 0 := by
  obtain ⟨hm, hl⟩ := hg.own
  have hc : n.2.2 = 0 := by
    unfold mayN at hm
    by_cases h2 : n.1 = 2
    · rw [if_neg (by omega), if_pos h2, Bool.and_eq_true] at hm; simpa using hm.2
    · rw [if_pos (by omega), Bool.and_eq_true] at hm; simpa using hm.2
  have hp := (Ex.parts_nat hm).1
  unfold Ex.partsN at hp
  rw [if_neg (by omega)] at hp
  have : ks.length = 0 := by omega
  exact ⟨List.length_eq_zero_iff.1 this, hc⟩
theorem empty_name9 {n : Tg} (hm : mayN n = true) (hno : ¬ (n.1 = 2 ∨ n.1 = 3 ∨ n.1 = 6)) : n.2.1 = ⟨#[]⟩ := by
  have h0 : n.2.1.toList.isEmpty = true := by
    unfold mayN at hm
    split at hm
    · simp only [Bool.and_eq_true] at hm; exact hm.1
    · split at hm
      · next h => exact absurd (.inl h) hno
      · split at hm
        · next h => exact absurd (.inr (.inl h)) hno
        · split at hm
          · simp only [Bool.and_eq_true] at hm; exact hm.1
          · split at hm
            · next h => exact absurd (.inr (.inr h)) hno
            · cases hm
  have h1 : n.2.1.data.toList = [] := by
    rw [ByteArray.toList_eq] at h0
    simpa using h0
  have h2 : n.2.1.data = #[] := by simpa using h1
  cases hb : n.2.1 with
  | mk d => rw [hb] at h2; simp only at h2; rw [h2]
/-- behind the name -/
theorem tail_split {n m : Tg} {ks js : List Ex} (hx : Good (.mk n ks)) (hy : Good (.mk m js)) (hn : n.1 = 3 ∨ n.1 = 6) (hm : m.1 = 3 ∨ m.1 = 6) (hnm : n.2.1 = m.2.1) (hE : ∀ e ∈ ks, EP e) {u v : List UInt8} (hu : stopA u) (hv : stopA v)
    (h : tailT (.mk n ks) ++ u = tailT (.mk m js) ++ v) : Ex.Ex.mk n ks = .mk m js ∧ u = v := by
  obtain ⟨ma, la⟩ := hx.own
  obtain ⟨mb, lb⟩ := hy.own
  have pa := (Ex.parts_nat ma).1
  have pb := (Ex.parts_nat mb).1
  have no40 : ∀ {z : List UInt8}, stopA z → ∀ r, z ≠ 40 :: r := fun hz r e => by
    rcases hz 40 r e with h | h | h | h <;> cases h
  have no126 : ∀ {z : List UInt8}, stopA z → ∀ r, z ≠ 126 :: r := fun hz r e => by
    rcases hz 126 r e with h | h | h | h <;> cases h
  unfold Ex.partsN at pa pb
  simp only [tailT] at h
  by_cases a3 : n.1 = 3
  · rw [if_pos a3] at h
    rw [if_neg (by omega)] at pa
    by_cases b3 : m.1 = 3
    · rw [if_pos b3] at h
      rw [if_neg (by omega)] at pb
      have done : ks = js → u = v → Ex.Ex.mk n ks = .mk m js ∧ u = v := fun e1 e2 => by
        subst e1
        exact ⟨by rw [tg_eq (by omega) hnm (by omega)], e2⟩
      cases ks with
      | nil =>
        cases js with
        | nil => simp only [textsP, conL, if_true, List.nil_append] at h; exact done rfl h
        | cons f js =>
          simp only [textsP, conL, if_true, List.nil_append, List.cons_append] at h
          exact absurd h (no40 hu _)
      | cons e ks =>
        cases js with
        | nil =>
          simp only [textsP, conL, if_true, List.nil_append, List.cons_append] at h
          exact absurd h.symm (no40 hv _)
        | cons f js =>
          have hne : ∀ (g : Ex) (gs : List Ex), (if textsP (g :: gs) = [] then ([] : List UInt8) else [41]) = [41] := fun g gs => by
            rw [if_neg (by simp [textsP])]
          rw [hne, hne] at h
          simp only [textsP, conL, if_true, List.cons_append, List.nil_append, List.append_assoc, List.cons.injEq, true_and] at h
          have stop : ∀ (gs : List Ex) (z : List UInt8), stopE (conL false (textsP gs) ++ 41 :: z) := fun gs z => by
            cases gs with
            | nil => exact stopE.end_ z
            | cons g gs => exact stopE.more _
          obtain ⟨e1, e2⟩ := hE e (by simp) f (hy.kid (by simp)) _ _ (stop ks u) (stop js v) h
          obtain ⟨e3, e4⟩ := con_parts ks js (fun x hx => hE x (by simp [hx])) (fun x hx => hy.kid (by simp [hx])) u v e2
          exact done (by rw [e1, e3]) e4
    · have b6 : m.1 = 6 := by omega
      rw [if_neg b3, if_pos b6] at h
      cases ks with
      | nil =>
        simp only [textsP, conL, if_true, List.nil_append, List.cons_append] at h
        exact absurd h (no126 hu _)
      | cons e ks =>
        simp only [textsP, conL, if_true, List.cons_append, List.cons.injEq] at h
        exact absurd h.1 (by decide)
  · have a6 : n.1 = 6 := by omega
    rw [if_neg a3, if_pos a6] at h
    by_cases b3 : m.1 = 3
    · rw [if_pos b3] at h
      cases js with
      | nil =>
        simp only [textsP, conL, if_true, List.nil_append, List.cons_append] at h
        exact absurd h.symm (no126 hv _)
      | cons e js =>
        simp only [textsP, conL, if_true, List.cons_append, List.cons.injEq] at h
        exact absurd h.1 (by decide)
    · have b6 : m.1 = 6 := by omega
      rw [if_neg b3, if_pos b6] at h
      rw [if_pos a6] at pa
      rw [if_pos b6] at pb
      obtain ⟨e, rfl⟩ : ∃ e, ks = [e] := by
        match ks, (by omega : ks.length = 1) with
        | [e], _ => exact ⟨e, rfl⟩
      obtain ⟨f, rfl⟩ : ∃ e, js = [e] := by
        match js, (by omega : js.length = 1) with
        | [e], _ => exact ⟨e, rfl⟩
      simp only [textsP, List.cons_append, List.cons.injEq, true_and, List.append_assoc] at h
      obtain ⟨_, i, ei, i1, i8⟩ := Ex.np_proj ma a6
      obtain ⟨_, j, ej, j1, j8⟩ := Ex.np_proj mb b6
      have hfig := h.1
      rw [ei, ej, Int.toNat_natCast, Int.toNat_natCast] at hfig
      have hij := fig_inj (by omega) (by omega) hfig
      have h2 := h.2
      simp only [nth, List.getElem?_cons_zero, Option.getD_some] at h2
      obtain ⟨e1, e2⟩ := hE e (by simp) f (hy.kid (by simp)) _ _ (stopE.end_ u) (stopE.end_ v) h2
      injection e2 with _ e2
      subst e1
      exact ⟨by rw [tg_eq (n := n) (m := m) (by omega) hnm (by rw [ei, ej, hij])], e2⟩
theorem leaf_A {x : Ex} (hg : Good x) (hno : ¬ isOp x) (hE : ∀ e ∈ x.kids, EP e) : AP x := fun y hy u v hu hv h => by
  have ax : atomT x = x.text := by unfold atomT; rw [if_neg hno]
  obtain ⟨c, r, ec, hc⟩ := leaf_head hg hno
  by_cases hyo : isOp y
  · rw [ax, ec] at h
    unfold atomT at h
    rw [if_pos hyo] at h
    simp only [List.cons_append, List.cons.injEq] at h
    exact absurd h.1 (headK_not hc)
  · have ay : atomT y = y.text := by unfold atomT; rw [if_neg hyo]
    obtain ⟨c', r', ec', hc'⟩ := leaf_head hy hyo
    rw [ax, ay] at h
    have hcc : c = c' := by
      rw [ec, ec'] at h
      simp only [List.cons_append, List.cons.injEq] at h
      exact h.1
    subst hcc
    obtain ⟨n, ks⟩ := x
    obtain ⟨m, js⟩ := y
    obtain ⟨ma, la⟩ := hg.own
    obtain ⟨mb, lb⟩ := hy.own
    have hk := headK_same hc hc'
    change n.1 = m.1 ∨ ((n.1 = 3 ∨ n.1 = 6) ∧ (m.1 = 3 ∨ m.1 = 6)) at hk
    rw [leaf_text hno, leaf_text hyo] at h
    have n4 : n.1 ≠ 4 := fun e => hno (.inl e)
    have n5 : n.1 ≠ 5 := fun e => hno (.inr e)
    have hkn := Ex.may_kinds ma
    by_cases h36 : n.1 = 3 ∨ n.1 = 6
    · have m36 : m.1 = 3 ∨ m.1 = 6 := by omega
      rw [if_neg (by omega), if_neg (by omega), if_neg (by omega), if_neg (by omega), List.append_assoc, List.append_assoc] at h
      obtain ⟨na, _⟩ := con_bytes ma h36
      obtain ⟨nb, _⟩ := con_bytes mb m36
      have tl : ∀ (p : Tg) (qs : List Ex) (z : List UInt8), (p.1 = 3 ∨ p.1 = 6) → stopA z → ∀ c r, tailT (.mk p qs) ++ z = c :: r → isNc c = false := fun p qs z hp hz c r e => by
        simp only [tailT] at e
        by_cases p3 : p.1 = 3
        · rw [if_pos p3] at e
          cases qs with
          | nil =>
            simp only [textsP, conL, if_true, List.nil_append] at e
            exact stop_nc hz c r e
          | cons q qs =>
            simp only [textsP, conL, if_true, List.cons_append, List.cons.injEq] at e
            rw [← e.1]; rfl
        · rw [if_neg p3, if_pos (by omega)] at e
          simp only [List.cons_append, List.cons.injEq] at e
          rw [← e.1]; rfl
      obtain ⟨e1, e2⟩ := name_split na nb (tl n ks u h36 hu) (tl m js v m36 hv) h
      exact tail_split hg hy h36 m36 (nm_inj e1) hE hu hv e2
    · have hkm : n.1 = m.1 := by omega
      have h012 : n.1 = 0 ∨ n.1 = 1 ∨ n.1 = 2 := by omega
      obtain ⟨rfl, c0⟩ := no_kids hg h012
      obtain ⟨rfl, c1⟩ := no_kids hy (by omega)
      have fin : n.2.1 = m.2.1 → u = v → Ex.Ex.mk n [] = .mk m [] ∧ u = v := fun e1 e2 => ⟨by rw [tg_eq hkm e1 (by omega)], e2⟩
      by_cases h0 : n.1 = 0
      · rw [if_pos h0, if_pos (by omega)] at h
        simp only [List.cons_append, List.nil_append, List.cons.injEq, true_and] at h
        exact fin (by rw [empty_name9 ma (by omega), empty_name9 mb (by omega)]) h
      · by_cases h1 : n.1 = 1
        · rw [if_neg h0, if_pos h1, if_neg (by omega), if_pos (by omega)] at h
          simp only [List.cons_append, List.nil_append, List.cons.injEq, true_and] at h
          exact fin (by rw [empty_name9 ma (by omega), empty_name9 mb (by omega)]) h
        · have h2 : n.1 = 2 := by omega
          have tn : ∀ (p : Tg), p.1 = 2 → tailT (.mk p []) = [] := fun p hp => by
            simp only [tailT]; rw [if_neg (by omega), if_neg (by omega)]
          rw [if_neg h0, if_neg h1, if_neg (by omega), if_neg (by omega), tn n h2, tn m (by omega), List.append_nil, List.append_nil] at h
          obtain ⟨e1, e2⟩ := name_split (var_bytes ma h2).1 (var_bytes mb (by omega)).1 (stop_nc hu) (stop_nc hv) h
          exact fin (nm_inj e1) e2

def sgn (k : Int) : UInt8 := if k = 4 then 124 else 38
/-- the parts of an operation, one behind the other -/
def spine (k : Int) : Ex → List Ex
  | .mk n [a, b] => if n.1 = k then spine k a ++ [b] else [.mk n [a, b]]
  | x => [x]
def joinA (s : UInt8) : List Ex → List UInt8
  | [] => []
  | [e] => atomT e
  | e :: f :: r => atomT e ++ s :: joinA s (f :: r)
theorem joinA_snoc (s : UInt8) : ∀ (l : List Ex) (b : Ex), l ≠ [] → joinA s (l ++ [b]) = joinA s l ++ s :: atomT b
  | [], b, h => absurd rfl h
  | [e], b, _ => rfl
  | e :: f :: r, b, _ => by
    show atomT e ++ s :: joinA s ((f :: r) ++ [b]) = _
    rw [joinA_snoc s (f :: r) b (by simp)]
    simp [joinA]
theorem spine_ne (k : Int) (x : Ex) : spine k x ≠ [] := by
  unfold spine
  split
  · split
    · simp
    · simp
  · simp
theorem op_kids {n : Tg} {ks : List Ex} (hg : Good (.mk n ks)) (h : n.1 = 4 ∨ n.1 = 5) : (∃ a b, ks = [a, b]) ∧ n.2.1 = ⟨#[]⟩ ∧ n.2.2 = 2 := by
  obtain ⟨hm, hl⟩ := hg.own
  have h2 := Ex.np_two hm h
  rw [h2] at hl
  refine ⟨?_, empty_name9 hm (by omega), ?_⟩
  · match ks, hl with
    | [a, b], _ => exact ⟨a, b, rfl⟩
  · have := (Ex.parts_nat hm).1
    unfold Ex.partsN at this
    rw [if_neg (by omega), h2] at this
    exact this
theorem side_false (k : Int) (b : Ex) : sideL k false (b.root.1, b.text) = atomT b := by
  unfold sideL atomT isOp
  simp only [true_or, and_true]
theorem side_true (k : Int) (x : Ex) : sideL k true (x.root.1, x.text) = if isOp x ∧ x.root.1 ≠ k then 40 :: (x.text ++ [41]) else x.text := by
  have e : sideL k true (x.root.1, x.text) = if ((x.root.1 = 4 ∨ x.root.1 = 5) ∧ (true = false ∨ x.root.1 ≠ k)) then 40 :: (x.text ++ [41]) else x.text := rfl
  rw [e]
  by_cases h1 : isOp x
  · by_cases h2 : x.root.1 = k
    · rw [if_neg (show ¬ ((x.root.1 = 4 ∨ x.root.1 = 5) ∧ (true = false ∨ x.root.1 ≠ k)) from fun c => c.2.elim (fun e => by cases e) (fun e => e h2)), if_neg (show ¬ (isOp x ∧ x.root.1 ≠ k) from fun c => c.2 h2)]
    · rw [if_pos (show ((x.root.1 = 4 ∨ x.root.1 = 5) ∧ (true = false ∨ x.root.1 ≠ k)) from ⟨h1, .inr h2⟩), if_pos (show isOp x ∧ x.root.1 ≠ k from ⟨h1, h2⟩)]
  · rw [if_neg (show ¬ ((x.root.1 = 4 ∨ x.root.1 = 5) ∧ (true = false ∨ x.root.1 ≠ k)) from fun c => h1 c.1), if_neg (show ¬ (isOp x ∧ x.root.1 ≠ k) from fun c => h1 c.1)]
theorem spine_one (k : Int) : ∀ (x : Ex), x.root.1 ≠ k → spine k x = [x]
  | .mk n [], _ => rfl
  | .mk n [a], _ => rfl
  | .mk n [a, b], h => by simp only [spine]; rw [if_neg (show ¬ n.1 = k from h)]
  | .mk n (a :: b :: c :: r), _ => rfl
theorem spine_two (k : Int) {n : Tg} {a b : Ex} (h : n.1 = k) : spine k (.mk n [a, b]) = spine k a ++ [b] := by simp only [spine]; rw [if_pos h]
/-- an operation's text: its parts' -/
theorem spine_text (k : Int) (hk : k = 4 ∨ k = 5) : ∀ (x : Ex), Good x → sideL k true (x.root.1, x.text) = joinA (sgn k) (spine k x)
  | .mk n ks, hg => by
    by_cases h : n.1 = k
    · obtain ⟨⟨a, b, rfl⟩, _, _⟩ := op_kids hg (by omega)
      have ih := spine_text k hk a (hg.kid (by simp))
      rw [spine_two k h, joinA_snoc _ _ _ (spine_ne k a), ← ih, ← side_false k b, side_true, if_neg (fun c => c.2 h)]
      show txt n (textsP [a, b]) = _
      unfold txt
      rcases hk with rfl | rfl
      · rw [if_neg (by omega), if_neg (by omega), if_neg (by omega), if_pos h]; rfl
      · rw [if_neg (by omega), if_neg (by omega), if_neg (by omega), if_neg (by omega), if_pos h]; rfl
    · rw [spine_one k (.mk n ks) h, side_true]
      show _ = atomT (.mk n ks)
      unfold atomT
      by_cases ho : isOp (.mk n ks)
      · rw [if_pos ⟨ho, h⟩, if_pos ho]
      · rw [if_neg (fun c => ho c.1), if_neg ho]
theorem spine_good (k : Int) : ∀ (x : Ex), Good x → ∀ e ∈ spine k x, Good e ∧ e.size ≤ x.size
  | .mk n ks, hg, e, he => by
    unfold spine at he
    split at he
    · next n' a b heq =>
      injection heq with e1 e2
      subst e1 e2
      split at he
      · simp only [List.mem_append, List.mem_cons, List.not_mem_nil, or_false] at he
        have sa := kid_small (n := n) (ks := [a, b]) (e := a) (by simp)
        have sb := kid_small (n := n) (ks := [a, b]) (e := b) (by simp)
        rcases he with he | rfl
        · obtain ⟨g1, g2⟩ := spine_good k a (hg.kid (by simp)) e he
          exact ⟨g1, by omega⟩
        · exact ⟨hg.kid (by simp), by omega⟩
      · simp only [List.mem_cons, List.not_mem_nil, or_false] at he
        subst he
        exact ⟨hg, Nat.le_refl _⟩
    · simp only [List.mem_cons, List.not_mem_nil, or_false] at he
      subst he
      exact ⟨hg, Nat.le_refl _⟩
theorem spine_inj (k : Int) (hk : k = 4 ∨ k = 5) : ∀ (x y : Ex), Good x → Good y → spine k x = spine k y → x = y
  | .mk n ks, .mk m js, hx, hy, h => by
    by_cases h1 : n.1 = k
    · obtain ⟨⟨a, b, rfl⟩, p1, p2⟩ := op_kids hx (by omega)
      have e1 := spine_two k (a := a) (b := b) h1
      rw [e1] at h
      by_cases h2 : m.1 = k
      · obtain ⟨⟨a', b', rfl⟩, q1, q2⟩ := op_kids hy (by omega)
        have e2 := spine_two k (a := a') (b := b') h2
        rw [e2] at h
        obtain ⟨g1, g2⟩ := List.append_inj' h rfl
        injection g2 with g2
        rw [spine_inj k hk a a' (hx.kid (by simp)) (hy.kid (by simp)) g1, g2, tg_eq (n := n) (m := m) (by omega) (by rw [p1, q1]) (by omega)]
      · rw [spine_one k (.mk m js) h2] at h
        have := congrArg List.length h
        have hne := spine_ne k a
        cases hs : spine k a with
        | nil => exact absurd hs hne
        | cons z zs => rw [hs] at this; simp at this
    · rw [spine_one k (.mk n ks) h1] at h
      by_cases h2 : m.1 = k
      · obtain ⟨⟨a', b', rfl⟩, q1, q2⟩ := op_kids hy (by omega)
        have e2 := spine_two k (a := a') (b := b') h2
        rw [e2] at h
        have := congrArg List.length h
        have hne := spine_ne k a'
        cases hs : spine k a' with
        | nil => exact absurd hs hne
        | cons z zs => rw [hs] at this; simp at this
      · rw [spine_one k (.mk m js) h2] at h
        injection h
theorem join_split (s s' : UInt8) (hs : s = 124 ∨ s = 38) (hs' : s' = 124 ∨ s' = 38) : ∀ (l r : List Ex), l ≠ [] → r ≠ [] → (∀ e ∈ l, AP e) → (∀ f ∈ r, Good f) → ∀ u v, stopE u → stopE v → joinA s l ++ u = joinA s' r ++ v → l = r ∧ u = v ∧ (2 ≤ l.length → s = s')
  | [], _, h, _, _, _, _, _, _, _, _ => absurd rfl h
  | _ :: _, [], _, h, _, _, _, _, _, _, _ => absurd rfl h
  | [e], [f], _, _, h1, h2, u, v, hu, hv, h => by
    obtain ⟨e1, e2⟩ := h1 e (by simp) f (h2 f (by simp)) u v hu.a hv.a h
    exact ⟨by rw [e1], e2, fun h => by simp at h⟩
  | [e], f :: g :: r, _, _, h1, h2, u, v, hu, hv, h => by
    have h' : atomT e ++ u = atomT f ++ (s' :: joinA s' (g :: r) ++ v) := by rw [← List.append_assoc]; exact h
    have hst : stopA (s' :: joinA s' (g :: r) ++ v) := fun c r e => by
      injection e with e _
      rcases hs' with x | x
      · exact .inr (.inr (.inl (by rw [← e, x])))
      · exact .inr (.inr (.inr (by rw [← e, x])))
    obtain ⟨_, e2⟩ := h1 e (by simp) f (h2 f (by simp)) u _ hu.a hst h'
    exfalso
    rcases hu _ _ e2 with x | x <;> rcases hs' with y | y <;> rw [y] at x <;> cases x
  | e :: f :: r, [g], _, _, h1, h2, u, v, hu, hv, h => by
    have h' : atomT e ++ (s :: joinA s (f :: r) ++ u) = atomT g ++ v := by rw [← List.append_assoc]; exact h
    have hst : stopA (s :: joinA s (f :: r) ++ u) := fun c r e => by
      injection e with e _
      rcases hs with x | x
      · exact .inr (.inr (.inl (by rw [← e, x])))
      · exact .inr (.inr (.inr (by rw [← e, x])))
    obtain ⟨_, e2⟩ := h1 e (by simp) g (h2 g (by simp)) _ v hst hv.a h'
    exfalso
    rcases hv _ _ e2.symm with x | x <;> rcases hs with y | y <;> rw [y] at x <;> cases x
  | e :: f :: r, g :: i :: t, _, _, h1, h2, u, v, hu, hv, h => by
    have h' : atomT e ++ (s :: joinA s (f :: r) ++ u) = atomT g ++ (s' :: joinA s' (i :: t) ++ v) := by rw [← List.append_assoc, ← List.append_assoc]; exact h
    have st : ∀ (z : UInt8) (w : List UInt8), (z = 124 ∨ z = 38) → stopA (z :: w) := fun z w hz c r e => by
      injection e with e _
      rcases hz with x | x
      · exact .inr (.inr (.inl (by rw [← e, x])))
      · exact .inr (.inr (.inr (by rw [← e, x])))
    obtain ⟨e1, e2⟩ := h1 e (by simp) g (h2 g (by simp)) _ _ (st _ _ hs) (st _ _ hs') h'
    simp only [List.cons.injEq] at e2
    obtain ⟨e3, e4, _⟩ := join_split s s' hs hs' (f :: r) (i :: t) (by simp) (by simp) (fun x hx => h1 x (by simp at hx ⊢; exact .inr hx)) (fun x hx => h2 x (by simp at hx ⊢; exact .inr hx)) u v hu hv e2.2
    exact ⟨by rw [e1, e3], e4, fun _ => e2.1⟩
def kOf (x : Ex) : Int := if x.root.1 = 4 then 4 else 5
theorem kOf_ok (x : Ex) : kOf x = 4 ∨ kOf x = 5 := by unfold kOf; split <;> simp
theorem sgn_inj {k m : Int} (hk : k = 4 ∨ k = 5) (hm : m = 4 ∨ m = 5) (h : sgn k = sgn m) : k = m := by
  rcases hk with rfl | rfl <;> rcases hm with rfl | rfl <;> first | rfl | exact absurd h (by decide)
theorem text_spine {x : Ex} (hg : Good x) : x.text = if isOp x then joinA (sgn (kOf x)) (spine (kOf x) x) else atomT x := by
  by_cases h : isOp x
  · rw [if_pos h]
    have hr : x.root.1 = kOf x := by
      unfold kOf
      rcases h with h | h
      · rw [if_pos h]; exact h
      · rw [if_neg (by omega)]; exact h
    rw [← spine_text (kOf x) (kOf_ok x) x hg]
    rw [side_true, if_neg (fun c => c.2 hr)]
  · rw [if_neg h]; unfold atomT; rw [if_neg h]
/-- two right expressions of one text are one -/
theorem text_all : ∀ (N : Nat) (x : Ex), x.size ≤ N → Good x → EP x ∧ AP x
  | 0, x, h, _ => by have := Ex.size_pos x; omega
  | N + 1, x, hN, hg => by
    have ih : ∀ e : Ex, e.size < x.size → Good e → EP e ∧ AP e := fun e he hge => text_all N e (by omega) hge
    -- what x is, as a row of parts
    have rowE : ∀ (s : UInt8) (l : List Ex), (s = 124 ∨ s = 38) → l ≠ [] → x.text = joinA s l → (∀ e ∈ l, AP e) → (isOp x → s = sgn (kOf x) ∧ l = spine (kOf x) x ∧ 2 ≤ l.length) → (¬ isOp x → l = [x]) → EP x := fun s l hs hl hx hA h1 h2 y hy u v hu hv h => by
      have ty := text_spine hy
      by_cases hyo : isOp y
      · rw [if_pos hyo] at ty
        have hsy : sgn (kOf y) = 124 ∨ sgn (kOf y) = 38 := by unfold sgn; split <;> simp
        rw [hx, ty] at h
        obtain ⟨e1, e2, e3⟩ := join_split s _ hs hsy l _ hl (spine_ne _ _) hA (fun f hf => (spine_good _ y hy f hf).1) u v hu hv h
        by_cases hxo : isOp x
        · obtain ⟨p1, p2, p3⟩ := h1 hxo
          have hss := e3 p3
          have hkk : kOf x = kOf y := by
            rw [p1] at hss
            exact sgn_inj (kOf_ok x) (kOf_ok y) hss
          rw [p2, hkk] at e1
          exact ⟨spine_inj (kOf y) (kOf_ok y) x y hg hy e1, e2⟩
        · have h3 := h2 hxo
          rw [h3] at e1
          have : (spine (kOf y) y).length = 1 := by rw [← e1]; rfl
          exfalso
          have hr : y.root.1 = kOf y := by
            unfold kOf
            rcases hyo with h | h
            · rw [if_pos h]; exact h
            · rw [if_neg (by omega)]; exact h
          obtain ⟨m, js⟩ := y
          obtain ⟨⟨a', b', rfl⟩, _, _⟩ := op_kids hy hyo
          have e4 : spine (kOf (.mk m [a', b'])) (.mk m [a', b']) = spine (kOf (.mk m [a', b'])) a' ++ [b'] := by
            exact spine_two _ hr
          rw [e4] at this
          have hne := spine_ne (kOf (.mk m [a', b'])) a'
          cases hz : spine (kOf (.mk m [a', b'])) a' with
          | nil => exact absurd hz hne
          | cons z zs => rw [hz] at this; simp at this
      · rw [if_neg hyo] at ty
        have ty' : y.text = joinA 124 [y] := ty
        rw [hx, ty'] at h
        obtain ⟨e1, e2, _⟩ := join_split s 124 hs (.inl rfl) l [y] hl (by simp) hA (fun f hf => by simp at hf; rw [hf]; exact hy) u v hu hv h
        by_cases hxo : isOp x
        · have := (h1 hxo).2.2
          rw [e1] at this; simp at this
        · rw [h2 hxo] at e1
          injection e1 with e1
          exact ⟨e1, e2⟩
    by_cases hxo : isOp x
    · have hr : x.root.1 = kOf x := by
        unfold kOf
        rcases hxo with h | h
        · rw [if_pos h]; exact h
        · rw [if_neg (by omega)]; exact h
      have tx := text_spine hg
      rw [if_pos hxo] at tx
      obtain ⟨hsm, hln⟩ : (∀ e ∈ spine (kOf x) x, Good e ∧ e.size < x.size) ∧ 2 ≤ (spine (kOf x) x).length := by
        clear rowE ih tx
        obtain ⟨n, ks⟩ := x
        obtain ⟨⟨a, b, rfl⟩, _, _⟩ := op_kids hg hxo
        have e4 : spine (kOf (.mk n [a, b])) (.mk n [a, b]) = spine (kOf (.mk n [a, b])) a ++ [b] := by
          exact spine_two _ hr
        rw [e4]
        have sa := kid_small (n := n) (ks := [a, b]) (e := a) (by simp)
        have sb := kid_small (n := n) (ks := [a, b]) (e := b) (by simp)
        refine ⟨fun e he => ?_, ?_⟩
        · simp only [List.mem_append, List.mem_cons, List.not_mem_nil, or_false] at he
          rcases he with he | rfl
          · obtain ⟨g1, g2⟩ := spine_good _ a (hg.kid (by simp)) e he
            exact ⟨g1, by omega⟩
          · exact ⟨hg.kid (by simp), sb⟩
        · have hne := spine_ne (kOf (.mk n [a, b])) a
          cases hz : spine (kOf (.mk n [a, b])) a with
          | nil => exact absurd hz hne
          | cons z zs => simp
      have hE : EP x := rowE (sgn (kOf x)) (spine (kOf x) x) (by unfold sgn; split <;> simp) (spine_ne _ _) tx (fun e he => (ih e (hsm e he).2 (hsm e he).1).2) (fun _ => ⟨rfl, rfl, hln⟩) (fun h => absurd hxo h)
      refine ⟨hE, fun y hy u v hu hv h => ?_⟩
      unfold atomT at h
      rw [if_pos hxo] at h
      by_cases hyo : isOp y
      · rw [if_pos hyo] at h
        simp only [List.cons_append, List.cons.injEq, true_and, List.append_assoc, List.nil_append] at h
        obtain ⟨e1, e2⟩ := hE y hy _ _ (stopE.end_ u) (stopE.end_ v) h
        injection e2 with _ e2
        exact ⟨e1, e2⟩
      · rw [if_neg hyo] at h
        obtain ⟨c, r, ec, hc⟩ := leaf_head hy hyo
        rw [ec] at h
        simp only [List.cons_append, List.cons.injEq] at h
        exact absurd h.1.symm (headK_not hc)
    · have hA : AP x := leaf_A hg hxo fun e he => by
        obtain ⟨n, ks⟩ := x
        exact (ih e (kid_small he) (hg.kid he)).1
      refine ⟨rowE 124 [x] (.inl rfl) (by simp) ?_ (fun e he => by simp at he; rw [he]; exact hA) (fun h => absurd h hxo) (fun _ => rfl), hA⟩
      have tx := text_spine hg
      rw [if_neg hxo] at tx
      exact tx
theorem text_inj {x y : Ex} (hx : Good x) (hy : Good y) (h : x.text = y.text) : x = y :=
  ((text_all x.size x (Nat.le_refl _) hx).1 y hy [] [] stopE.nil stopE.nil (by rw [h])).1
theorem text_ne {x : Ex} (hx : Good x) : x.text ≠ [] := fun h => by
  by_cases ho : isOp x
  · have := text_spine hx
    rw [if_pos ho, h] at this
    cases hs : spine (kOf x) x with
    | nil => exact absurd hs (spine_ne _ _)
    | cons e r =>
      rw [hs] at this
      have hge := (spine_good (kOf x) x hx e (by rw [hs]; simp)).1
      have hne : atomT e ≠ [] := by
        unfold atomT
        by_cases he : isOp e
        · rw [if_pos he]; simp
        · rw [if_neg he]
          obtain ⟨c, r, ec, _⟩ := leaf_head hge he
          rw [ec]; simp
      cases r with
      | nil => exact hne this.symm
      | cons f r =>
        simp only [joinA] at this
        have := this.symm
        simp at this
  · obtain ⟨c, r, ec, _⟩ := leaf_head hx ho
    rw [ec] at h; cases h
end Go.Proofs.YtdmdcggmgipdbaaGreatDoor.Ld

namespace Go.Proofs.YtdmdcggmgipdbaaGreatDoor.Ld
open Go.RowKit Kit Rw
open Go.Proofs.YtdmdcggmgipdbaaGreatDoor.Sg (Sig findI)
open Go.Proofs.YtdmdcggmgipdbaaGreatDoor.Hs (putL placeI atI Dist)
open Go.Proofs.YtdmdcggmgipdbaaGreatDoor.Tm (Tm Store put3E put3L put3I mayB)
open Go.Proofs.YtdmdcggmgipdbaaGreatDoor.Ex (Ex atS varsF runS mayN np)
theorem atS_neg (s : ByteArray) (l : List ByteArray) : atS s l 0 < 0 ↔ s ∉ l := by
  rcases atS_cases s l 0 with ⟨h, k⟩ | ⟨j, h, k⟩
  · constructor
    · exact fun _ => k
    · intro _; omega
  · constructor
    · intro h2; omega
    · intro h2; exact absurd (List.mem_of_getElem? h) h2
/-- what isn't among the names -/
def newN (names l : List ByteArray) : List ByteArray := l.filter fun v => decide (atS v names 0 < 0)
theorem newN_mem {names l : List ByteArray} {v : ByteArray} : v ∈ newN names l ↔ v ∈ l ∧ v ∉ names := by
  unfold newN
  rw [List.mem_filter, decide_eq_true_iff, atS_neg]
theorem newN_snoc (names l : List ByteArray) (v : ByteArray) : newN names (l ++ [v]) = newN names l ++ if atS v names 0 < 0 then [v] else [] := by
  unfold newN
  rw [List.filter_append]
  by_cases h : atS v names 0 < 0
  · rw [if_pos h]; simp [h]
  · rw [if_neg h]; simp [h]
theorem varsF_split (names : List ByteArray) : ∀ (r : List Tg) (o : List ByteArray), varsF r (names ++ newN names o) = names ++ newN names (varsF r o)
  | [], o => rfl
  | n :: r, o => by
    unfold varsF
    by_cases h2 : n.1 = 2
    · by_cases ho : n.2.1 ∈ o
      · rw [if_neg (c := n.1 = 2 ∧ atS n.2.1 o 0 < 0) (by rw [atS_neg]; rintro ⟨_, h⟩; exact h ho), if_neg]
        · exact varsF_split names r o
        · rw [atS_neg]
          rintro ⟨_, h⟩
          apply h
          by_cases hn : n.2.1 ∈ names
          · exact List.mem_append_left _ hn
          · exact List.mem_append_right _ (newN_mem.2 ⟨ho, hn⟩)
      · rw [if_pos (c := n.1 = 2 ∧ atS n.2.1 o 0 < 0) ⟨h2, by rw [atS_neg]; exact ho⟩]
        have e := varsF_split names r (o ++ [n.2.1])
        rw [newN_snoc] at e
        by_cases hn : n.2.1 ∈ names
        · rw [if_neg (by rw [atS_neg]; exact fun h => h hn), List.append_nil] at e
          rw [if_neg]
          · exact e
          · rw [atS_neg]
            rintro ⟨_, h⟩
            exact h (List.mem_append_left _ hn)
        · rw [if_pos (by rw [atS_neg]; exact hn)] at e
          rw [if_pos]
          · rw [List.append_assoc]; exact e
          · refine ⟨h2, ?_⟩
            rw [atS_neg, List.mem_append, newN_mem]
            rintro (h | h)
            · exact hn h
            · exact ho h.1
    · rw [if_neg (c := n.1 = 2 ∧ atS n.2.1 o 0 < 0) (fun h => h2 h.1), if_neg (fun h => h2 h.1)]
      exact varsF_split names r o
theorem load_own {L : List Sig} {limit : Int} : ∀ (r : List Tg) (s : LS), (loadF L limit r s).1 = 0 → (loadF L limit r s).2.own = varsF r s.own
  | [], s, _ => rfl
  | n :: r, s, h => by
    unfold loadF at h ⊢
    by_cases he : put3E L s.ks (tmS L s n) limit = 0
    · rw [if_pos he] at h ⊢
      rw [load_own r _ h]
      rfl
    · rw [if_neg he] at h; exact absurd h he
/-- the names of a loaded expression -/
theorem loadN_is {L : List Sig} {limit : Int} {ks : List (List Int)} {names : List ByteArray} {l : List Tg} (h : loadE L limit ks names l = 0) : loadN L limit ks names l = names ++ newN names (varsF l []) := by
  unfold loadN
  rw [if_pos h, load_own l _ h]
  have := varsF_split names l []
  simpa [newN] using this

def ex9L : List Sig := [(⟨#[99]⟩, ⟨#[43]⟩)]
def ex9N : List Tg := [(2, ⟨#[88]⟩, 0), (3, ⟨#[99]⟩, 1)]
def ex9E : Ex := .mk (3, ⟨#[99]⟩, 1) [.mk (2, ⟨#[88]⟩, 0) []]
def ex9K : List (List Int) := [[0, 0, 0], [1, 0, 0], [2, 0, 0], [3, 0, 0, 2]]
theorem ex9_find : findI (⟨#[99]⟩ : ByteArray) ex9L 0 = 0 := by
  show (if Sg.eqS ⟨#[99]⟩ ⟨#[99]⟩ = true then ((0 : Nat) : Int) else _) = _
  rw [if_pos ((Sg.eqS_iff _ _).2 rfl)]
  rfl
theorem ex9_run : runS [] ex9N = some [ex9E] := by rfl
theorem ex9_may : ∀ t ∈ ex9N, mayN t = true := by
  intro t ht
  simp only [ex9N, List.mem_cons, List.not_mem_nil, or_false] at ht
  rcases ht with rfl | rfl
  all_goals first | decide | (unfold mayN; rw [ByteArray.toList_eq]; rfl)
theorem ex9_load : loadF ex9L 9 ex9N ⟨[[0, 0, 0], [1, 0, 0]], [], []⟩ = (0, ⟨ex9K, [⟨#[88]⟩], [3]⟩) := by
  have e1 : tmS ex9L ⟨[[0, 0, 0], [1, 0, 0]], [], []⟩ (2, ⟨#[88]⟩, 0) = ⟨2, 0, 0, []⟩ := by rfl
  have e2 : stepS ex9L 9 ⟨[[0, 0, 0], [1, 0, 0]], [], []⟩ (2, ⟨#[88]⟩, 0) = ⟨[[0, 0, 0], [1, 0, 0], [2, 0, 0]], [⟨#[88]⟩], [2]⟩ := by
    unfold stepS
    rw [e1]
    rfl
  have e3 : tmS ex9L ⟨[[0, 0, 0], [1, 0, 0], [2, 0, 0]], [⟨#[88]⟩], [2]⟩ (3, ⟨#[99]⟩, 1) = ⟨3, 0, 0, [2]⟩ := by
    unfold tmS tmN symN
    rw [if_neg (by decide), if_pos (by decide), ex9_find]
    rfl
  have e4 : stepS ex9L 9 ⟨[[0, 0, 0], [1, 0, 0], [2, 0, 0]], [⟨#[88]⟩], [2]⟩ (3, ⟨#[99]⟩, 1) = ⟨ex9K, [⟨#[88]⟩], [3]⟩ := by
    unfold stepS
    rw [e3]
    rfl
  unfold ex9N loadF
  rw [e1, if_pos (by rfl), e2]
  unfold loadF
  rw [e3, if_pos (by rfl), e4]
  rfl
theorem ex9_E : loadE ex9L 9 [[0, 0, 0], [1, 0, 0]] [] ex9N = 0 := by unfold loadE; rw [ex9_load]
theorem ex9_K : loadK ex9L 9 [[0, 0, 0], [1, 0, 0]] [] ex9N = ex9K := by unfold loadK; rw [if_pos ex9_E, ex9_load]
theorem ex9_N : loadN ex9L 9 [[0, 0, 0], [1, 0, 0]] [] ex9N = [⟨#[88]⟩] := by unfold loadN; rw [if_pos ex9_E, ex9_load]
theorem ex9_I : loadI ex9L 9 [[0, 0, 0], [1, 0, 0]] [] ex9N = 3 := by unfold loadI; rw [if_pos ex9_E, ex9_load]; rfl
theorem ex9_exP : exP ex9L [⟨#[88]⟩] ex9K 3 = ex9E := by rfl
theorem ex9_vars : varsB [⟨#[88]⟩] ex9K 3 = true := by rfl
theorem ex9_right : Ex.rightB ex9N = true := by
  have hc : Ex.countN 0 ex9N = some 1 := by
    unfold ex9N Ex.countN
    rw [if_pos ⟨ex9_may _ (by simp [ex9N]), by decide⟩]
    unfold Ex.countN
    rw [if_pos ⟨ex9_may _ (by simp [ex9N]), by decide⟩]
    rfl
  have ht : Ex.textAt ex9N (ex9N.length - 1) = [99, 40, 88, 41] := by rfl
  unfold Ex.rightB
  rw [hc, ht]
  rfl
theorem ex9_E2 : nodesE ex9L [⟨#[88]⟩] ex9K 3 = 0 := by
  unfold nodesE
  rw [show ((3 : Int)).toNat = 3 from rfl, ex9_exP, ex9_vars, if_pos (by rfl), if_pos rfl, if_neg (by decide)]
  rw [show ex9E.nodes = ex9N from rfl, if_pos ex9_right]
theorem ex9_T : textV ex9L [⟨#[88]⟩] ex9K 3 = [99, 40, 88, 41] := by
  unfold textV
  rw [if_pos ex9_E2, show ((3 : Int)).toNat = 3 from rfl, ex9_exP]
  rfl
end Go.Proofs.YtdmdcggmgipdbaaGreatDoor.Ld

namespace Go.Proofs.YtdmdcggmgipdbaaGreatDoor.Ld
open Go.RowKit Kit Rw
open Go.Proofs.YtdmdcggmgipdbaaGreatDoor.Sg (Sig findI)
open Go.Proofs.YtdmdcggmgipdbaaGreatDoor.Tm (Tm Store ofKey Made belowL argsOf)
open Go.Proofs.YtdmdcggmgipdbaaGreatDoor.Ex (Ex nodesL total7)
theorem below_sorted (ks : List (List Int)) (id : Nat) : ∃ l : List Nat, belowL ks id = Tm.castL l ∧ l.Pairwise (· < ·) ∧ ∀ y, y ∈ l ↔ Made ks id y := by
  obtain ⟨f, hf, h⟩ := Tm.below_is ks id
  refine ⟨(List.range (id + 1)).filter f, h, List.Pairwise.filter _ List.pairwise_lt_range, fun y => ?_⟩
  rw [List.mem_filter, List.mem_range, ← hf y]
  constructor
  · exact fun h => h.2
  · intro h
    exact ⟨by have := Made.le ((hf y).1 h); omega, h⟩
theorem castL_len (l : List Nat) : (Tm.castL l).length = l.length := by simp [Tm.castL]
theorem castL_at {l : List Nat} {k : Nat} (h : k < l.length) : (Tm.castL l)[k]'(by rw [castL_len]; exact h) = (l[k] : Int) := by simp [Tm.castL]
/-- what stands ahead in a rising row is in its first ones -/
theorem sorted_ahead {l : List Nat} (h : l.Pairwise (· < ·)) {k : Nat} (hk : k < l.length) {a : Nat} (ha : a ∈ l) (hlt : a < l[k]) : a ∈ l.take k := by
  obtain ⟨j, hj, rfl⟩ := List.getElem_of_mem ha
  have hjk : j < k := by
    rcases Nat.lt_or_ge j k with h1 | h1
    · exact h1
    · rcases Nat.lt_or_eq_of_le h1 with h2 | h2
      · have := List.pairwise_iff_getElem.1 h k j hk hj h2
        omega
      · subst h2; omega
  rw [List.mem_take_iff_getElem]
  exact ⟨j, by omega, rfl⟩
section
variable {L : List Sig} {names : List ByteArray} {ks : List (List Int)}
theorem nodes_eq (hS : Store L ks) {i : Nat} (hi : i < ks.length) : (exP L names ks i).nodes = nodesL ((tmP ks i).xs.map fun a => exP L names ks a.toNat) ++ [oneN L names (tmP ks i)] := by
  have hk := List.getElem?_eq_getElem hi
  rw [exP_kids hS hk]
  have : tmP ks i = ofKey ks[i] := by unfold tmP; rw [hk]; rfl
  rw [this]; rfl
theorem part_small (hS : Store L ks) {i : Nat} (hi : i < ks.length) {a : Int} (ha : a ∈ (tmP ks i).xs) : 0 ≤ a ∧ a < (i : Int) ∧ szP ks a.toNat < szP ks i := by
  have hk := List.getElem?_eq_getElem hi
  have e : tmP ks i = ofKey ks[i] := by unfold tmP; rw [hk]; rfl
  rw [e] at ha
  obtain ⟨p, q⟩ := (parts_ahead hS hk).2.2 a ha
  refine ⟨p, q, ?_⟩
  rw [szP_eq hS hk]
  have : ∀ (l : List Int), a ∈ l → szP ks a.toNat ≤ sumZ ks l := by
    intro l
    induction l with
    | nil => intro h; cases h
    | cons b l ih =>
      intro h
      simp only [List.mem_cons] at h
      simp only [sumZ]
      rcases h with rfl | h
      · omega
      · have := ih h; omega
  have := this _ ha
  omega
theorem made_part (hS : Store L ks) {id y : Nat} (hy : y < ks.length) (h : Made ks id y) {a : Int} (ha : a ∈ (tmP ks y).xs) : Made ks id a.toNat ∧ a.toNat < y := by
  obtain ⟨p, q, _⟩ := part_small hS hy ha
  have hk := List.getElem?_eq_getElem hy
  have e : tmP ks y = ofKey ks[y] := by unfold tmP; rw [hk]; rfl
  refine ⟨Made.part h ?_ (by omega), by omega⟩
  rw [argsOf_at hk (parts_ahead hS hk).1, ← e, Int.toNat_of_nonneg p]
  exact ha
theorem below_size (hS : Store L ks) {id y : Nat} (hid : id < ks.length) (h : Made ks id y) : szP ks y ≤ szP ks id := by
  induction h with
  | self => exact Nat.le_refl _
  | @part y x hy hx hlt ih =>
    have hyl : y < ks.length := by have := Made.le hy; omega
    have hk := List.getElem?_eq_getElem hyl
    have e : tmP ks y = ofKey ks[y] := by unfold tmP; rw [hk]; rfl
    rw [argsOf_at hk (parts_ahead hS hk).1, ← e] at hx
    have := (part_small hS hyl hx).2.2
    rw [Int.toNat_natCast] at this
    omega
theorem name_small (hL : ∀ s ∈ L, s.1.size ≤ 20) (hN : ∀ a ∈ names, a.size ≤ 20) (t : Tm) : (oneN L names t).2.1.size ≤ 20 := by
  have h0 : (⟨#[]⟩ : ByteArray).size ≤ 20 := Nat.zero_le _
  have h1 : (nameP L t.s).size ≤ 20 := by
    unfold nameP
    cases h : L[t.s.toNat]? with
    | none => exact h0
    | some s => exact hL s (List.mem_of_getElem? h)
  have h2 : (names[t.s.toNat]?.getD ⟨#[]⟩).size ≤ 20 := by
    cases h : names[t.s.toNat]? with
    | none => exact h0
    | some s => exact hN s (List.mem_of_getElem? h)
  unfold oneN
  split
  · exact h2
  · split
    · exact h1
    · split
      · exact h0
      · split
        · exact h1
        · exact h0
theorem nodes_small (hS : Store L ks) (hL : ∀ s ∈ L, s.1.size ≤ 20) (hN : ∀ a ∈ names, a.size ≤ 20) : ∀ (i : Nat), i < ks.length → ∀ t ∈ (exP L names ks i).nodes, t.2.1.size ≤ 20 := by
  intro i
  induction i using Nat.strongRecOn with
  | ind i ih =>
    intro hi t ht
    rw [nodes_eq hS hi] at ht
    simp only [List.mem_append, List.mem_cons, List.not_mem_nil, or_false] at ht
    rcases ht with ht | rfl
    · have : ∀ (l : List Int), (∀ a ∈ l, a ∈ (tmP ks i).xs) → t ∈ nodesL (l.map fun a => exP L names ks a.toNat) → t.2.1.size ≤ 20 := by
        intro l
        induction l with
        | nil => intro _ h; cases h
        | cons a l ihl =>
          intro hl h
          simp only [List.map_cons, nodesL, List.mem_append] at h
          rcases h with h | h
          · obtain ⟨p, q, _⟩ := part_small hS hi (hl a (by simp))
            exact ih a.toNat (by omega) (by omega) t h
          · exact ihl (fun b hb => hl b (by simp [hb])) h
      exact this _ (fun a h => h) ht
    · exact name_small hL hN _
theorem total_small : ∀ (l : List Tg), (∀ t ∈ l, t.2.1.size ≤ 20) → total7 l ≤ 21 * l.length
  | [], _ => by simp [total7]
  | t :: l, h => by
    have := total_small l fun u hu => h u (by simp [hu])
    have := h t (by simp)
    simp only [total7, List.length_cons]
    omega
/-- the nodes of a term's first parts -/
def partsV (L : List Sig) (names : List ByteArray) (ks : List (List Int)) (l : List Int) : List Tg := nodesL (l.map fun a => exP L names ks a.toNat)
theorem partsV_snoc (l : List Int) (a : Int) : partsV L names ks (l ++ [a]) = partsV L names ks l ++ (exP L names ks a.toNat).nodes := by
  unfold partsV
  rw [List.map_append, Ex.nodesL_app]
  simp [nodesL]
theorem partsV_len (l : List Int) : (partsV L names ks l).length = sumZ ks l := by
  unfold partsV
  induction l with
  | nil => rfl
  | cons a l ih =>
    simp only [List.map_cons, nodesL, List.length_append, sumZ]
    rw [ih, ← size_any L names ks a.toNat]; rfl
theorem sumZ_take (ks : List (List Int)) : ∀ (l : List Int) (j : Nat), sumZ ks (l.take j) ≤ sumZ ks l
  | [], j => by simp [sumZ]
  | a :: l, 0 => by simp [sumZ]
  | a :: l, j + 1 => by
    simp only [List.take_succ_cons, sumZ]
    have := sumZ_take ks l j
    omega
end
end Go.Proofs.YtdmdcggmgipdbaaGreatDoor.Ld

namespace Go.Proofs.YtdmdcggmgipdbaaGreatDoor.Tm
open Go.RowKit Kit Hs

theorem mem_take_succ {xs : List Int} {j : Nat} (h : j < xs.length) (x : Int) : x ∈ xs.take (j + 1) ↔ x ∈ xs.take j ∨ x = xs[j] := by
  rw [List.take_succ_eq_append_getElem h, List.mem_append, List.mem_singleton]
end Go.Proofs.YtdmdcggmgipdbaaGreatDoor.Tm

namespace Go.Proofs.YtdmdcggmgipdbaaGreatDoor.Tm
open Go.RowKit Kit Hs

def inL (l : List Int) (x : Int) : Bool := l.any fun y => y == x
theorem inL_iff (l : List Int) (x : Int) : inL l x = true ↔ x ∈ l := by
  unfold inL
  rw [List.any_eq_true]
  constructor
  · rintro ⟨y, h, e⟩
    rw [beq_iff_eq] at e
    exact e ▸ h
  · intro h; exact ⟨x, h, by simp⟩
theorem inL_at (l : List Int) (x : Int) (k : Nat) (h : k < l.length) : inL (l.drop k) x = ((l[k] == x) || inL (l.drop (k + 1)) x) := by
  rw [List.drop_eq_getElem_cons h]; rfl
theorem inL_end (l : List Int) (x : Int) (k : Nat) (h : l.length ≤ k) : inL (l.drop k) x = false := by
  rw [List.drop_eq_nil_of_le h]; rfl

set_option maxRecDepth 100000 in
set_option maxHeartbeats 400000 in
theorem refIn_any (A : Option Addr) (n c : Nat) (l : List Int) (x : Int) (w : World) (hn : n = l.length) (hr : Ints w w.heap.size A l) (hl : l.length ≤ maxLen) :
    Calls Tryz.prog 74 #[.slice A n c, .int .i64 x] w fun e w' => e = .returned (.bool (inL l x)) ∧ w = w' := by
  subst hn
  unfold maxLen at hl
  go_enter Tryz.func74, Tryz.ntmps74
  go_wp2_with fail
  go_loopw [5] (fun i wr => ∃ k : Nat, k ≤ l.length ∧ i = .int .i64 k ∧ Hid (inL l x = inL (l.drop k) x) ∧ w = wr) (fun i _ => l.length - (intOf i).toNat)
  case atStart => exact ⟨0, Nat.zero_le _, rfl, Lib.hid (by simp), rfl⟩
  case round =>
    obtain ⟨k, hk, rfl, HF, rfl⟩ := hrel
    by_cases hlt : k < l.length
    · obtain ⟨ad, rfl, hb, c0⟩ := hr.at_ hlt
      have HS := Lib.hid (inL_at l x k hlt)
      clear hr
      cases he : (l[k] == x)
      · have HS' : Hid (inL (l.drop k) x = inL (l.drop (k + 1)) x) := by have := HS.out; rw [he] at this; exact this
        go_wp2_with fail
        go_roundw
        case rel => exact ⟨k + 1, by omega, by go_num, Lib.hid (HF.out.trans HS'.out), trivial⟩
        case measure => simp [intOf]; omega
      · have HS' : Hid (inL (l.drop k) x = true) := by have := HS.out; rw [he] at this; exact this
        go_wp2_with fail
        go_ret
        exact ⟨by rw [HF.out, HS'.out]; rfl, rfl⟩
    · have HS := Lib.hid (inL_end l x k (by omega))
      go_wp2_with fail
      go_ret
      exact ⟨by rw [HF.out, HS.out]; rfl, rfl⟩

/-- numbers below n that are not the same are at most n -/
theorem few_of : ∀ (n : Nat) (l : List Nat), l.Nodup → (∀ x ∈ l, x < n) → l.length ≤ n
  | 0, l, _, h => by
    cases l with
    | nil => simp
    | cons x r => exact absurd (h x (List.mem_cons_self ..)) (by omega)
  | n + 1, l, hd, h => by
    by_cases hm : n ∈ l
    · have h1 := few_of n (l.erase n) (hd.erase n) (fun x hx => by
        have hx' := (List.Nodup.mem_erase_iff hd).1 hx
        have := h x hx'.2
        have := hx'.1
        omega)
      rw [List.length_erase_of_mem hm] at h1
      omega
    · have h1 := few_of n l hd (fun x hx => by
        have := h x hx
        have hne : x ≠ n := fun e => hm (e ▸ hx)
        omega)
      omega
/-- what has been found, up to the place k of it gone through -/
structure Fnd (ks : List (List Int)) (id : Nat) (all : List Nat) (k : Nat) : Prop where
  nodup : all.Nodup
  made : ∀ x ∈ all, Made ks id x
  top : id ∈ all
  closed : ∀ p y, p < k → all[p]? = some y → ∀ x : Nat, (x : Int) ∈ argsOf ks y → x < y → x ∈ all
theorem Fnd.len {ks : List (List Int)} {id k : Nat} {all : List Nat} (h : Fnd ks id all k) : all.length ≤ id + 1 := few_of (id + 1) all h.nodup fun x hx => by have := (h.made x hx).le; omega
theorem Fnd.all {ks : List (List Int)} {id k : Nat} {all : List Nat} (h : Fnd ks id all k) (hk : all.length ≤ k) (x : Nat) : x ∈ all ↔ Made ks id x := by
  constructor
  · exact h.made x
  · intro hm
    induction hm with
    | self => exact h.top
    | part _ hx hlt ih =>
      obtain ⟨p, hp, e⟩ := List.getElem_of_mem ih
      exact h.closed p _ (by omega) (by rw [List.getElem?_eq_getElem hp, e]) _ hx hlt
theorem Fnd.start (ks : List (List Int)) (id : Nat) : Fnd ks id [id] 0 := ⟨by simp, fun x hx => by rw [List.mem_singleton.1 hx]; exact .self, by simp, fun p y h => by omega⟩
theorem Fnd.push {ks : List (List Int)} {id k x y : Nat} {all : List Nat} (h : Fnd ks id all k) (hk : k < all.length) (hy : all[k]? = some y) (hx : (x : Int) ∈ argsOf ks y) (hlt : x < y) (hn : x ∉ all) : Fnd ks id (all ++ [x]) k := by
  refine ⟨?_, fun z hz => ?_, List.mem_append_left _ h.top, fun p y' hp hy' z hz hzy => ?_⟩
  · rw [List.nodup_append]
    exact ⟨h.nodup, by simp, fun a ha b hb => by rw [List.mem_singleton.1 hb]; exact fun e => hn (e ▸ ha)⟩
  · rcases List.mem_append.1 hz with hz | hz
    · exact h.made z hz
    · rw [List.mem_singleton.1 hz]
      exact .part (h.made y (List.mem_of_getElem? hy)) hx hlt
  · rw [List.getElem?_append_left (by omega)] at hy'
    exact List.mem_append_left _ (h.closed p y' hp hy' z hz hzy)
theorem Fnd.next {ks : List (List Int)} {id k y : Nat} {all : List Nat} (h : Fnd ks id all k) (hy : all[k]? = some y) (ha : ∀ x : Nat, (x : Int) ∈ argsOf ks y → x < y → x ∈ all) : Fnd ks id all (k + 1) :=
  ⟨h.nodup, h.made, h.top, fun p y' hp hy' => by
    by_cases e : p = k
    · subst e
      rw [hy] at hy'
      injection hy' with hy'
      subst hy'
      exact ha
    · exact h.closed p y' (by omega) hy'⟩
theorem castL_get {l : List Nat} {k y : Nat} (h : l[k]? = some y) : (castL l)[k]? = some (y : Int) := by unfold castL; rw [List.getElem?_map, h]; rfl
theorem castL_in {l : List Nat} {x : Nat} : inL (castL l) (x : Int) = true ↔ x ∈ l := by
  rw [inL_iff, castL_mem]
  constructor
  · rintro ⟨n, h, e⟩
    obtain rfl : x = n := by omega
    exact h
  · intro h; exact ⟨x, h, rfl⟩
theorem castL_len (l : List Nat) : (castL l).length = l.length := by unfold castL; rw [List.length_map]
theorem castL_snoc (l : List Nat) (x : Nat) : castL (l ++ [x]) = castL l ++ [(x : Int)] := by unfold castL; rw [List.map_append]; rfl
end Go.Proofs.YtdmdcggmgipdbaaGreatDoor.Tm
