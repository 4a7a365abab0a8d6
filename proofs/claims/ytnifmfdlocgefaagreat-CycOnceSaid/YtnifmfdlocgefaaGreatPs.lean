/-
  What the proofs lean on, part 19 of 20.
-/
import Derived.Test.YtnifmfdlocgefaaGreatPd
import Derived.Test.YtnifmfdlocgefaaGreatPf
import Derived.Test.YtnifmfdlocgefaaGreatPi
import Derived.Test.YtnifmfdlocgefaaGreatPj
import Derived.Test.YtnifmfdlocgefaaGreatPk
import Derived.Test.YtnifmfdlocgefaaGreatPl
namespace Go.Proofs.YtnifmfdlocgefaaGreat.Ig
open Go.RowKit Kit Tr Uf

theorem rowV_nil (R : List Int) (ks : List (List Int)) (m : Nat) (v : Int) (less : Bool) : rowV R ks m v less [] = true := by
  unfold rowV
  exact decide_eq_true (fun i hi => absurd hi (by simp))
theorem joinC_M (R : List Int) (c : Cells) (a b : Nat) : (joinC R c a b).M = c.M := by
  rw [joinC_eq]
  by_cases e : fst c.V a = fst c.V b
  · rw [if_pos e]
  · rw [if_neg e]; rfl
theorem getD_set_ne {α : Type} {l : List α} {i j : Nat} {x d : α} (h : i ≠ j) : (l.set i x).getD j d = l.getD j d := by
  rw [List.getD_eq_getElem?_getD, List.getElem?_set_ne h, ← List.getD_eq_getElem?_getD]
theorem getD_set_eq {α : Type} {l : List α} {i : Nat} {x : α} {d : α} (h : i < l.length) : (l.set i x).getD i d = x := by
  rw [List.getD_eq_getElem?_getD, List.getElem?_set_self h]; rfl
theorem right_one {R : List Int} {ks : List (List Int)} {c : Cells} {P T : List (List Int)} {a b : Nat} (h : rightG R ks c P T = true) (ha : a < c.V.length) (hb : b < c.V.length) :
    rightG R ks (joinC R c a b) (P.set (hi R c.V a b) []) (T.set (hi R c.V a b) []) = true := by
  unfold rightG at h ⊢
  simp only [Bool.and_eq_true, decide_eq_true_eq] at h ⊢
  obtain ⟨⟨⟨⟨⟨h1, h2⟩, h3⟩, h4⟩, h5⟩, h6⟩ := h
  have hC := cl_of h1
  have hJ := joined (R := R) hC ha hb
  have hg := hi_in (R := R) hC ha hb
  refine ⟨⟨⟨⟨⟨cl_to hJ.cl, right_join h2 hC ha hb⟩, by rw [joinC_M]; exact h3⟩, by rw [List.length_set, hJ.len]; exact h4⟩, by rw [List.length_set, hJ.len]; exact h5⟩, fun v hv => ?_⟩
  rw [hJ.len] at hv
  have hv6 := h6 v hv
  unfold okG at hv6 ⊢
  rw [hJ.len]
  by_cases e : hi R c.V a b = v
  · subst e
    rw [getD_set_eq (by omega), getD_set_eq (by omega), rowV_nil, rowV_nil]
    simp
  · rw [getD_set_ne e, getD_set_ne e]
    have hV : (joinC R c a b).V.getD v 0 = c.V.getD v 0 := by
      rw [joinC_eq]
      by_cases k : fst c.V a = fst c.V b
      · rw [if_pos k]
      · rw [if_neg k]; exact getD_set_ne e
    rw [hV]
    exact hv6
end Go.Proofs.YtnifmfdlocgefaaGreat.Ig

namespace Go.Proofs.YtnifmfdlocgefaaGreat.Cy
open Kit Tr Uf Ig
open Go.Proofs.YtnifmfdlocgefaaGreat.St (PI)
/-- a graph, and what came -/
structure GJ where
  c : Cells
  P : List (List Int)
  T : List (List Int)
  l : List PI
def oneJ (R : List Int) (ks : List (List Int)) (x : Nat) (g : GJ) (y : Nat) : GJ :=
  if fst g.c.V x = fst g.c.V y then g else ⟨joinC R g.c x y, g.P.set (hi R g.c.V x y) [], g.T.set (hi R g.c.V x y) [], g.l ++ comeV ks (joinC R g.c x y).V (rowG g.P (hi R g.c.V x y)) (rowG g.T (hi R g.c.V x y)) (atV ks (lo R g.c.V x y : Int))⟩
def joinJ (R : List Int) (ks : List (List Int)) (x : Nat) (ys : List Nat) (g : GJ) : GJ := ys.foldl (oneJ R ks x) g
theorem joinJ_take {R : List Int} {ks : List (List Int)} {x : Nat} {ys : List Nat} {g : GJ} {k : Nat} (hk : k < ys.length) : joinJ R ks x (ys.take (k + 1)) g = oneJ R ks x (joinJ R ks x (ys.take k) g) ys[k] := by
  unfold joinJ
  rw [List.take_succ_eq_append_getElem hk, List.foldl_append]
  rfl
/-- what a graph in the midst is -/
structure OkJ (R : List Int) (n b r k : Nat) (g : GJ) : Prop where
  cl : Cl R g.c.V
  len : g.c.V.length = n
  lp : g.P.length = n
  lt : g.T.length = n
  few : Few g.c (b + k)
  sp : ∀ x ∈ g.P, x.length ≤ r
  st : ∀ x ∈ g.T, x.length ≤ r
  ll : g.l.length ≤ 2 * r * k
theorem row_le {P : List (List Int)} {r : Nat} (h : ∀ x ∈ P, x.length ≤ r) (i : Nat) : (rowG P i).length ≤ r := by
  unfold rowG
  rw [List.getD_eq_getElem?_getD]
  cases e : P[i]? with
  | none => exact Nat.zero_le _
  | some x => exact h x (List.mem_of_getElem? e)
theorem set_le {P : List (List Int)} {r i : Nat} (h : ∀ x ∈ P, x.length ≤ r) : ∀ x ∈ P.set i [], x.length ≤ r := fun x hx => by
  rcases List.mem_or_eq_of_mem_set hx with h1 | rfl
  · exact h x h1
  · exact Nat.zero_le _
theorem come_len (ks : List (List Int)) (V p t : List Int) (f : Int) : (comeV ks V p t f).length = p.length + t.length := by
  unfold comeV; simp
theorem OkJ.one {R : List Int} {ks : List (List Int)} {n b r k x y : Nat} {g : GJ} (h : OkJ R n b r k g) (hx : x < n) (hy : y < n) : OkJ R n b r (k + 1) (oneJ R ks x g y) := by
  have hx' : x < g.c.V.length := by rw [h.len]; exact hx
  have hy' : y < g.c.V.length := by rw [h.len]; exact hy
  have e2 : 2 * r * (k + 1) = 2 * r * k + 2 * r := Nat.mul_succ _ _
  unfold oneJ
  by_cases e : fst g.c.V x = fst g.c.V y
  · rw [if_pos e]
    exact ⟨h.cl, h.len, h.lp, h.lt, few_more h.few (by omega), h.sp, h.st, by have := h.ll; omega⟩
  · rw [if_neg e]
    have J := joined (R := R) h.cl hx' hy'
    refine ⟨J.cl, J.len.trans h.len, by simp [h.lp], by simp [h.lt], few_join x y h.few (by omega), set_le h.sp, set_le h.st, ?_⟩
    rw [List.length_append, come_len]
    have h1 := row_le h.sp (hi R g.c.V x y)
    have h2 := row_le h.st (hi R g.c.V x y)
    have h3 := h.ll
    omega
theorem OkJ.joins {R : List Int} {ks : List (List Int)} {n b r x : Nat} (hx : x < n) : ∀ (ys : List Nat) (k : Nat) (g : GJ), OkJ R n b r k g → (∀ y ∈ ys, y < n) → OkJ R n b r (k + ys.length) (joinJ R ks x ys g)
  | [], k, g, h, _ => h
  | y :: ys, k, g, h, hy => by
    have := OkJ.joins (ks := ks) hx ys (k + 1) _ (h.one (ks := ks) hx (hy y (List.mem_cons_self ..))) (fun z hz => hy z (List.mem_cons_of_mem _ hz))
    rw [List.length_cons, show k + (ys.length + 1) = k + 1 + ys.length by omega]
    exact this
theorem right_oneJ {R : List Int} {ks : List (List Int)} {g : GJ} {x y : Nat} (h : rightG R ks g.c g.P g.T = true) (hx : x < g.c.V.length) (hy : y < g.c.V.length) :
    rightG R ks (oneJ R ks x g y).c (oneJ R ks x g y).P (oneJ R ks x g y).T = true := by
  unfold oneJ
  by_cases e : fst g.c.V x = fst g.c.V y
  · rw [if_pos e]; exact h
  · rw [if_neg e]; exact right_one h hx hy
theorem right_joinJ {R : List Int} {ks : List (List Int)} {n b r x : Nat} (hx : x < n) : ∀ (ys : List Nat) (k : Nat) (g : GJ), OkJ R n b r k g → (∀ y ∈ ys, y < n) → rightG R ks g.c g.P g.T = true → rightG R ks (joinJ R ks x ys g).c (joinJ R ks x ys g).P (joinJ R ks x ys g).T = true
  | [], _, _, _, _, hr => hr
  | y :: ys, k, g, h, hy, hr => by
    have h1 := hy y (List.mem_cons_self ..)
    exact right_joinJ hx ys (k + 1) _ (h.one (ks := ks) hx h1) (fun z hz => hy z (List.mem_cons_of_mem _ hz)) (right_oneJ hr (by rw [h.len]; exact hx) (by rw [h.len]; exact h1))
/-- behind a join: who is of one class stays so; the first one of x's class is the one of x's class, or of y's -/
theorem one_fst {R : List Int} {ks : List (List Int)} {n b r k x y : Nat} {g : GJ} (h : OkJ R n b r k g) (hx : x < n) (hy : y < n) :
    fst (oneJ R ks x g y).c.V y = fst (oneJ R ks x g y).c.V x ∧ (fst (oneJ R ks x g y).c.V x = fst g.c.V x ∨ fst (oneJ R ks x g y).c.V x = fst g.c.V y) ∧ (∀ z, z < n → fst g.c.V z = fst g.c.V x → fst (oneJ R ks x g y).c.V z = fst (oneJ R ks x g y).c.V x) := by
  have hx' : x < g.c.V.length := by rw [h.len]; exact hx
  have hy' : y < g.c.V.length := by rw [h.len]; exact hy
  unfold oneJ
  by_cases e : fst g.c.V x = fst g.c.V y
  · rw [if_pos e]
    exact ⟨e.symm, .inl rfl, fun z _ hz => hz⟩
  · rw [if_neg e]
    have J := joined (R := R) h.cl hx' hy'
    have ab := J.a_b hx' hy'
    refine ⟨ab.2.trans ab.1.symm, ?_, fun z hz hzx => ?_⟩
    · show fst (joinC R g.c x y).V x = _ ∨ fst (joinC R g.c x y).V x = _
      rw [ab.1]
      exact (lo_or R g.c.V x y).imp And.left And.left
    · exact (J.mine (by rw [h.len]; exact hz) (.inl hzx)).trans ab.1.symm
theorem joins_fst {R : List Int} {ks : List (List Int)} {n b r x : Nat} (hx : x < n) : ∀ (ys : List Nat) (k : Nat) (g : GJ), OkJ R n b r k g → (∀ y ∈ ys, y < n) →
    (∀ z, z < n → (z ∈ ys ∨ fst g.c.V z = fst g.c.V x) → fst (joinJ R ks x ys g).c.V z = fst (joinJ R ks x ys g).c.V x) ∧ (∃ z, (z = x ∨ z ∈ ys) ∧ fst (joinJ R ks x ys g).c.V x = fst g.c.V z)
  | [], _, g, _, _ => ⟨fun z _ h => h.elim (fun h => by cases h) id, x, .inl rfl, rfl⟩
  | y :: ys, k, g, h, hy => by
    have h1 := hy y (List.mem_cons_self ..)
    obtain ⟨o1, o2, o3⟩ := one_fst (ks := ks) h hx h1
    obtain ⟨i1, z, hz, i2⟩ := joins_fst (ks := ks) hx ys (k + 1) _ (h.one (ks := ks) hx h1) (fun z hz => hy z (List.mem_cons_of_mem _ hz))
    refine ⟨fun u hu hm => i1 u hu ?_, ?_⟩
    · rcases hm with hm | hm
      · rcases List.mem_cons.1 hm with rfl | hm
        · exact .inr o1
        · exact .inl hm
      · exact .inr (o3 u hu hm)
    · show ∃ z, _ ∧ fst (joinJ R ks x ys (oneJ R ks x g y)).c.V x = _
      rw [i2]
      -- z's first one behind the join: z's own, or x's, or y's
      have hzn : z < n := hz.elim (fun e => e ▸ hx) (fun h => hy z (List.mem_cons_of_mem _ h))
      by_cases c : fst (oneJ R ks x g y).c.V z = fst g.c.V z
      · exact ⟨z, hz.elim .inl (fun h => .inr (List.mem_cons_of_mem _ h)), c⟩
      · have hz' : fst (oneJ R ks x g y).c.V z = fst (oneJ R ks x g y).c.V x := by
          have hx' : x < g.c.V.length := by rw [h.len]; exact hx
          have hy' : y < g.c.V.length := by rw [h.len]; exact h1
          have J := joined (R := R) h.cl hx' hy'
          unfold oneJ at c ⊢
          by_cases e : fst g.c.V x = fst g.c.V y
          · rw [if_pos e] at c; exact absurd rfl c
          · rw [if_neg e] at c ⊢
            by_cases m : fst g.c.V z = fst g.c.V x ∨ fst g.c.V z = fst g.c.V y
            · exact (J.mine (by rw [h.len]; exact hzn) m).trans (J.a_b hx' hy').1.symm
            · exact absurd (J.other (by rw [h.len]; exact hzn) m).1 c
        rw [hz']
        rcases o2 with e | e
        · exact ⟨x, .inl rfl, e⟩
        · exact ⟨y, .inr (List.mem_cons_self ..), e⟩
end Go.Proofs.YtnifmfdlocgefaaGreat.Cy

namespace Go.Proofs.YtnifmfdlocgefaaGreat.Ig
open Go.RowKit Kit Tr Uf
open Go.Proofs.YtnifmfdlocgefaaGreat.Hs (Keys Ints BoxT KeysP IntsP layI)
open Go.Proofs.YtnifmfdlocgefaaGreat.St (cellsQ cellsQ_append cellsQ_len cellsQ_one pairInfo PI)
theorem there12e (m mp mt : Nat) (hp : mp = m) (ht : mt = m) (r b2 b3 : Value) (Av Pa Ta : Option Addr) (cv cp ct : Nat) (v : Int) (w : World) :
    Calls Tryz.prog 127 #[.agg #[r, .slice Av m cv, b2, b3, .slice Pa mp cp, .slice Ta mt ct], .int .i64 v] w fun e w' => e = .returned (.bool (decide (0 ≤ v) && decide (v < (m : Int)))) ∧ Q w w' := by
  subst hp ht
  exact there12 _ r b2 b3 Av Pa Ta cv cp ct v w

set_option maxRecDepth 100000 in
set_option maxHeartbeats 8000000 in
theorem one12 (R : List Int) (c : Cells) (P T : List (List Int)) (A S F Av D E Pa Ta : Option Addr) (n ca ms d nr cr n1 k1 n2 k2 n3 k3 np kp nt kt : Nat) (ks : List (List Int)) (x y : Nat) (w : World) (hn : n = ks.length) (hm : ms = (layI ks).length) (hk : Keys w w.heap.size A ks) (hS : Ints w w.heap.size S (layI ks)) (hO : OkS ks)
    (hr : nr = R.length) (h1 : n1 = c.V.length) (h2 : n2 = c.N.length) (h3 : n3 = c.M.length) (hp : np = P.length) (ht : nt = T.length) (hR : Tr.Rds w w.heap.size F (cellsI R)) (h : Rd w c Av k1 D k2 E k3) (hP : Keys w w.heap.size Pa P) (hT : Keys w w.heap.size Ta T)
    (lR : R.length ≤ 2000) (hf : Few c 2000) (hPn : P.length = c.V.length) (hTn : T.length = c.V.length) (sP : ∀ k ∈ P, k.length ≤ 2000) (sT : ∀ k ∈ T, k.length ≤ 2000) (hC : Cl R c.V) (hx : x < c.V.length) (hy : y < c.V.length) (hA : allV ks c.V.length = true) :
    Calls Tryz.prog 63 #[.agg #[.slice A n ca, .slice S ms d], .agg #[.slice F nr cr, .slice Av n1 k1, .slice D n2 k2, .slice E n3 k3, .slice Pa np kp, .slice Ta nt kt], .int .i64 (x : Int), .int .i64 (y : Int)] w
      (if fst c.V x = fst c.V y then OneAns R c P T [] w else OneAns R (joinC R c x y) (P.set (hi R c.V x y) []) (T.set (hi R c.V x y) []) (comeV ks (joinC R c x y).V (rowG P (hi R c.V x y)) (rowG T (hi R c.V x y)) (atV ks (lo R c.V x y : Int))) w) := by
  subst hn hm hr h1 h2 h3 hp ht
  have q0 := (((Q.refl w).alloc (Obj.cells #[.slice A ks.length ca, .slice S (layI ks).length d] 26)).alloc (Obj.cells #[.slice F R.length cr, .slice Av c.V.length k1, .slice D c.N.length k2, .slice E c.M.length k3, .slice Pa P.length kp, .slice Ta T.length kt] 31)).alloc (Obj.cells #[.slice none 0 0, .slice none 0 0, .slice none 0 0, .slice none 0 0, .slice none 0 0, .slice none 0 0] 31)
  have HBa := Lib.hid ((BoxT.new w (.slice A ks.length ca) (.slice S (layI ks).length d) 26).q (((Q.refl _).alloc (Obj.cells #[.slice F R.length cr, .slice Av c.V.length k1, .slice D c.N.length k2, .slice E c.M.length k3, .slice Pa P.length kp, .slice Ta T.length kt] 31)).alloc (Obj.cells #[.slice none 0 0, .slice none 0 0, .slice none 0 0, .slice none 0 0, .slice none 0 0, .slice none 0 0] 31)))
  have X := (Box6.new (w.alloc (Obj.cells #[.slice A ks.length ca, .slice S (layI ks).length d] 26)) (.slice F R.length cr) (.slice Av c.V.length k1) (.slice D c.N.length k2) (.slice E c.M.length k3) (.slice Pa P.length kp) (.slice Ta T.length kt) 31).q ((Q.refl _).alloc (Obj.cells #[.slice none 0 0, .slice none 0 0, .slice none 0 0, .slice none 0 0, .slice none 0 0, .slice none 0 0] 31))
  rw [World.size_alloc] at X
  have HBg := Lib.hid X
  have X2 := BoxW.new ((w.alloc (Obj.cells #[.slice A ks.length ca, .slice S (layI ks).length d] 26)).alloc (Obj.cells #[.slice F R.length cr, .slice Av c.V.length k1, .slice D c.N.length k2, .slice E c.M.length k3, .slice Pa P.length kp, .slice Ta T.length kt] 31)) (.slice none 0 0) (.slice none 0 0) (.slice none 0 0) (.slice none 0 0) (.slice none 0 0) (.slice none 0 0) 31
  rw [World.size_alloc, World.size_alloc] at X2
  have HX := Lib.hid X2
  have HZ : Hid ((((w.alloc (Obj.cells #[.slice A ks.length ca, .slice S (layI ks).length d] 26)).alloc (Obj.cells #[.slice F R.length cr, .slice Av c.V.length k1, .slice D c.N.length k2, .slice E c.M.length k3, .slice Pa P.length kp, .slice Ta T.length kt] 31)).alloc (Obj.cells #[.slice none 0 0, .slice none 0 0, .slice none 0 0, .slice none 0 0, .slice none 0 0, .slice none 0 0] 31)).heap.size = w.heap.size + 3) := by unfold Hid; simp
  have HR := Lib.hid (hR.q q0)
  have HC := Lib.hid (h.q q0)
  have HP := Lib.hid ((hP.q (Nat.le_refl _) q0).more q0.size)
  have HT := Lib.hid ((hT.q (Nat.le_refl _) q0).more q0.size)
  have Hk := Lib.hid ((hk.q (Nat.le_refl _) q0).more q0.size)
  have HS := Lib.hid ((hS.q (Nat.le_refl _) q0).more q0.size)
  have HQ0 := Lib.hid q0
  have HK00 : Hid (Keys w w.heap.size A ks ∧ Ints w w.heap.size S (layI ks) ∧ Keys w w.heap.size Pa P ∧ Keys w w.heap.size Ta T) := Lib.hid ⟨hk, hS, hP, hT⟩
  have HFw := Lib.hid hf
  have HO := Lib.hid hO
  have HA := Lib.hid hA
  have HPn := Lib.hid hPn
  have HTn := Lib.hid hTn
  have HsP := Lib.hid sP
  have HsT := Lib.hid sT
  have HCl := Lib.hid hC
  have HxV := Lib.hid hx
  have HyV := Lib.hid hy
  obtain ⟨Br, hBr⟩ : ∃ Br, Br = w.heap.size + 1 + 1 := ⟨_, rfl⟩
  rw [← hBr] at HX
  have HBr : Hid (Br = w.heap.size + 2) := hBr
  obtain ⟨i0, hi, hz0, hz1, hz2⟩ := info_parts pairInfo
  have Hi := Lib.hid hi
  have Hz0 := Lib.hid hz0
  have Hz1 := Lib.hid hz1
  have Hz2 := Lib.hid hz2
  clear h X X2 hR hP hT hk hS q0 hf hO hA hPn hTn sP sT hC hx hy hi hz0 hz1 hz2
  go_enter Tryz.func63, Tryz.ntmps63
  go_upto_region 1 with fail
  rw [← hBr]
  clear hBr
  generalize ((w.alloc (Obj.cells #[.slice A ks.length ca, .slice S (layI ks).length d] 26)).alloc (Obj.cells #[.slice F R.length cr, .slice Av c.V.length k1, .slice D c.N.length k2, .slice E c.M.length k3, .slice Pa P.length kp, .slice Ta T.length kt] 31)).alloc (Obj.cells #[.slice none 0 0, .slice none 0 0, .slice none 0 0, .slice none 0 0, .slice none 0 0, .slice none 0 0] 31) = W0 at *
  have b0 := HBg.out.c0
  have b1 := HBg.out.c1
  have b2 := HBg.out.c2
  have b3 := HBg.out.c3
  have b4 := HBg.out.c4
  have b5 := HBg.out.c5
  have CC := Lib.hid (copyOf12 R c P T F Av D E Pa Ta _ cr _ k1 _ k2 _ k3 _ kp _ kt W0 rfl rfl rfl rfl rfl rfl HR.out HC.out HP.out HT.out (by omega) ⟨by have := HFw.out.1; omega, by have := HFw.out.2.1; omega, by have := HFw.out.2.2; omega⟩ (by have := HPn.out; have := HFw.out.1; omega) (by have := HTn.out; have := HFw.out.1; omega) (fun k h => Nat.le_trans (HsP.out k h) (by omega)) (fun k h => Nat.le_trans (HsT.out k h) (by omega)))
  go_upto_region 2 with (go_at_call 125; refine CC.out.mono ?_; rintro e w1 ⟨g0, g1, g2, g3, gp, ep, gs, es, rfl, hG⟩; have HG := Lib.hid hG; unfold gVal; clear hG)
  have q2 := (Q.refl w1).alloc (Obj.cells #[(.slice (some ⟨g0, 0, none⟩) R.length R.length), (.slice (some ⟨g1, 0, none⟩) c.V.length c.V.length), (.slice (some ⟨g2, 0, none⟩) c.N.length c.N.length), (.slice (some ⟨g3, 0, none⟩) c.M.length c.M.length), (.slice (some ⟨gp, 0, none⟩) P.length P.length), (.slice (some ⟨gs, 0, none⟩) T.length T.length)] 31)
  have HS2 : Hid (OneS w (w1.alloc (Obj.cells #[(.slice (some ⟨g0, 0, none⟩) R.length R.length), (.slice (some ⟨g1, 0, none⟩) c.V.length c.V.length), (.slice (some ⟨g2, 0, none⟩) c.N.length c.N.length), (.slice (some ⟨g3, 0, none⟩) c.M.length c.M.length), (.slice (some ⟨gp, 0, none⟩) P.length P.length), (.slice (some ⟨gs, 0, none⟩) T.length T.length)] 31)) R P T (.slice A ks.length ca) (.slice S (layI ks).length d) (.slice F R.length cr) (.slice Av c.V.length k1) (.slice D c.N.length k2) (.slice E c.M.length k3) (.slice Pa P.length kp) (.slice Ta T.length kt) (.slice (some ⟨g1, 0, none⟩) c.V.length c.V.length) (.slice (some ⟨g2, 0, none⟩) c.N.length c.N.length) (.slice (some ⟨g3, 0, none⟩) c.M.length c.M.length) P.length T.length g0 gp ep gs es w1.heap.size Br) := by
    have hz := HZ.out
    have a1 := HG.out.o0
    have a2 := HG.out.o1
    have a3 := HG.out.o2
    have a4 := HG.out.o3
    have a5 := HG.out.o4
    have a6 := HG.out.o5
    exact ⟨(HBa.out.q HG.out.q).q q2, (HBg.out.q HG.out.q).q q2, (HX.out.q HG.out.q).q q2, BoxW.new w1 (.slice (some ⟨g0, 0, none⟩) R.length R.length) (.slice (some ⟨g1, 0, none⟩) c.V.length c.V.length) (.slice (some ⟨g2, 0, none⟩) c.N.length c.N.length) (.slice (some ⟨g3, 0, none⟩) c.M.length c.M.length) (.slice (some ⟨gp, 0, none⟩) P.length P.length) (.slice (some ⟨gs, 0, none⟩) T.length T.length) 31, HG.out.r.q q2, HG.out.p.q q2, HG.out.t.q q2, ⟨HBr.out, by omega, by omega, a6, HG.out.t.le⟩, (HQ0.out.trans HG.out.q).trans q2⟩
  have HG2 := Lib.hid (HG.out.next q2)
  have HQ2 := Lib.hid (HG.out.q.trans q2)
  clear b0 b1 b2 b3 b4 b5 CC q2 HG HBa HBg HX
  generalize w1.alloc (Obj.cells #[(.slice (some ⟨g0, 0, none⟩) R.length R.length), (.slice (some ⟨g1, 0, none⟩) c.V.length c.V.length), (.slice (some ⟨g2, 0, none⟩) c.N.length c.N.length), (.slice (some ⟨g3, 0, none⟩) c.M.length c.M.length), (.slice (some ⟨gp, 0, none⟩) P.length P.length), (.slice (some ⟨gs, 0, none⟩) T.length T.length)] 31) = W1 at *
  generalize w1.heap.size = O at *
  have CF : Hid (∀ (z : Nat) (U : World), z < c.V.length → Q W1 U → Calls Tryz.prog 65 #[.agg #[.slice Av c.V.length k1, .slice D c.N.length k2, .slice E c.M.length k3], .int .i64 (z : Int)] U fun e W' => e = .returned (.int .i64 (fst c.V z : Int)) ∧ Q U W') := fun z U hz q => find_any R c z Av D E _ k1 _ k2 _ k3 U rfl rfl rfl ((HC.out.q HQ2.out).q q) HCl.out hz (by have := HFw.out.1; omega)
  have HB1 := Lib.hid HS2.out.bg
  have b1 := HB1.out.c1
  have b2 := HB1.out.c2
  have b3 := HB1.out.c3
  have hlt := HB1.out.lt
  go_region_held3 (fun w' => w'.cell? ⟨w.heap.size + 1, 1, none⟩ = some (.slice Av c.V.length k1) ∧ w'.cell? ⟨w.heap.size + 1, 2, none⟩ = some (.slice D c.N.length k2) ∧ w'.cell? ⟨w.heap.size + 1, 3, none⟩ = some (.slice E c.M.length k3))
    (first
      | go_keep
      | exact ⟨(p2.cell (p := ⟨w.heap.size + 1, 1, none⟩) hlt).trans b1, (p2.cell (p := ⟨w.heap.size + 1, 2, none⟩) hlt).trans b2, (p2.cell (p := ⟨w.heap.size + 1, 3, none⟩) hlt).trans b3⟩
      | exact ⟨(p1.cell (p := ⟨w.heap.size + 1, 1, none⟩) hlt).trans b1, (p1.cell (p := ⟨w.heap.size + 1, 2, none⟩) hlt).trans b2, (p1.cell (p := ⟨w.heap.size + 1, 3, none⟩) hlt).trans b3⟩)
    (first
      | (go_at_call 65; (with_reducible refine (CF.out x _ HxV.out (Q.refl W1).drew).mono ?_); rintro e w2 ⟨rfl, q1⟩; have p1 : Q W1 w2 := (Q.refl W1).drew.trans q1)
      | (go_at_call 65; (with_reducible refine (CF.out y _ HyV.out p1).mono ?_); rintro e w3 ⟨rfl, q2⟩; have p2 : Q W1 w3 := p1.trans q2))
  have HS3 := Lib.hid (HS2.out.next p2)
  have HP3 := Lib.hid p2
  have hpx := (HCl.out.fst_in x HxV.out).1
  have hqy := (HCl.out.fst_in y HyV.out).1
  clear b1 b2 b3 hlt p1 p2 q1 q2 CF HB1
  have g0' := HS3.out.bg.c0
  have g1' := HS3.out.bg.c1
  have g2' := HS3.out.bg.c2
  have g3' := HS3.out.bg.c3
  have g4' := HS3.out.bg.c4
  have g5' := HS3.out.bg.c5
  by_cases hpq : fst c.V x = fst c.V y
  · have HE := Lib.hid hpq
    have e1 : ((fst c.V x : Int) == (fst c.V y : Int)) = true := by rw [hpq]; simp
    clear hpx hqy
    clear hpq
    have o0 := HS3.out.out.c.c0
    have o1 := HS3.out.out.c.c1
    have o2 := HS3.out.out.c.c2
    have o3 := HS3.out.out.c.c3
    have o4 := HS3.out.out.c.c4
    have o5 := HS3.out.out.c.c5
    have x0 := HS3.out.res.c.c0
    have x1 := HS3.out.res.c.c1
    have x2 := HS3.out.res.c.c2
    have x3 := HS3.out.res.c.c3
    have x4 := HS3.out.res.c.c4
    have x5 := HS3.out.res.c.c5
    have xf0 := HS3.out.res.f0
    have xf1 := HS3.out.res.f1
    have xf2 := HS3.out.res.f2
    have xf3 := HS3.out.res.f3
    have xf4 := HS3.out.res.f4
    have xf5 := HS3.out.res.f5
    have BZ := Lib.hid (HS3.out.res.set (.slice (some ⟨g0, 0, none⟩) R.length R.length) (.slice (some ⟨g1, 0, none⟩) c.V.length c.V.length) (.slice (some ⟨g2, 0, none⟩) c.N.length c.N.length) (.slice (some ⟨g3, 0, none⟩) c.M.length c.M.length) (.slice (some ⟨gp, 0, none⟩) P.length P.length) (.slice (some ⟨gs, 0, none⟩) T.length T.length))
    have hgr := Lib.hid (set6_grown w3 Br (.slice (some ⟨g0, 0, none⟩) R.length R.length) (.slice (some ⟨g1, 0, none⟩) c.V.length c.V.length) (.slice (some ⟨g2, 0, none⟩) c.N.length c.N.length) (.slice (some ⟨g3, 0, none⟩) c.M.length c.M.length) (.slice (some ⟨gp, 0, none⟩) P.length P.length) (.slice (some ⟨gs, 0, none⟩) T.length T.length))
    clear g0' g1' g2' g3' g4' g5'
    go_wp2_with fail
    have y0 := BZ.out.c.c0
    have y1 := BZ.out.c.c1
    have y2 := BZ.out.c.c2
    have y3 := BZ.out.c.c3
    have y4 := BZ.out.c.c4
    have y5 := BZ.out.c.c5
    refine bodyPost_ret (v := .tuple #[gvP R c P T (some ⟨g0, 0, none⟩) (some ⟨g1, 0, none⟩) (some ⟨g2, 0, none⟩) (some ⟨g3, 0, none⟩) (some ⟨gp, 0, none⟩) (some ⟨gs, 0, none⟩) R.length c.V.length c.N.length c.M.length P.length T.length, .slice none 0 0]) (by simp [gvP, results, Tryz.f63, go_sem, y0, y1, y2, y3, y4, y5]) rfl ?_
    have hz := HZ.out
    have hbr := HBr.out
    have ho := HG2.out.o0
    have hg := (HG2.out.next HP3.out).grp (K := fun b => b ≠ Br ∧ w.heap.size ≤ b) (fun b h1 _ => ⟨by omega, by omega⟩)
    have hg2 := hg.to (agree_grown (P := fun b => b ≠ Br ∧ w.heap.size ≤ b) hgr.out (fun hk => hk.1 rfl)) (K' := fun b => w.heap.size ≤ b) (fun b hb _ => hb.2)
    exact oneans hg2 (World.ownsRow_nil _ _ _ _) (grown_q hgr.out HS3.out.q (by omega))
  · have HNe := Lib.hid hpq
    have e1 : ((fst c.V x : Int) == (fst c.V y : Int)) = false := by rw [beq_eq_false_iff_ne]; omega
    have dx : (decide (0 ≤ (fst c.V x : Int)) && decide ((fst c.V x : Int) < (c.V.length : Int))) = true := by rw [decide_eq_true (by omega), decide_eq_true (by omega)]; rfl
    have dy : (decide (0 ≤ (fst c.V y : Int)) && decide ((fst c.V y : Int) < (c.V.length : Int))) = true := by rw [decide_eq_true (by omega), decide_eq_true (by omega)]; rfl
    have CT : Hid (∀ (z : Int) (U : World), (decide (0 ≤ z) && decide (z < (c.V.length : Int))) = true → Calls Tryz.prog 127 #[.agg #[.slice F R.length cr, .slice Av c.V.length k1, .slice D c.N.length k2, .slice E c.M.length k3, .slice Pa P.length kp, .slice Ta T.length kt], .int .i64 z] U fun e w' => e = .returned (.bool true) ∧ Q U w') := fun z U hz => by
      have h := there12e c.V.length P.length T.length HPn.out HTn.out (.slice F R.length cr) (.slice D c.N.length k2) (.slice E c.M.length k3) Av Pa Ta k1 kp kt z U
      rw [hz] at h
      exact h
    have HDx := Lib.hid dx
    have HDy := Lib.hid dy
    have HLx := Lib.hid hpx
    have HLy := Lib.hid hqy
    clear dx dy hpx hqy hpq
    obtain ⟨bl, hbl⟩ : ∃ bl, bl = lessB R (fst c.V y : Int) (fst c.V x : Int) := ⟨_, rfl⟩
    have HBl := Lib.hid hbl
    clear hbl
    have CL : Hid (∀ U, Q w3 U → Calls Tryz.prog 108 #[.slice F R.length cr, .int .i64 (fst c.V y : Int), .int .i64 (fst c.V x : Int)] U fun e w' => e = .returned (.bool bl) ∧ Q U w') := fun U q => by
      have h := less_any R F R.length cr (fst c.V y : Int) (fst c.V x : Int) U rfl (HR.out.q ((HQ2.out.trans HP3.out).trans q))
      rw [← HBl.out] at h
      exact h
    go_upto_if 45 with (first
      | (go_at_call 127; (with_reducible refine (CT.out (fst c.V x : Int) w3 HDx.out).mono ?_); rintro e w4 ⟨rfl, q4⟩; have HS4 := Lib.hid (HS3.out.next q4); clear g0' g1' g2' g3' g4' g5'; have g0' := HS4.out.bg.c0; have g1' := HS4.out.bg.c1; have g2' := HS4.out.bg.c2; have g3' := HS4.out.bg.c3; have g4' := HS4.out.bg.c4; have g5' := HS4.out.bg.c5)
      | (go_at_call 127; (with_reducible refine (CT.out (fst c.V y : Int) w4 HDy.out).mono ?_); rintro e w5 ⟨rfl, q5⟩; have HS5 := Lib.hid (HS4.out.next q5); have HQ35 := Lib.hid (q4.trans q5); clear g0' g1' g2' g3' g4' g5' q4 q5; have g0' := HS5.out.bg.c0)
      | (go_at_call 108; refine (CL.out w5 HQ35.out).mono ?_; rintro e w6 ⟨rfl, q6⟩; have HS6 := Lib.hid (HS5.out.next q6); have HQ36 := Lib.hid (HQ35.out.trans q6); clear g0' q6))
    go_cut [11, 12] (fun a b wx => a = .int .i64 (lo R c.V x y : Int) ∧ b = .int .i64 (hi R c.V x y : Int) ∧ w6 = wx)
    case first =>
      cases bl
      · have hl : ¬ lessB R (fst c.V y : Int) (fst c.V x : Int) = true := by rw [← HBl.out]; decide
        have HE1 : Hid (lo R c.V x y = fst c.V x ∧ hi R c.V x y = fst c.V y) := by unfold Hid lo hi; rw [if_neg hl, if_neg hl]; exact ⟨rfl, rfl⟩
        clear hl e1
        go_wp2_with fail
        go_meet
        rw [HE1.out.1, HE1.out.2]
        exact ⟨rfl, rfl, rfl⟩
      · have hl : lessB R (fst c.V y : Int) (fst c.V x : Int) = true := HBl.out.symm
        have HE1 : Hid (lo R c.V x y = fst c.V y ∧ hi R c.V x y = fst c.V x) := by unfold Hid lo hi; rw [if_pos hl, if_pos hl]; exact ⟨rfl, rfl⟩
        clear hl e1
        go_wp2_with fail
        go_meet
        rw [HE1.out.1, HE1.out.2]
        exact ⟨rfl, rfl, rfl⟩
    case rest =>
      obtain ⟨rfl, rfl, rfl⟩ := hcut
      have HJ := Lib.hid (joined HCl.out HxV.out HyV.out)
      have hLh : lo R c.V x y < c.V.length ∧ hi R c.V x y < c.V.length := by
        have a1 := HLx.out
        have a2 := HLy.out
        rcases lo_or R c.V x y with ⟨k1, k2⟩ | ⟨k1, k2⟩ <;> rw [k1, k2] <;> exact ⟨by assumption, by assumption⟩
      obtain ⟨f, hf⟩ : ∃ f, f = lo R c.V x y := ⟨_, rfl⟩
      obtain ⟨g, hg⟩ : ∃ g, g = hi R c.V x y := ⟨_, rfl⟩
      have HLo := Lib.hid hf
      have HHi := Lib.hid hg
      rw [← hf, ← hg] at hLh ⊢
      have HLh := Lib.hid hLh
      obtain ⟨c', hc'⟩ : ∃ c', c' = joinC R c x y := ⟨_, rfl⟩
      have HC' := Lib.hid hc'
      have HCl' : Hid (Cl R c'.V ∧ c'.V.length = c.V.length) := by unfold Hid; rw [hc']; exact ⟨HJ.out.cl, HJ.out.len⟩
      have CJ : Hid (Calls Tryz.prog 128 #[.agg #[.slice Av c.V.length k1, .slice D c.N.length k2, .slice E c.M.length k3], .slice F R.length cr, .int .i64 (x : Int), .int .i64 (y : Int)] w6 (OPost c' w6)) := by
        have h := join_any R c x y Av D E F _ k1 _ k2 _ k3 _ cr w6 rfl rfl rfl rfl ((HC.out.q (HQ2.out.trans HP3.out)).q HQ36.out) (HR.out.q ((HQ2.out.trans HP3.out).trans HQ36.out)) ⟨by have := HFw.out.1; omega, by have := HFw.out.2.1; omega, by have := HFw.out.2.2; omega⟩ HCl.out HxV.out HyV.out
        rw [← hc'] at h
        exact h
      have HQ06 : Hid (Q W0 w6) := Lib.hid ((HQ2.out.trans HP3.out).trans HQ36.out)
      clear hf hg hLh hc' e1
      have g0' := HS6.out.bg.c0
      have g1' := HS6.out.bg.c1
      have g2' := HS6.out.bg.c2
      have g3' := HS6.out.bg.c3
      go_upto_region 8 with (go_at_call 128; refine CJ.out.mono ?_; rintro e w7 ⟨A3, l1, D3, l2, E3, l3, rfl, hO⟩; have HO7 := Lib.hid hO; have HS7 := Lib.hid (HS6.out.next hO.q); have o1 := HS7.out.out.c.c1; have o2 := HS7.out.out.c.c2; have o3 := HS7.out.out.c.c3; have of1 := HS7.out.out.f1; have of2 := HS7.out.out.f2; have of3 := HS7.out.out.f3; clear hO)
      clear g0' g1' g2' g3' o1 o2 o3 of1 of2 of3
      have HS8 := Lib.hid (HS7.out.setU (.slice A3 c'.V.length l1) (.slice D3 c'.N.length l2) (.slice E3 c'.M.length l3))
      have HO8 := Lib.hid (onos ⟨HO7.out.v, HO7.out.n, HO7.out.m, HO7.out.lv, HO7.out.ln, HO7.out.lm⟩ (set3_grown12 w7 O (.slice A3 c'.V.length l1) (.slice D3 c'.N.length l2) (.slice E3 c'.M.length l3)) HS6.out.lts.2.2.1)
      generalize ((w7.setCell ⟨O, 1, none⟩ (.slice A3 c'.V.length l1)).setCell ⟨O, 2, none⟩ (.slice D3 c'.N.length l2)).setCell ⟨O, 3, none⟩ (.slice E3 c'.M.length l3) = W8 at *
      have HgP : Hid (g < P.length) := by have := HLh.out.2; have := HPn.out; unfold Hid; omega
      have HgT : Hid (g < T.length) := by have := HLh.out.2; have := HTn.out; unfold Hid; omega
      have o4 := HS8.out.out.c.c4
      have o5 := HS8.out.out.c.c5
      obtain ⟨Ap, cp', p0, pf0, -⟩ := HS8.out.tp.cell HgP.out
      have HS9 := Lib.hid (HS8.out.setP HgP.out)
      obtain ⟨At, ct', t0, tf0, -⟩ := HS9.out.tt.cell HgT.out
      have HS10 := Lib.hid (HS9.out.setT HgT.out)
      have HO9 := Lib.hid (onos HO8.out (setCell_grown W8 gp g (.slice none 0 0)) (by have := HS6.out.lts; omega))
      have HO10 := Lib.hid (onos HO9.out (setCell_grown (W8.setCell ⟨gp, g, none⟩ (.slice none 0 0)) gs g (.slice none 0 0)) (by have := HS6.out.lts; omega))
      have u4 := HS9.out.out.c.c4
      have u5 := HS9.out.out.c.c5
      have v4 := HS10.out.out.c.c4
      have v5 := HS10.out.out.c.c5
      have j0 : (0 : Int) ≤ (g : Int) := Int.natCast_nonneg _
      have j1 : (g : Int) < (P.length : Int) := by have := HgP.out; omega
      have j2 : (g : Int) < (T.length : Int) := by have := HgT.out; omega
      go_region_held3 (fun w' => w'.cell? ⟨O, 4, none⟩ = some (.slice (some ⟨gp, 0, none⟩) P.length P.length) ∧ w'.cell? ⟨O, 5, none⟩ = some (.slice (some ⟨gs, 0, none⟩) T.length T.length))
        (first
          | exact ⟨o4, o5⟩
          | exact ⟨u4, u5⟩
          | exact ⟨v4, v5⟩
          | go_keep)
        (first
          | fail)
      have HT10 := Lib.hid (HS10.out.next (Q.refl _).drew)
      have HU10 := Lib.hid (onoq HO10.out (Q.refl ((W8.setCell ⟨gp, g, none⟩ (.slice none 0 0)).setCell ⟨gs, g, none⟩ (.slice none 0 0))).drew)
      have HQ10 : Hid (Q w ((W8.setCell ⟨gp, g, none⟩ (.slice none 0 0)).setCell ⟨gs, g, none⟩ (.slice none 0 0)).drew) := Lib.hid HT10.out.q
      clear o4 o5 p0 pf0 t0 tf0 u4 u5 v4 v5 HS8 HS9 HS10 HO8 HO9 HO10 j1 j2
      generalize ((W8.setCell ⟨gp, g, none⟩ (.slice none 0 0)).setCell ⟨gs, g, none⟩ (.slice none 0 0)).drew = W10 at *
      have HW0 : Hid (∀ U, Q W10 U → Keys U U.heap.size A ks ∧ Ints U U.heap.size S (layI ks) ∧ Keys U U.heap.size Pa P ∧ Keys U U.heap.size Ta T) := fun U q => by
        have q' := HQ10.out.trans q
        exact ⟨(HK00.out.1.q (Nat.le_refl _) q').more q'.size, (HK00.out.2.1.q (Nat.le_refl _) q').more q'.size, (HK00.out.2.2.1.q (Nat.le_refl _) q').more q'.size, (HK00.out.2.2.2.q (Nat.le_refl _) q').more q'.size⟩
      have CPl : Hid (∀ U, Q W10 U → Calls Tryz.prog 129 #[.agg #[.slice A ks.length ca, .slice S (layI ks).length d], .int .i64 (f : Int)] U fun e w' => e = .returned (.int .i64 (atV ks (f : Int))) ∧ Q U w') := fun U q => by
        obtain ⟨k1', k2', _, _⟩ := HW0.out U q
        exact placeOf12 A S _ ca _ d ks (f : Int) U rfl rfl k1' k2' HO.out
      have a0 := HT10.out.ba.c0
      have a1 := HT10.out.ba.c1
      go_upto_region 10 with (go_at_call 129; refine (CPl.out W10 (Q.refl _)).mono ?_; rintro e w11 ⟨rfl, q11⟩; have HQ11 := Lib.hid q11; have HT11 := Lib.hid (HT10.out.next q11); have HU11 := Lib.hid (onoq HU10.out q11); clear q11)
      clear a0 a1 CPl
      obtain ⟨at_, hat⟩ : ∃ a, a = atV ks (f : Int) := ⟨_, rfl⟩
      have HAt := Lib.hid hat
      rw [← hat]
      clear hat
      have HPc : Hid ((P.set g []).length = P.length ∧ (T.set g []).length = T.length) := by unfold Hid; simp
      have HWg : Hid (∀ U, Q w11 U → Rd U c' A3 l1 D3 l2 E3 l3) := fun U q => by
        have := onoq HU11.out q
        exact ⟨OwnO.rds this.1, OwnO.rds this.2.1, OwnO.rds this.2.2.1, this.2.2.2.1, this.2.2.2.2.1, this.2.2.2.2.2⟩
      obtain ⟨pa, epa, hpb, Ar, cr2, hcr2, hp0, hri⟩ := HK00.out.2.2.1.at_ HgP.out
      obtain ⟨ta, eta, htb, At2, ct2, hct2, ht0, hti⟩ := HK00.out.2.2.2.at_ HgT.out
      have HQw11 : Hid (Q w w11) := Lib.hid (HQ10.out.trans HQ11.out)
      replace hp0 := (HQw11.out.cell (p := pa.add g) (by rw [Tr.add_block]; exact hpb)).trans hp0
      replace ht0 := (HQw11.out.cell (p := ta.add g) (by rw [Tr.add_block]; exact htb)).trans ht0
      replace hri := (hri.q (Nat.le_refl _) HQw11.out).more HQw11.out.size
      replace hti := (hti.q (Nat.le_refl _) HQw11.out).more HQw11.out.size
      have Hpb := Lib.hid hpb
      have Htb := Lib.hid htb
      have HPl : Hid (P[g]'HgP.out = rowG P g) := by unfold Hid rowG; rw [List.getD_eq_getElem?_getD, List.getElem?_eq_getElem HgP.out]; rfl
      have HTl : Hid (T[g]'HgT.out = rowG T g) := by unfold Hid rowG; rw [List.getD_eq_getElem?_getD, List.getElem?_eq_getElem HgT.out]; rfl
      have hPs : (rowG P g).length ≤ 2000 := by rw [← HPl.out]; exact HsP.out _ (List.getElem_mem _)
      have hTs : (rowG T g).length ≤ 2000 := by rw [← HTl.out]; exact HsT.out _ (List.getElem_mem _)
      rw [HPl.out] at hp0 hri
      rw [HTl.out] at ht0 hti
      clear hcr2 hct2
      obtain ⟨pr, hpr⟩ : ∃ pr, pr = rowG P g := ⟨_, rfl⟩
      obtain ⟨tr, htr⟩ : ∃ tr, tr = rowG T g := ⟨_, rfl⟩
      have HPr := Lib.hid hpr
      have HTr := Lib.hid htr
      rw [← hpr] at hp0 hri hPs
      rw [← htr] at ht0 hti hTs
      clear hpr htr HPl HTl
      have HPs := Lib.hid hPs
      have HTs := Lib.hid hTs
      have HRi := Lib.hid (ints_rds hri)
      have HTi := Lib.hid (ints_rds hti)
      clear hri hti hPs hTs
      have CB : Hid (∀ U, Q w11 U → Calls Tryz.prog 130 #[.agg #[.slice A ks.length ca, .slice S (layI ks).length d], .agg #[(.slice (some ⟨g0, 0, none⟩) R.length R.length), .slice A3 c'.V.length l1, .slice D3 c'.N.length l2, .slice E3 c'.M.length l3, (.slice (some ⟨gp, 0, none⟩) P.length P.length), (.slice (some ⟨gs, 0, none⟩) T.length T.length)], .slice Ar pr.length cr2, .int .i64 at_] U fun e w' => ∃ v, e = .returned v ∧ w'.ownsRow U.heap.size 76 2 v pr.length (cellsQ (pr.map fun z => (repV ks c'.V z, at_))) ∧ Q U w') := fun U q => by
        obtain ⟨k1', k2', _, _⟩ := HW0.out U (HQ11.out.trans q)
        exact allBelow12 R c'.V A S A3 D3 E3 (some ⟨gp, 0, none⟩) (some ⟨gs, 0, none⟩) Ar c'.N c'.M _ ca _ d _ l1 _ l2 _ l3 _ _ _ _ _ cr2 (.slice (some ⟨g0, 0, none⟩) R.length R.length) ks pr at_ U rfl rfl k1' k2' HO.out rfl (HWg.out U q) rfl rfl HCl'.out.1 (by have := HCl'.out.2; have := HFw.out.1; omega) (by rw [HCl'.out.2]; exact HPn.out) (by rw [HCl'.out.2]; exact HTn.out) (by rw [HCl'.out.2]; exact HA.out) rfl (HRi.out.q q) (by have := HPs.out; omega)
      have CA : Hid (∀ U, Q w11 U → Calls Tryz.prog 131 #[.agg #[.slice A ks.length ca, .slice S (layI ks).length d], .agg #[(.slice (some ⟨g0, 0, none⟩) R.length R.length), .slice A3 c'.V.length l1, .slice D3 c'.N.length l2, .slice E3 c'.M.length l3, (.slice (some ⟨gp, 0, none⟩) P.length P.length), (.slice (some ⟨gs, 0, none⟩) T.length T.length)], .int .i64 at_, .slice At2 tr.length ct2] U fun e w' => ∃ v, e = .returned v ∧ w'.ownsRow U.heap.size 76 2 v tr.length (cellsQ (tr.map fun z => (at_, repV ks c'.V z))) ∧ Q U w') := fun U q => by
        obtain ⟨k1', k2', _, _⟩ := HW0.out U (HQ11.out.trans q)
        exact allAbove12 R c'.V A S A3 D3 E3 (some ⟨gp, 0, none⟩) (some ⟨gs, 0, none⟩) At2 c'.N c'.M _ ca _ d _ l1 _ l2 _ l3 _ _ _ _ _ ct2 (.slice (some ⟨g0, 0, none⟩) R.length R.length) ks tr at_ U rfl rfl k1' k2' HO.out rfl (HWg.out U q) rfl rfl HCl'.out.1 (by have := HCl'.out.2; have := HFw.out.1; omega) (by rw [HCl'.out.2]; exact HPn.out) (by rw [HCl'.out.2]; exact HTn.out) (by rw [HCl'.out.2]; exact HA.out) rfl (HTi.out.q q) (by have := HTs.out; omega)
      subst epa
      subst eta
      have hpk : (pa.add g).block < w11.heap.size := by rw [Tr.add_block]; exact Nat.lt_of_lt_of_le hpb HQw11.out.size
      have htk : (ta.add g).block < w11.heap.size := by rw [Tr.add_block]; exact Nat.lt_of_lt_of_le htb HQw11.out.size
      have ALL : Hid (∀ U, Q w11 U → U.cell? ⟨w.heap.size, 0, none⟩ = some (.slice A ks.length ca) ∧ U.cell? ⟨w.heap.size, 1, none⟩ = some (.slice S (layI ks).length d) ∧ U.cell? ⟨O, 0, none⟩ = some (.slice (some ⟨g0, 0, none⟩) R.length R.length) ∧ U.cell? ⟨O, 1, none⟩ = some (.slice A3 c'.V.length l1) ∧ U.cell? ⟨O, 2, none⟩ = some (.slice D3 c'.N.length l2) ∧ U.cell? ⟨O, 3, none⟩ = some (.slice E3 c'.M.length l3) ∧ U.cell? ⟨O, 4, none⟩ = some (.slice (some ⟨gp, 0, none⟩) P.length P.length) ∧ U.cell? ⟨O, 5, none⟩ = some (.slice (some ⟨gs, 0, none⟩) T.length T.length) ∧ U.cell? ⟨w.heap.size + 1, 4, none⟩ = some (.slice (some pa) P.length kp) ∧ U.cell? ⟨w.heap.size + 1, 5, none⟩ = some (.slice (some ta) T.length kt) ∧ U.cell? (pa.add g) = some (.slice Ar pr.length cr2) ∧ U.cell? (ta.add g) = some (.slice At2 tr.length ct2)) := fun U q => by
        have h := HT11.out.next q
        exact ⟨h.ba.c0, h.ba.c1, h.out.c.c0, h.out.c.c1, h.out.c.c2, h.out.c.c3, h.out.c.c4, h.out.c.c5, h.bg.c4, h.bg.c5, (q.cell hpk).trans hp0, (q.cell htk).trans ht0⟩
      obtain ⟨s0, s1, s2, s3, s4, s5, s6, s7, s8, s9, s10, s11⟩ := ALL.out w11 (Q.refl _)
      have j1 : (g : Int) < (P.length : Int) := by have := HgP.out; omega
      have j2 : (g : Int) < (T.length : Int) := by have := HgT.out; omega
      clear hp0 ht0 hpb htb
      go_region_held3 (fun w' => w'.cell? ⟨w.heap.size, 0, none⟩ = some (.slice A ks.length ca) ∧ w'.cell? ⟨w.heap.size, 1, none⟩ = some (.slice S (layI ks).length d) ∧ w'.cell? ⟨O, 0, none⟩ = some (.slice (some ⟨g0, 0, none⟩) R.length R.length) ∧ w'.cell? ⟨O, 1, none⟩ = some (.slice A3 c'.V.length l1) ∧ w'.cell? ⟨O, 2, none⟩ = some (.slice D3 c'.N.length l2) ∧ w'.cell? ⟨O, 3, none⟩ = some (.slice E3 c'.M.length l3) ∧ w'.cell? ⟨O, 4, none⟩ = some (.slice (some ⟨gp, 0, none⟩) P.length P.length) ∧ w'.cell? ⟨O, 5, none⟩ = some (.slice (some ⟨gs, 0, none⟩) T.length T.length) ∧ w'.cell? ⟨w.heap.size + 1, 4, none⟩ = some (.slice (some pa) P.length kp) ∧ w'.cell? ⟨w.heap.size + 1, 5, none⟩ = some (.slice (some ta) T.length kt) ∧ w'.cell? (pa.add g) = some (.slice Ar pr.length cr2) ∧ w'.cell? (ta.add g) = some (.slice At2 tr.length ct2))
        (first
          | exact ALL.out _ p12
          | exact ⟨s0, s1, s2, s3, s4, s5, s6, s7, s8, s9, s10, s11⟩
          | go_keep)
        (first
          | (go_at_call 130; refine (CB.out _ (Q.refl w11).drew).mono ?_; rintro e w12 ⟨v12, rfl, own12, q12⟩; have Own12 := Lib.hid own12; have p12 : Q w11 w12 := (Q.refl w11).drew.trans q12; clear own12 q12))
      have HQ12 := Lib.hid p12
      clear s0 s1 s2 s3 s4 s5 s6 s7 s8 s9 s10 s11 p12
      obtain ⟨s0, s1, s2, s3, s4, s5, s6, s7, s8, s9, s10, s11⟩ := ALL.out w12 HQ12.out
      have ALS : Hid (∀ U V, Q w11 U → U.grownBy V (some Br) → V.cell? ⟨w.heap.size, 0, none⟩ = some (.slice A ks.length ca) ∧ V.cell? ⟨w.heap.size, 1, none⟩ = some (.slice S (layI ks).length d) ∧ V.cell? ⟨O, 0, none⟩ = some (.slice (some ⟨g0, 0, none⟩) R.length R.length) ∧ V.cell? ⟨O, 1, none⟩ = some (.slice A3 c'.V.length l1) ∧ V.cell? ⟨O, 2, none⟩ = some (.slice D3 c'.N.length l2) ∧ V.cell? ⟨O, 3, none⟩ = some (.slice E3 c'.M.length l3) ∧ V.cell? ⟨O, 4, none⟩ = some (.slice (some ⟨gp, 0, none⟩) P.length P.length) ∧ V.cell? ⟨O, 5, none⟩ = some (.slice (some ⟨gs, 0, none⟩) T.length T.length) ∧ V.cell? ⟨w.heap.size + 1, 4, none⟩ = some (.slice (some pa) P.length kp) ∧ V.cell? ⟨w.heap.size + 1, 5, none⟩ = some (.slice (some ta) T.length kt) ∧ V.cell? (pa.add g) = some (.slice Ar pr.length cr2) ∧ V.cell? (ta.add g) = some (.slice At2 tr.length ct2)) := fun U V q gr => by
        have h := ALL.out U q
        have hz := HBr.out
        have ho := HT11.out.lts
        have hor := HT11.out.ord
        have hs := q.size
        obtain ⟨e0, e1, e2, e3, e4, e5, e6, e7, e8, e9, e10, e11⟩ := h
        have hpb := Hpb.out
        have htb := Htb.out
        exact ⟨far_cell gr e0 (by show w.heap.size ≠ Br; omega) (by show w.heap.size < _; omega), far_cell gr e1 (by show w.heap.size ≠ Br; omega) (by show w.heap.size < _; omega), far_cell gr e2 (by show O ≠ Br; omega) (by show O < _; omega), far_cell gr e3 (by show O ≠ Br; omega) (by show O < _; omega), far_cell gr e4 (by show O ≠ Br; omega) (by show O < _; omega), far_cell gr e5 (by show O ≠ Br; omega) (by show O < _; omega), far_cell gr e6 (by show O ≠ Br; omega) (by show O < _; omega), far_cell gr e7 (by show O ≠ Br; omega) (by show O < _; omega), far_cell gr e8 (by show w.heap.size + 1 ≠ Br; omega) (by show w.heap.size + 1 < _; omega), far_cell gr e9 (by show w.heap.size + 1 ≠ Br; omega) (by show w.heap.size + 1 < _; omega), far_cell gr e10 (by rw [Tr.add_block]; omega) (by rw [Tr.add_block]; omega), far_cell gr e11 (by rw [Tr.add_block]; omega) (by rw [Tr.add_block]; omega)⟩
      have HL13 : Hid ((cellsQ (tr.map fun z => (at_, repV ks c'.V z))).length = tr.length * 2) := by unfold Hid; rw [cellsQ_len, List.length_map]
      have HL14 : Hid (pr.length + tr.length ≤ maxLen) := by have := HPs.out; have := HTs.out; unfold Hid maxLen; omega
      have HL15 : Hid ((pr.length + tr.length) * 16 ≤ 140737488355328) := by have := HPs.out; have := HTs.out; unfold Hid; omega
      have HL16 : Hid (0 < 2) := by unfold Hid; omega
      go_upto_region 11 with fail
      go_region_held3 (fun w' => w'.cell? ⟨w.heap.size, 0, none⟩ = some (.slice A ks.length ca) ∧ w'.cell? ⟨w.heap.size, 1, none⟩ = some (.slice S (layI ks).length d) ∧ w'.cell? ⟨O, 0, none⟩ = some (.slice (some ⟨g0, 0, none⟩) R.length R.length) ∧ w'.cell? ⟨O, 1, none⟩ = some (.slice A3 c'.V.length l1) ∧ w'.cell? ⟨O, 2, none⟩ = some (.slice D3 c'.N.length l2) ∧ w'.cell? ⟨O, 3, none⟩ = some (.slice E3 c'.M.length l3) ∧ w'.cell? ⟨O, 4, none⟩ = some (.slice (some ⟨gp, 0, none⟩) P.length P.length) ∧ w'.cell? ⟨O, 5, none⟩ = some (.slice (some ⟨gs, 0, none⟩) T.length T.length) ∧ w'.cell? ⟨w.heap.size + 1, 4, none⟩ = some (.slice (some pa) P.length kp) ∧ w'.cell? ⟨w.heap.size + 1, 5, none⟩ = some (.slice (some ta) T.length kt) ∧ w'.cell? (pa.add g) = some (.slice Ar pr.length cr2) ∧ w'.cell? (ta.add g) = some (.slice At2 tr.length ct2))
        (first
          | (with_reducible exact ALL.out _ p14)
          | (with_reducible exact ALL.out _ p13)
          | (with_reducible exact ALS.out _ _ p14 (set6_grown _ _ _ _ _ _ _ _))
          | exact ⟨s0, s1, s2, s3, s4, s5, s6, s7, s8, s9, s10, s11⟩
          | go_keep)
        (first
          | (go_at_call 131; refine (CA.out _ HQ12.out.drew).mono ?_; rintro e w13 ⟨v13, rfl, own13, q13⟩; have p13 : Q w11 w13 := HQ12.out.drew.trans q13; obtain ⟨A13, c13, rfl, -, hr13⟩ := Rw.own_read own13; have Hs13 : Hid (Src w13 A13 (cellsQ (tr.map fun z => (at_, repV ks c'.V z)))) := Lib.hid hr13.src; have Own13 : Hid (w13.ownsRow w11.heap.size 76 2 v12 pr.length (cellsQ (pr.map fun z => (repV ks c'.V z, at_)))) := Lib.hid (Tr.row_kept Own12.out ((Q.refl w12).drew.trans q13) (Nat.le_refl _)); have HB13 := Lib.hid p13.size; clear own13 q13 hr13)
          | (refine step_append_src _ rfl (.tmp 77) (.tmp 86) _ rfl w11.heap.size 76 i0 _ 2 16 Tryz.underlying37 Hi.out Hz0.out Hz1.out Hz2.out rfl HL16.out v12 pr.length _ rfl Own13.out A13 tr.length c13 _ rfl HL13.out Hs13.out (cellsQ_one _) HL14.out HL15.out HB13.out ?_; intro v14 w14 own14 gr14 at14; have Own14 := Lib.hid own14; have p14 : Q w11 w14 := p13.grown gr14 p13.size (fun b hb => (Own13.out.lt b hb).1); have hX14 := (HT11.out.next p14).res; have x0 := hX14.c.c0; have x1 := hX14.c.c1; have x2 := hX14.c.c2; have x3 := hX14.c.c3; have x4 := hX14.c.c4; have x5 := hX14.c.c5; have xf0 := hX14.f0; have xf1 := hX14.f1; have xf2 := hX14.f2; have xf3 := hX14.f3; have xf4 := hX14.f4; have xf5 := hX14.f5; clear own14 gr14 at14 hX14)
          | fail)
      have HQ14 := Lib.hid p14
      have BZ := Lib.hid ((HT11.out.next HQ14.out).res.set (.slice (some ⟨g0, 0, none⟩) R.length R.length) (.slice A3 c'.V.length l1) (.slice D3 c'.N.length l2) (.slice E3 c'.M.length l3) (.slice (some ⟨gp, 0, none⟩) P.length P.length) (.slice (some ⟨gs, 0, none⟩) T.length T.length))
      have hgr := Lib.hid (set6_grown w14 Br (.slice (some ⟨g0, 0, none⟩) R.length R.length) (.slice A3 c'.V.length l1) (.slice D3 c'.N.length l2) (.slice E3 c'.M.length l3) (.slice (some ⟨gp, 0, none⟩) P.length P.length) (.slice (some ⟨gs, 0, none⟩) T.length T.length))
      clear s0 s1 s2 s3 s4 s5 s6 s7 s8 s9 s10 s11 x0 x1 x2 x3 x4 x5 xf0 xf1 xf2 xf3 xf4 xf5 p13 p14
      go_wp2_with fail
      have y0 := BZ.out.c.c0
      have y1 := BZ.out.c.c1
      have y2 := BZ.out.c.c2
      have y3 := BZ.out.c.c3
      have y4 := BZ.out.c.c4
      have y5 := BZ.out.c.c5
      have e5 : (P.set g []).length = P.length := by simp
      have e6 : (T.set g []).length = T.length := by simp
      refine bodyPost_ret (v := .tuple #[gvP R c' (P.set g []) (T.set g []) (some ⟨g0, 0, none⟩) A3 D3 E3 (some ⟨gp, 0, none⟩) (some ⟨gs, 0, none⟩) R.length l1 l2 l3 P.length T.length, v14]) (by unfold gvP; rw [e5, e6]; simp [results, Tryz.f63, go_sem, y0, y1, y2, y3, y4, y5]) rfl ?_
      first | rw [if_neg HNe.out] | skip
      rw [← HLo.out, ← HHi.out, ← HC'.out, ← HPr.out, ← HTr.out, ← HAt.out]
      have hbr := HBr.out
      have hl6 := HS6.out.lts
      have ho := HT11.out.ord
      have hg := (HT11.out.next HQ14.out).grp (K := fun b => b ≠ Br ∧ w.heap.size ≤ b) (onoq HU11.out HQ14.out) (by omega) (fun b hb => ⟨by omega, by omega⟩) (by rw [e5]; exact Nat.le_refl _) (by rw [e6]; exact Nat.le_refl _)
      have hg2 := hg.to (agree_grown (P := fun b => b ≠ Br ∧ w.heap.size ≤ b) hgr.out (fun hk => hk.1 rfl)) (K' := fun b => w.heap.size ≤ b) (fun b hb _ => hb.2)
      have hw := HQw11.out.size
      have hbx := HT11.out.res.c.lt
      have hown := Own14.out.kept hgr.out (.inr (fun e => by have := (Own14.out.lt _ e).1; omega))
      have hown2 := Tr.row_kept hown (Q.refl _) hw
      rw [show pr.length + tr.length = (comeV ks c'.V pr tr at_).length by simp [comeV], ← cellsQ_append] at hown2
      exact oneans hg2 hown2 (grown_q hgr.out (HQw11.out.trans HQ14.out) (by omega))
end Go.Proofs.YtnifmfdlocgefaaGreat.Ig

namespace Go.Proofs.YtnifmfdlocgefaaGreat.Cy
open Go.RowKit Kit Tr Uf Ig
open Go.Proofs.YtnifmfdlocgefaaGreat.Hs (Keys Ints BoxT layI)
open Go.Proofs.YtnifmfdlocgefaaGreat.St (PI cellsQ)
/-- One's answer, one of two or not -/
def OneJ (R : List Int) (ks : List (List Int)) (x : Nat) (g : GJ) (y : Nat) (w : World) (e : Ending) (w' : World) : Prop :=
  ∃ l2, (oneJ R ks x g y).l = g.l ++ l2 ∧ OneAns R (oneJ R ks x g y).c (oneJ R ks x g y).P (oneJ R ks x g y).T l2 w e w'
theorem one13 {R : List Int} {n b r k : Nat} {g : GJ} (hJ : OkJ R n b r k g) (lR : R.length ≤ 1000) (hb : b + k ≤ 1100) (hr : r ≤ 1000) (A S F Av D E Pa Ta : Option Addr) (ca d cr k1 k2 k3 kp kt : Nat) (ks : List (List Int)) (x y : Nat) (w : World) (hk : Keys w w.heap.size A ks) (hS : Ints w w.heap.size S (layI ks)) (hO : OkS ks) (hA : allV ks n = true)
    (hG : GRP w (fun b => b < w.heap.size) R g.c g.P g.T F Av D E Pa Ta cr k1 k2 k3 kp kt) (hx : x < n) (hy : y < n) :
    Calls Tryz.prog 63 #[.agg #[.slice A ks.length ca, .slice S (layI ks).length d], .agg #[.slice F R.length cr, .slice Av g.c.V.length k1, .slice D g.c.N.length k2, .slice E g.c.M.length k3, .slice Pa g.P.length kp, .slice Ta g.T.length kt], .int .i64 (x : Int), .int .i64 (y : Int)] w (OneJ R ks x g y w) := by
  have hf := hJ.few
  have hx' : x < g.c.V.length := by rw [hJ.len]; exact hx
  have hy' : y < g.c.V.length := by rw [hJ.len]; exact hy
  have h := one12 R g.c g.P g.T A S F Av D E Pa Ta ks.length ca (layI ks).length d R.length cr g.c.V.length k1 g.c.N.length k2 g.c.M.length k3 g.P.length kp g.T.length kt ks x y w rfl rfl hk hS hO rfl rfl rfl rfl rfl rfl hG.r.rds hG.rd hG.p.keys hG.t.keys (by omega) ⟨by have := hf.1; omega, by have := hf.2.1; omega, by have := hf.2.2; omega⟩ (hJ.lp.trans hJ.len.symm) (hJ.lt.trans hJ.len.symm) (fun z hz => Nat.le_trans (hJ.sp z hz) (by omega)) (fun z hz => Nat.le_trans (hJ.st z hz) (by omega)) hJ.cl hx' hy' (by rw [hJ.len]; exact hA)
  unfold OneJ oneJ
  by_cases e : fst g.c.V x = fst g.c.V y
  · rw [if_pos e] at h ⊢
    exact h.mono fun e' w' h' => ⟨[], by simp, h'⟩
  · rw [if_neg e] at h ⊢
    exact h.mono fun e' w' h' => ⟨_, rfl, h'⟩
/-- More with none more: a copy -/
theorem more13 (R : List Int) (c : Cells) (P T : List (List Int)) (F A D E Pa Ta : Option Addr) (cr k1 k2 k3 kp kt : Nat) (w : World)
    (hR : Tr.Rds w w.heap.size F (cellsI R)) (h : Rd w c A k1 D k2 E k3) (hP : Keys w w.heap.size Pa P) (hT : Keys w w.heap.size Ta T)
    (lR : R.length ≤ 2000) (hf : Few c 2000) (lP : P.length ≤ 2000) (lT : T.length ≤ 2000) (sP : ∀ k ∈ P, k.length ≤ 2000) (sT : ∀ k ∈ T, k.length ≤ 2000) :
    Calls Tryz.prog 62 #[.agg #[.slice F R.length cr, .slice A c.V.length k1, .slice D c.N.length k2, .slice E c.M.length k3, .slice Pa P.length kp, .slice Ta T.length kt], .int .i64 0] w (GAns R c P T w) := by
  have h0 := more12 R c P T F A D E Pa Ta R.length cr c.V.length k1 c.N.length k2 c.M.length k3 P.length kp T.length kt 0 w rfl rfl rfl rfl rfl rfl hR h hP hT lR hf lP lT sP sT (by omega)
  rw [Nat.zero_sub, List.replicate_zero, List.append_nil, List.append_nil] at h0
  exact h0
/-- Join, in the midst: the boxes, the graph so far, the pairs so far -/
structure JoinS (w W : World) (B8 : Nat) (R : List Int) (g : GJ) (av sv : Value) (F A D E Pa Ta : Option Addr) (cr k1 k2 k3 kp kt : Nat) (ov : Value) : Prop where
  ba : BoxT W w.heap.size av sv
  b6 : BoxW W (w.heap.size + 2) (.slice none 0 0) (.slice none 0 0) (.slice none 0 0) (.slice none 0 0) (.slice none 0 0) (.slice none 0 0)
  b8 : BoxW W B8 (.slice F R.length cr) (.slice A g.c.V.length k1) (.slice D g.c.N.length k2) (.slice E g.c.M.length k3) (.slice Pa g.P.length kp) (.slice Ta g.T.length kt)
  gr : GRP W (fun b => w.heap.size ≤ b ∧ b ≠ B8 ∧ b ≠ w.heap.size + 2 ∧ ov.ownBlock ≠ some b) R g.c g.P g.T F A D E Pa Ta cr k1 k2 k3 kp kt
  ow : W.ownsRow (B8 + 1) 76 2 ov g.l.length (cellsQ g.l)
  q : Q w W
  lo : w.heap.size + 2 < B8
theorem boxT_grown {w W : World} {B : Nat} {a b : Value} {row : Option Nat} (h : BoxT w B a b) (hg : w.grownBy W row) (hr : row ≠ some B) : BoxT W B a b := by
  have hb := hg.block B h.lt (fun e => hr e.symm)
  exact ⟨(World.cell?_of_block (a := ⟨B, 0, none⟩) hb).trans h.c0, (World.cell?_of_block (a := ⟨B, 1, none⟩) hb).trans h.c1, Nat.lt_of_lt_of_le h.lt hg.size⟩
theorem boxW_grown {w W : World} {B : Nat} {a b c d e f : Value} {row : Option Nat} (h : BoxW w B a b c d e f) (hg : w.grownBy W row) (hr : row ≠ some B) : BoxW W B a b c d e f :=
  BoxW.own.2 ((BoxW.own.1 h).grown hg hr)
theorem agree_row13 {w w' : World} {P : Nat → Prop} {row : Option Nat} (hg : w.grownBy w' row) (hB : ∀ r, row = some r → ¬ P r) : w.heap.size ≤ w'.heap.size ∧ ∀ p : Addr, P p.block → p.block < w.heap.size → w'.cell? p = w.cell? p := by
  refine ⟨hg.size, fun p hp hl => ?_⟩
  have := hg.block p.block hl (fun e => hB _ e.symm hp)
  simp only [World.cell?, this]
/-- a round: One's answer is stored, its pairs are appended -/
theorem JoinS.next {w wr w5 w7 : World} {B8 n8 : Nat} {R : List Int} {g g' : GJ} {av sv : Value} {F A D E Pa Ta F5 A5 D5 E5 P5 T5 : Option Addr} {cr k1 k2 k3 kp kt cr5 l1 l2 l3 lp lt : Nat} {ov v7 : Value} (h : JoinS w wr B8 R g av sv F A D E Pa Ta cr k1 k2 k3 kp kt ov) (q5 : Q wr w5)
    (hg : GRP w5 (fun b => wr.heap.size ≤ b) R g'.c g'.P g'.T F5 A5 D5 E5 P5 T5 cr5 l1 l2 l3 lp lt)
    (w6 : World) (h6 : w6 = (((((w5.setCell ⟨B8, 0, none⟩ (.slice F5 R.length cr5)).setCell ⟨B8, 1, none⟩ (.slice A5 g'.c.V.length l1)).setCell ⟨B8, 2, none⟩ (.slice D5 g'.c.N.length l2)).setCell ⟨B8, 3, none⟩ (.slice E5 g'.c.M.length l3)).setCell ⟨B8, 4, none⟩ (.slice P5 g'.P.length lp)).setCell ⟨B8, 5, none⟩ (.slice T5 g'.T.length lt))
    (gr : w6.grownBy w7 ov.ownBlock) (hn : n8 = g'.l.length) (own : w7.ownsRow (B8 + 1) 76 2 v7 n8 (cellsQ g'.l)) (hat : v7.ownBlock = ov.ownBlock ∨ v7.ownBlock = some w6.heap.size) :
    JoinS w w7 B8 R g' av sv F5 A5 D5 E5 P5 T5 cr5 l1 l2 l3 lp lt v7 := by
  subst hn
  have gw := set6_grown w5 B8 (.slice F5 R.length cr5) (.slice A5 g'.c.V.length l1) (.slice D5 g'.c.N.length l2) (.slice E5 g'.c.M.length l3) (.slice P5 g'.P.length lp) (.slice T5 g'.T.length lt)
  have hset := (h.b8.q q5).set (.slice F5 R.length cr5) (.slice A5 g'.c.V.length l1) (.slice D5 g'.c.N.length l2) (.slice E5 g'.c.M.length l3) (.slice P5 g'.P.length lp) (.slice T5 g'.T.length lt)
  rw [← h6] at gw hset
  have hB8 : B8 < wr.heap.size := h.b8.c.lt
  have hlo := h.lo
  have hs5 := q5.size
  have hs6 := gw.size
  have hs7 := gr.size
  have hov : ∀ r, ov.ownBlock = some r → B8 + 1 ≤ r ∧ r < wr.heap.size := fun r e => h.ow.lt r e
  refine ⟨boxT_grown (boxT_grown (h.ba.q q5) gw (fun e => by injection e; omega)) gr (fun e => by have := hov _ e; omega), boxW_grown (boxW_grown (h.b6.q q5) gw (fun e => by injection e; omega)) gr (fun e => by have := hov _ e; omega), boxW_grown hset gr (fun e => by have := hov _ e; omega), ?_, own, ?_, hlo⟩
  · have h1 := hg.to (K' := fun b => wr.heap.size ≤ b ∧ b < w5.heap.size) (agree_row13 (P := fun b => wr.heap.size ≤ b) gw (fun r e hr => by injection e with e; omega)) (fun b h1 h2 => ⟨h1, h2⟩)
    refine h1.to (agree_row13 (P := fun b => wr.heap.size ≤ b ∧ b < w5.heap.size) gr (fun r e hr => by have := hov r e; omega)) (fun b h1 h2 => ⟨by have := h.q.size; omega, by omega, by omega, fun e => ?_⟩)
    rcases hat with e2 | e2
    · rw [e2] at e; have := hov b e; omega
    · rw [e2] at e; injection e with e; omega
  · have q6 : Q w w6 := grown_q gw (h.q.trans q5) (by omega)
    exact Below.grown q6 gr q6.size (fun b e => by have := hov b e; omega)
end Go.Proofs.YtnifmfdlocgefaaGreat.Cy

namespace Go.Proofs.YtnifmfdlocgefaaGreat.Cy
open Go.RowKit Kit Tr Uf Ig
open Go.Proofs.YtnifmfdlocgefaaGreat.Hs (Keys Ints BoxT layI)
open Go.Proofs.YtnifmfdlocgefaaGreat.St (PI cellsQ pairInfo cellsQ_len cellsQ_one cellsQ_append)
set_option maxRecDepth 100000 in
set_option maxHeartbeats 8000000 in
theorem join13p_any (R : List Int) (c : Cells) (P T ks : List (List Int)) (A S F Av D E Pa Ta B : Option Addr) (ca d cr k1 k2 k3 kp kt cb n b r : Nat) (x : Nat) (ys : List Nat) (w : World) (hk : Keys w w.heap.size A ks) (hS : Ints w w.heap.size S (layI ks)) (hO : OkS ks) (hA : allV ks n = true)
    (hR : Tr.Rds w w.heap.size F (cellsI R)) (h : Rd w c Av k1 D k2 E k3) (hP : Keys w w.heap.size Pa P) (hT : Keys w w.heap.size Ta T) (hJ : OkJ R n b r 0 ⟨c, P, T, []⟩) (lR : R.length ≤ 1000) (hb : b ≤ 1050) (hr : r ≤ 1000) (hyl : ys.length ≤ 40) (hx : x < n) (hys : ∀ y ∈ ys, y < n)
    (hB : Tr.Rds w w.heap.size B (cellsI ((x :: ys).map fun (n : Nat) => (n : Int)))) :
    Calls Tryz.prog 17 #[.agg #[.slice A ks.length ca, .slice S (layI ks).length d], .agg #[.slice F R.length cr, .slice Av c.V.length k1, .slice D c.N.length k2, .slice E c.M.length k3, .slice Pa P.length kp, .slice Ta T.length kt], .slice B (ys.length + 1) cb] w (OneAns R (joinJ R ks x ys ⟨c, P, T, []⟩).c (joinJ R ks x ys ⟨c, P, T, []⟩).P (joinJ R ks x ys ⟨c, P, T, []⟩).T (joinJ R ks x ys ⟨c, P, T, []⟩).l w) := by
  have q0 := ((((Q.refl w).alloc (Obj.cells #[.slice A ks.length ca, .slice S (layI ks).length d] 26)).alloc (Obj.cells #[.slice F R.length cr, .slice Av c.V.length k1, .slice D c.N.length k2, .slice E c.M.length k3, .slice Pa P.length kp, .slice Ta T.length kt] 31)).alloc (Obj.cells #[.slice none 0 0, .slice none 0 0, .slice none 0 0, .slice none 0 0, .slice none 0 0, .slice none 0 0] 31))
  have HBa := Lib.hid ((BoxT.new w (.slice A ks.length ca) (.slice S (layI ks).length d) 26).q (((Q.refl _).alloc (Obj.cells #[.slice F R.length cr, .slice Av c.V.length k1, .slice D c.N.length k2, .slice E c.M.length k3, .slice Pa P.length kp, .slice Ta T.length kt] 31)).alloc (Obj.cells #[.slice none 0 0, .slice none 0 0, .slice none 0 0, .slice none 0 0, .slice none 0 0, .slice none 0 0] 31)))
  have X := (Box6.new (w.alloc (Obj.cells #[.slice A ks.length ca, .slice S (layI ks).length d] 26)) (.slice F R.length cr) (.slice Av c.V.length k1) (.slice D c.N.length k2) (.slice E c.M.length k3) (.slice Pa P.length kp) (.slice Ta T.length kt) 31).q ((Q.refl _).alloc (Obj.cells #[.slice none 0 0, .slice none 0 0, .slice none 0 0, .slice none 0 0, .slice none 0 0, .slice none 0 0] 31))
  rw [World.size_alloc] at X
  have HBg := Lib.hid X
  have X2 := BoxW.new ((w.alloc (Obj.cells #[.slice A ks.length ca, .slice S (layI ks).length d] 26)).alloc (Obj.cells #[.slice F R.length cr, .slice Av c.V.length k1, .slice D c.N.length k2, .slice E c.M.length k3, .slice Pa P.length kp, .slice Ta T.length kt] 31)) (.slice none 0 0) (.slice none 0 0) (.slice none 0 0) (.slice none 0 0) (.slice none 0 0) (.slice none 0 0) 31
  rw [World.size_alloc, World.size_alloc] at X2
  have HB6 := Lib.hid X2
  have HZ : Hid (((((w.alloc (Obj.cells #[.slice A ks.length ca, .slice S (layI ks).length d] 26)).alloc (Obj.cells #[.slice F R.length cr, .slice Av c.V.length k1, .slice D c.N.length k2, .slice E c.M.length k3, .slice Pa P.length kp, .slice Ta T.length kt] 31)).alloc (Obj.cells #[.slice none 0 0, .slice none 0 0, .slice none 0 0, .slice none 0 0, .slice none 0 0, .slice none 0 0] 31))).heap.size = w.heap.size + 3) := by unfold Hid; simp
  have HQ0 := Lib.hid q0
  have HJ0 := Lib.hid hJ
  obtain ⟨i0, hi, hz0, hz1, hz2⟩ := info_parts pairInfo
  have Hi := Lib.hid hi
  have Hz0 := Lib.hid hz0
  have Hz1 := Lib.hid hz1
  have Hz2 := Lib.hid hz2
  have hfw : Few c (b + 0) := hJ.few
  have hfw1 := hfw.1
  have hfw2 := hfw.2.1
  have hfw3 := hfw.2.2
  have hle : c.V.length = n := hJ.len
  have hlP : P.length = n := hJ.lp
  have hlT : T.length = n := hJ.lt
  have CM := Lib.hid (fun (U : World) (q : Q w U) => more13 R c P T F Av D E Pa Ta cr k1 k2 k3 kp kt U (hR.q q) (h.q q) ((hP.q (Nat.le_refl _) q).more q.size) ((hT.q (Nat.le_refl _) q).more q.size) (by omega) ⟨by omega, by omega, by omega⟩ (by omega) (by omega) (fun z hz => Nat.le_trans (hJ.sp z hz) (by omega)) (fun z hz => Nat.le_trans (hJ.st z hz) (by omega)))
  clear hfw hfw1 hfw2 hfw3 hle hlP hlT
  have CO1 : Hid (∀ (k : Nat) (g : GJ) (y : Nat) (U : World), OkJ R n b r k g → k ≤ 50 → y < n → Q w U → ∀ (F Av D E Pa Ta : Option Addr) (cr k1 k2 k3 kp kt : Nat), GRP U (fun b => b < U.heap.size) R g.c g.P g.T F Av D E Pa Ta cr k1 k2 k3 kp kt → Calls Tryz.prog 63 #[.agg #[.slice A ks.length ca, .slice S (layI ks).length d], .agg #[.slice F R.length cr, .slice Av g.c.V.length k1, .slice D g.c.N.length k2, .slice E g.c.M.length k3, .slice Pa g.P.length kp, .slice Ta g.T.length kt], .int .i64 (x : Int), .int .i64 (y : Int)] U (OneJ R ks x g y U)) := fun k g y U hg hk100 hy q F Av D E Pa Ta cr k1 k2 k3 kp kt hG => one13 hg lR (by omega) hr A S F Av D E Pa Ta ca d cr k1 k2 k3 kp kt ks x y U ((hk.q (Nat.le_refl _) q).more q.size) ((hS.q (Nat.le_refl _) q).more q.size) hO hA hG hx hy
  have HRow : Hid (∀ U, Q w U → Tr.Rds U U.heap.size B (cellsI ((x :: ys).map fun (n : Nat) => (n : Int)))) := fun U q => hB.q q
  have HJs : Hid (∀ k, k ≤ ys.length → OkJ R n b r k (joinJ R ks x (ys.take k) ⟨c, P, T, []⟩)) := fun k hk => by
    have := OkJ.joins (ks := ks) hx (ys.take k) 0 _ hJ (fun y hy' => hys y (List.mem_of_mem_take hy'))
    rwa [List.length_take, Nat.min_eq_left hk, Nat.zero_add] at this
  have Hys := Lib.hid hys
  have Hr := Lib.hid hr
  have Hyl := Lib.hid hyl
  clear hi hz0 hz1 hz2 q0 X X2 hJ hk hS hO hA hR h hP hT hB lR hb hr hx hys
  go_enter Tryz.func17, Tryz.ntmps17
  go_upto_region 1 with fail
  generalize (((w.alloc (Obj.cells #[.slice A ks.length ca, .slice S (layI ks).length d] 26)).alloc (Obj.cells #[.slice F R.length cr, .slice Av c.V.length k1, .slice D c.N.length k2, .slice E c.M.length k3, .slice Pa P.length kp, .slice Ta T.length kt] 31)).alloc (Obj.cells #[.slice none 0 0, .slice none 0 0, .slice none 0 0, .slice none 0 0, .slice none 0 0, .slice none 0 0] 31)) = W0 at *
  have g0 := HBg.out.c0
  have g1 := HBg.out.c1
  have g2 := HBg.out.c2
  have g3 := HBg.out.c3
  have g4 := HBg.out.c4
  have g5 := HBg.out.c5
  go_upto_region 2 with (go_at_call 62; refine (CM.out W0 HQ0.out).mono ?_; rintro e w1 ⟨F1, A1, D1, E1, P1, T1, cr1, l11, l12, l13, lp1, lt1, rfl, hg1, q1⟩; unfold gvP; have HG1 := Lib.hid hg1; have HQ1 := Lib.hid q1; clear hg1 q1 g0 g1 g2 g3 g4 g5)
  have HJ1 : Hid (JoinS w (w1.alloc (Obj.cells #[.slice F1 R.length cr1, .slice A1 c.V.length l11, .slice D1 c.N.length l12, .slice E1 c.M.length l13, .slice P1 P.length lp1, .slice T1 T.length lt1] 31)) w1.heap.size R ⟨c, P, T, []⟩ (.slice A ks.length ca) (.slice S (layI ks).length d) F1 A1 D1 E1 P1 T1 cr1 l11 l12 l13 lp1 lt1 (.slice none 0 0)) := by
    have hz := HZ.out
    have hs := HQ1.out.size
    have qa := (Q.refl w1).alloc (Obj.cells #[.slice F1 R.length cr1, .slice A1 c.V.length l11, .slice D1 c.N.length l12, .slice E1 c.M.length l13, .slice P1 P.length lp1, .slice T1 T.length lt1] 31)
    refine ⟨(HBa.out.q HQ1.out).q qa, (HB6.out.q HQ1.out).q qa, BoxW.new w1 (.slice F1 R.length cr1) (.slice A1 c.V.length l11) (.slice D1 c.N.length l12) (.slice E1 c.M.length l13) (.slice P1 P.length lp1) (.slice T1 T.length lt1) 31, (HG1.out.to (K' := fun b => W0.heap.size ≤ b ∧ b < w1.heap.size) (agree_q (P := fun b => W0.heap.size ≤ b) (Q.refl w1)) (fun b h1 h2 => ⟨h1, h2⟩)).to (agree_q (P := fun b => W0.heap.size ≤ b ∧ b < w1.heap.size) qa) (fun b h1 _ => ⟨by omega, by omega, by omega, by simp [Value.ownBlock]⟩), World.ownsRow_nil _ _ _ _, (HQ0.out.trans HQ1.out).trans qa, by omega⟩
  clear HG1 HBa HBg HB6 CM
  have HW1 : Hid (w1.heap.size < (w1.alloc (Obj.cells #[.slice F1 R.length cr1, .slice A1 c.V.length l11, .slice D1 c.N.length l12, .slice E1 c.M.length l13, .slice P1 P.length lp1, .slice T1 T.length lt1] 31)).heap.size) := by unfold Hid; simp
  generalize w1.alloc (Obj.cells #[.slice F1 R.length cr1, .slice A1 c.V.length l11, .slice D1 c.N.length l12, .slice E1 c.M.length l13, .slice P1 P.length lp1, .slice T1 T.length lt1] 31) = W1 at *
  generalize w1.heap.size = B8 at *
  go_wp2_with fail
  go_loopw [9, 10, 11] (fun ov iv _ wr => ∃ (k i : Nat) (Fr Ar Dr Er Pr Sr : Option Addr) (crr r1 r2 r3 rp rt : Nat), Hid (i = k + 1) ∧ k ≤ ys.length ∧ i ≤ ys.length + 1 ∧ iv = .int .i64 (i : Int) ∧ Hid (JoinS w wr B8 R (joinJ R ks x (ys.take k) ⟨c, P, T, []⟩) (.slice A ks.length ca) (.slice S (layI ks).length d) Fr Ar Dr Er Pr Sr crr r1 r2 r3 rp rt ov)) (fun _ iv _ _ => ys.length + 1 - (intOf iv).toNat)
  case atStart => exact ⟨0, 1, F1, A1, D1, E1, P1, T1, cr1, l11, l12, l13, lp1, lt1, rfl, Nat.zero_le _, by omega, rfl, HJ1⟩
  case round =>
    obtain ⟨k, i, F7, A7, D7, E7, P7, T7, cr7, r1, r2, r3, rp, rt, Hik, hkl, hil, rfl, HJ⟩ := hrel
    obtain ⟨ov, hov⟩ : ∃ ov, ov = u9 := ⟨_, rfl⟩
    subst hov
    obtain ⟨g, hg⟩ : ∃ g, g = (joinJ R ks x (ys.take k) ⟨c, P, T, []⟩) := ⟨_, rfl⟩
    rw [← hg] at HJ
    have HOk : Hid (OkJ R n b r k g) := by rw [hg]; exact HJs.out k hkl
    by_cases hlt : k < ys.length
    · obtain ⟨y, hyk⟩ : ∃ y, y = ys[k] := ⟨_, rfl⟩
      have hy : y < n := by rw [hyk]; exact Hys.out _ (List.getElem_mem hlt)
      obtain ⟨h, hh⟩ : ∃ h, h = oneJ R ks x g y := ⟨_, rfl⟩
      have hhk : h = joinJ R ks x (ys.take (k + 1)) ⟨c, P, T, []⟩ := by rw [joinJ_take hlt, ← hg, ← hyk, hh]
      have HOk1 : Hid (OkJ R n b r (k + 1) h) := by rw [hhk]; exact HJs.out (k + 1) hlt
      have HLL : Hid (h.l.length ≤ 100000) := by
        have h1 := HOk1.out.ll
        have h2 : 2 * r * (k + 1) ≤ 2000 * 41 := Nat.mul_le_mul (by have := Hr.out; omega) (by have := Hyl.out; omega)
        unfold Hid; omega
      have CO : Hid (∀ U, Q wr U → Calls Tryz.prog 63 #[.agg #[.slice A ks.length ca, .slice S (layI ks).length d], .agg #[.slice F7 R.length cr7, .slice A7 g.c.V.length r1, .slice D7 g.c.N.length r2, .slice E7 g.c.M.length r3, .slice P7 g.P.length rp, .slice T7 g.T.length rt], .int .i64 (x : Int), .int .i64 (y : Int)] U fun e w' => ∃ l2, h.l = g.l ++ l2 ∧ OneAns R h.c h.P h.T l2 U e w') := fun U q => by
        rw [hh]
        exact CO1.out k g y U HOk.out (by have := Hyl.out; omega) hy (HJ.out.q.trans q) F7 A7 D7 E7 P7 T7 cr7 r1 r2 r3 rp rt (HJ.out.gr.to (agree_q (P := fun b => w.heap.size ≤ b ∧ b ≠ B8 ∧ b ≠ w.heap.size + 2 ∧ ov.ownBlock ≠ some b) q) (fun b h1 h2 => Nat.lt_of_lt_of_le h2 q.size))
      obtain ⟨rad, hra, rb, rc0⟩ := (HRow.out wr HJ.out.q).int_at (show 0 < ((x :: ys).map fun (n : Nat) => (n : Int)).length by simp)
      obtain ⟨rad', hra', _, rc1⟩ := (HRow.out wr HJ.out.q).int_at (show i < ((x :: ys).map fun (n : Nat) => (n : Int)).length by have := Hik.out; simp; omega)
      rw [hra] at hra'
      injection hra' with hra'
      subst hra'
      have rc0' : wr.cell? rad = some (.int .i64 (x : Int)) := by rw [show rad.add 0 = rad by simp [Addr.add]] at rc0; simpa using rc0
      have rc1' : wr.cell? (rad.add i) = some (.int .i64 (y : Int)) := by rw [rc1, hyk]; congr 2; have hi := Hik.out; subst hi; simp
      have ALL : Hid (∀ U, Q wr U → U.cell? ⟨w.heap.size, 0, none⟩ = some (.slice A ks.length ca) ∧ U.cell? ⟨w.heap.size, 1, none⟩ = some (.slice S (layI ks).length d) ∧ U.cell? ⟨B8, 0, none⟩ = some (.slice F7 R.length cr7) ∧ U.cell? ⟨B8, 1, none⟩ = some (.slice A7 g.c.V.length r1) ∧ U.cell? ⟨B8, 2, none⟩ = some (.slice D7 g.c.N.length r2) ∧ U.cell? ⟨B8, 3, none⟩ = some (.slice E7 g.c.M.length r3) ∧ U.cell? ⟨B8, 4, none⟩ = some (.slice P7 g.P.length rp) ∧ U.cell? ⟨B8, 5, none⟩ = some (.slice T7 g.T.length rt) ∧ U.cell? rad = some (.int .i64 (x : Int)) ∧ U.cell? (rad.add i) = some (.int .i64 (y : Int))) := fun U q => by
        have z0 := HJ.out.ba.q q
        have z1 := (HJ.out.b8.q q).c
        exact ⟨z0.c0, z0.c1, z1.c0, z1.c1, z1.c2, z1.c3, z1.c4, z1.c5, (q.cell rb).trans rc0', (q.cell (p := rad.add i) (by rw [Tr.add_block]; exact rb)).trans rc1'⟩
      have d0 : decide ((i : Int) < (ys.length : Int) + 1) = true := decide_eq_true (by have := Hik.out; omega)
      have d0n : decide (i < ys.length + 1) = true := decide_eq_true (by have := Hik.out; omega)
      have j0 : (0 : Int) ≤ (i : Int) := Int.natCast_nonneg _
      have j1 : (i : Int) < ((ys.length + 1 : Nat) : Int) := by have := Hik.out; omega
      have j1b : (i : Int) < (ys.length : Int) + 1 := by have := Hik.out; omega
      have j2 : (0 : Int) < (ys.length : Int) + 1 := by omega
      have Hlt := Lib.hid hlt
      have Hhk := Lib.hid hhk
      subst hra
      clear rb rc0 rc1 rc0' rc1' hyk hh hhk hg hy HRow hlt
      go_upto_region 7 with fail
      refine begin_t (S := fun U => U.cell? ⟨w.heap.size, 0, none⟩ = some (.slice A ks.length ca) ∧ U.cell? ⟨w.heap.size, 1, none⟩ = some (.slice S (layI ks).length d) ∧ U.cell? ⟨B8, 0, none⟩ = some (.slice F7 R.length cr7) ∧ U.cell? ⟨B8, 1, none⟩ = some (.slice A7 g.c.V.length r1) ∧ U.cell? ⟨B8, 2, none⟩ = some (.slice D7 g.c.N.length r2) ∧ U.cell? ⟨B8, 3, none⟩ = some (.slice E7 g.c.M.length r3) ∧ U.cell? ⟨B8, 4, none⟩ = some (.slice P7 g.P.length rp) ∧ U.cell? ⟨B8, 5, none⟩ = some (.slice T7 g.T.length rt) ∧ U.cell? rad = some (.int .i64 (x : Int)) ∧ U.cell? (rad.add i) = some (.int .i64 (y : Int))) (z := 13) (by kernel_rfl) ?_ (fun hHeld => ?_)
      · exact ALL.out _ (Q.refl wr).drew
      refine take_t (i := 0) (d := some 21) (v := ?_) rfl (by kernel_rfl) (by kernel_rfl) (by kernel_rfl) (by kernel_rfl) (fun _ _ _ h => h) rfl (by rfl) ?_ (by assumption) ?_
      rotate_left
      · (intro w hSw; (try dsimp only at hSw); go_simp; (try with_reducible rfl))
      try simp only [Act.put, List.setIfInBounds_toArray, List.set_cons_zero, List.set_cons_succ]
      refine take_t (i := 1) (d := some 22) (v := ?_) rfl (by kernel_rfl) (by kernel_rfl) (by kernel_rfl) (by kernel_rfl) (fun _ _ _ h => h) rfl (by rfl) ?_ (by assumption) ?_
      rotate_left
      · (intro w hSw; (try dsimp only at hSw); go_simp; (try with_reducible rfl))
      try simp only [Act.put, List.setIfInBounds_toArray, List.set_cons_zero, List.set_cons_succ]
      refine take_y (i := 2) (d := some 23) (v := ?_) rfl (by kernel_rfl) (by kernel_rfl) (by kernel_rfl) (by kernel_rfl) (fun _ _ _ h => h) rfl (by rfl) ?_ (by assumption) ?_
      rotate_left
      · (intro w; go_simp; (try with_reducible rfl))
      try simp only [Act.put, List.setIfInBounds_toArray, List.set_cons_zero, List.set_cons_succ]
      refine take_y (i := 3) (d := some 24) (v := ?_) rfl (by kernel_rfl) (by kernel_rfl) (by kernel_rfl) (by kernel_rfl) (fun _ _ _ h => h) rfl (by rfl) ?_ (by assumption) ?_
      rotate_left
      · (intro w; go_simp; (try with_reducible rfl))
      try simp only [Act.put, List.setIfInBounds_toArray, List.set_cons_zero, List.set_cons_succ]
      refine take_t (i := 4) (d := some 25) (v := ?_) rfl (by kernel_rfl) (by kernel_rfl) (by kernel_rfl) (by kernel_rfl) (fun _ _ _ h => h) rfl (by rfl) ?_ (by assumption) ?_
      rotate_left
      · (intro w hSw; (try dsimp only at hSw); go_simp; (try with_reducible rfl))
      try simp only [Act.put, List.setIfInBounds_toArray, List.set_cons_zero, List.set_cons_succ]
      refine take_y (i := 5) (d := some 26) (v := ?_) rfl (by kernel_rfl) (by kernel_rfl) (by kernel_rfl) (by kernel_rfl) (fun _ _ _ h => h) rfl (by rfl) ?_ (by assumption) ?_
      rotate_left
      · (intro w; go_simp; (try with_reducible rfl))
      try simp only [Act.put, List.setIfInBounds_toArray, List.set_cons_zero, List.set_cons_succ]
      refine take_y (i := 6) (d := some 27) (v := ?_) rfl (by kernel_rfl) (by kernel_rfl) (by kernel_rfl) (by kernel_rfl) (fun _ _ _ h => h) rfl (by rfl) ?_ (by assumption) ?_
      rotate_left
      · (intro w; go_simp; (try with_reducible rfl))
      try simp only [Act.put, List.setIfInBounds_toArray, List.set_cons_zero, List.set_cons_succ]
      refine take_y (i := 7) (d := some 28) (v := ?_) rfl (by kernel_rfl) (by kernel_rfl) (by kernel_rfl) (by kernel_rfl) (fun _ _ _ h => h) rfl (by rfl) ?_ (by assumption) ?_
      rotate_left
      · (intro w; go_simp; (try with_reducible rfl))
      try simp only [Act.put, List.setIfInBounds_toArray, List.set_cons_zero, List.set_cons_succ]
      refine take_t (i := 8) (d := some 29) (v := ?_) rfl (by kernel_rfl) (by kernel_rfl) (by kernel_rfl) (by kernel_rfl) (fun _ _ _ h => h) rfl (by rfl) ?_ (by assumption) ?_
      rotate_left
      · (intro w hSw; (try dsimp only at hSw); go_simp; (try with_reducible rfl))
      try simp only [Act.put, List.setIfInBounds_toArray, List.set_cons_zero, List.set_cons_succ]
      refine call_t (i := 9) rfl (by kernel_rfl) (by rfl) (fun K hK => ?_)
      go_simp
      go_at_call 63
      refine (CO.out wr.drew (Q.refl wr).drew).mono ?_
      rintro e w5 ⟨l2, hl2, F5, A5, D5, E5, P5, T5, cr5, m1, m2, m3, mp, mt, mv, rfl, hg5, hv5, q5⟩
      unfold gvP
      obtain ⟨Am, cm, rfl, -, hx5⟩ := Rw.own_read hv5
      have HG5 := Lib.hid hg5
      have HX5 := Lib.hid hx5
      have HV5 := Lib.hid hv5
      have HL2 := Lib.hid hl2
      have HQ5 : Hid (Q wr w5) := Lib.hid ((Q.refl wr).drew.trans q5)
      have hb8 := HJ.out.b8.q HQ5.out
      clear hg5 hv5 hx5 hl2 q5
      have hHeld : ((fun U => U.cell? ⟨w.heap.size, 0, none⟩ = some (.slice A ks.length ca) ∧ U.cell? ⟨w.heap.size, 1, none⟩ = some (.slice S (layI ks).length d) ∧ U.cell? ⟨B8, 0, none⟩ = some (.slice F7 R.length cr7) ∧ U.cell? ⟨B8, 1, none⟩ = some (.slice A7 g.c.V.length r1) ∧ U.cell? ⟨B8, 2, none⟩ = some (.slice D7 g.c.N.length r2) ∧ U.cell? ⟨B8, 3, none⟩ = some (.slice E7 g.c.M.length r3) ∧ U.cell? ⟨B8, 4, none⟩ = some (.slice P7 g.P.length rp) ∧ U.cell? ⟨B8, 5, none⟩ = some (.slice T7 g.T.length rt) ∧ U.cell? rad = some (.int .i64 (x : Int)) ∧ U.cell? (rad.add i) = some (.int .i64 (y : Int))) : World → Prop) _ := ALL.out w5 HQ5.out
      refine hK.out _ _ (fun _ => hHeld) ?_
      clear hK K
      try simp only [Act.put, List.setIfInBounds_toArray]
      refine take_y (i := 10) (d := some 20) (v := ?_) rfl (by kernel_rfl) (by kernel_rfl) (by kernel_rfl) (by kernel_rfl) (fun _ _ _ h => h) rfl (by rfl) ?_ (by assumption) ?_
      rotate_left
      · (intro w; go_simp; (try with_reducible rfl))
      try simp only [Act.put]
      refine take_y (i := 11) (d := some 31) (v := ?_) rfl (by kernel_rfl) (by kernel_rfl) (by kernel_rfl) (by kernel_rfl) (fun _ _ _ h => h) rfl (by rfl) ?_ (by assumption) ?_
      rotate_left
      · (intro w; go_simp; (try with_reducible rfl))
      try simp only [Act.put]
      refine take_y (i := 12) (d := some 32) (v := ?_) rfl (by kernel_rfl) (by kernel_rfl) (by kernel_rfl) (by kernel_rfl) (fun _ _ _ h => h) rfl (by rfl) ?_ (by assumption) ?_
      rotate_left
      · (intro w; go_simp; (try with_reducible rfl))
      try simp only [Act.put]
      refine call_t (i := 13) rfl (by kernel_rfl) (by rfl) (fun K hK => ?_)
      have x0 := hb8.c.c0
      have x1 := hb8.c.c1
      have x2 := hb8.c.c2
      have x3 := hb8.c.c3
      have x4 := hb8.c.c4
      have x5 := hb8.c.c5
      have xf0 := hb8.f0
      have xf1 := hb8.f1
      have xf2 := hb8.f2
      have xf3 := hb8.f3
      have xf4 := hb8.f4
      have xf5 := hb8.f5
      go_simp
      refine hK.out _ _ (fun hz => by cases hz) ?_
      clear hK K
      try simp only [Act.put, List.setIfInBounds_toArray, List.set_cons_zero, List.set_cons_succ]
      refine call_t (i := 14) rfl (by kernel_rfl) (by rfl) (fun K hK => ?_)
      go_simp
      refine hK.out _ _ (fun hz => by cases hz) ?_
      clear hK K
      try simp only [Act.put, List.setIfInBounds_toArray, List.set_cons_zero, List.set_cons_succ]
      refine done_t (by kernel_rfl) ?_ _
      clear x0 x1 x2 x3 x4 x5 xf0 xf1 xf2 xf3 xf4 xf5 hb8 d0 d0n j1 j1b j2
      have gw := set6_grown w5 B8 (.slice F5 R.length cr5) (.slice A5 h.c.V.length m1) (.slice D5 h.c.N.length m2) (.slice E5 h.c.M.length m3) (.slice P5 h.P.length mp) (.slice T5 h.T.length mt)
      obtain ⟨w6, h6⟩ : ∃ w6, w6 = ((((((w5.setCell ⟨B8, 0, none⟩ (.slice F5 R.length cr5)).setCell ⟨B8, 1, none⟩ (.slice A5 h.c.V.length m1)).setCell ⟨B8, 2, none⟩ (.slice D5 h.c.N.length m2)).setCell ⟨B8, 3, none⟩ (.slice E5 h.c.M.length m3)).setCell ⟨B8, 4, none⟩ (.slice P5 h.P.length mp)).setCell ⟨B8, 5, none⟩ (.slice T5 h.T.length mt)) := ⟨_, rfl⟩
      rw [← h6] at gw ⊢
      have hB8 : B8 < wr.heap.size := HJ.out.b8.c.lt
      have hs5 := HQ5.out.size
      have hs6 := gw.size
      have hO5 := row_kept HJ.out.ow HQ5.out (Nat.le_refl _)
      have HO6 := Lib.hid (hO5.kept gw (by
        cases e : ov.ownBlock with
        | none => exact .inl rfl
        | some b => exact .inr (fun e2 => by injection e2 with e2; have := (HJ.out.ow.lt b e).1; omega)))
      have hm6 := HV5.out.kept gw (by
        cases e : (Value.slice Am l2.length cm).ownBlock with
        | none => exact .inl rfl
        | some b => exact .inr (fun e2 => by injection e2 with e2; have h1 : wr.heap.size ≤ b := (HV5.out.lt b e).1; omega))
      obtain ⟨Am', cm', em, -, hx6⟩ := Rw.own_read hm6
      injection em with em1 _ em3
      subst em1
      subst em3
      have HX6 := Lib.hid hx6
      have H6 := Lib.hid h6
      have Hlen : Hid (g.l.length + l2.length = h.l.length) := by rw [HL2.out, List.length_append]; rfl
      have Hs6 : Hid (B8 + 1 ≤ w6.heap.size) := by unfold Hid; omega
      clear gw h6 hO5 hm6 hx6 hs5 hs6 hB8 HX5
      go_wp2_with (at_builtin; refine wpList_append_src _ rfl (.tmp 33) (.tmp 34) _ rfl (B8 + 1) 76 i0 _ 2 16 Tryz.underlying37 Hi.out Hz0.out Hz1.out Hz2.out rfl (by omega) ov g.l.length (cellsQ g.l) rfl HO6.out Am l2.length cm (cellsQ l2) rfl (cellsQ_len l2) HX6.out.src (cellsQ_one l2) (by have := Hlen.out; have := HLL.out; unfold maxLen; omega) (by have := Hlen.out; have := HLL.out; omega) Hs6.out ?_; intro v7 w7 own7 gr7 at7; rw [← cellsQ_append, ← HL2.out] at own7; have HJ7 := Lib.hid (JoinS.next HJ.out HQ5.out HG5.out w6 H6.out gr7 Hlen.out own7 at7); clear own7 gr7 at7; have hi41 : i ≤ ys.length + 1 := hil; have hy40 : ys.length ≤ 40 := Hyl.out)
      go_roundw
      case rel => exact ⟨k + 1, i + 1, F5, A5, D5, E5, P5, T5, cr5, m1, m2, m3, mp, mt, by have := Hik.out; unfold Hid; omega, Hlt.out, by have := Hik.out; have := Hlt.out; omega, by have := Hyl.out; go_num, by have h7 := HJ7.out; rw [Hhk.out] at h7; exact h7⟩
      case measure => have := Hyl.out; have := Hik.out; have := Hlt.out; simp [intOf]; omega
    · have hki : k = ys.length := by omega
      have hgx : joinJ R ks x ys ⟨c, P, T, []⟩ = g := by rw [hg, hki, List.take_length]
      have hi2 : i = ys.length + 1 := by have := Hik.out; omega
      subst hi2
      have d0 : decide (((ys.length + 1 : Nat) : Int) < (ys.length : Int) + 1) = false := decide_eq_false (by omega)
      have d0b : decide ((ys.length : Int) + 1 < (ys.length : Int) + 1) = false := decide_eq_false (by omega)
      have d0n : decide (ys.length + 1 < ys.length + 1) = false := decide_eq_false (by omega)
      have hb8 := HJ.out.b8.c
      have x0 := hb8.c0
      have x1 := hb8.c1
      have x2 := hb8.c2
      have x3 := hb8.c3
      have x4 := hb8.c4
      have x5 := hb8.c5
      have hb6 := HJ.out.b6
      have u0 := hb6.c.c0
      have u1 := hb6.c.c1
      have u2 := hb6.c.c2
      have u3 := hb6.c.c3
      have u4 := hb6.c.c4
      have u5 := hb6.c.c5
      have uf0 := hb6.f0
      have uf1 := hb6.f1
      have uf2 := hb6.f2
      have uf3 := hb6.f3
      have uf4 := hb6.f4
      have uf5 := hb6.f5
      have HHg := Lib.hid hgx
      clear hg hgx hki hb8 hb6 hil
      go_wp2_with fail
      have hz := HJ.out.b6.set (.slice F7 R.length cr7) (.slice A7 g.c.V.length r1) (.slice D7 g.c.N.length r2) (.slice E7 g.c.M.length r3) (.slice P7 g.P.length rp) (.slice T7 g.T.length rt)
      have y0 := hz.c.c0
      have y1 := hz.c.c1
      have y2 := hz.c.c2
      have y3 := hz.c.c3
      have y4 := hz.c.c4
      have y5 := hz.c.c5
      have gw := set6_grown wr (w.heap.size + 2) (.slice F7 R.length cr7) (.slice A7 g.c.V.length r1) (.slice D7 g.c.N.length r2) (.slice E7 g.c.M.length r3) (.slice P7 g.P.length rp) (.slice T7 g.T.length rt)
      have hlo := HJ.out.lo
      rw [HHg.out]
      refine bodyPost_ret (v := .tuple #[.agg #[.slice F7 R.length cr7, .slice A7 g.c.V.length r1, .slice D7 g.c.N.length r2, .slice E7 g.c.M.length r3, .slice P7 g.P.length rp, .slice T7 g.T.length rt], ov]) (by simp [results, Tryz.f17, go_sem, y0, y1, y2, y3, y4, y5]) rfl ⟨F7, A7, D7, E7, P7, T7, cr7, r1, r2, r3, rp, rt, ov, rfl, HJ.out.gr.to (agree_row13 (P := fun b => w.heap.size ≤ b ∧ b ≠ B8 ∧ b ≠ w.heap.size + 2 ∧ ov.ownBlock ≠ some b) gw (fun r e h => by injection e with e; exact h.2.2.1 e.symm)) (fun b h _ => h.1), row_kept (HJ.out.ow.kept gw ?_) (Q.refl _) (by omega), grown_q gw HJ.out.q (by omega)⟩
      cases e : ov.ownBlock with
      | none => exact .inl rfl
      | some b => exact .inr (fun e2 => by injection e2 with e2; have := (HJ.out.ow.lt b e).1; omega)
end Go.Proofs.YtnifmfdlocgefaaGreat.Cy

namespace Go.Proofs.YtnifmfdlocgefaaGreat.Cy
open Go.RowKit Kit Tr Uf Ig
open Go.Proofs.YtnifmfdlocgefaaGreat.Hs (Keys Ints BoxT layI)
open Go.Proofs.YtnifmfdlocgefaaGreat.St (PI cellsQ)
end Go.Proofs.YtnifmfdlocgefaaGreat.Cy
