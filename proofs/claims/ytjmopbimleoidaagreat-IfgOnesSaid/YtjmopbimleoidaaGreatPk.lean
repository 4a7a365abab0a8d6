/-
  What the proofs lean on, part 11 of 17.
-/
import Derived.Test.YtjmopbimleoidaaGreatPa
import Derived.Test.YtjmopbimleoidaaGreatPb
import Derived.Test.YtjmopbimleoidaaGreatPe
import Derived.Test.YtjmopbimleoidaaGreatPf
import Derived.Test.YtjmopbimleoidaaGreatPg
import Derived.Test.YtjmopbimleoidaaGreatPj
import Derived.Deep.RegionHeld3
namespace Go.Proofs.YtjmopbimleoidaaGreat.Ig
open Go.RowKit Kit Tr Uf
open Go.Proofs.YtjmopbimleoidaaGreat.Hs (Keys Ints BoxT KeysP IntsP)
/-- a slice value that reads these cells, in a block of this kind -/
def RdsP (w : World) (P : Nat → Prop) (A : Option Addr) (cs : List Value) : Prop := 0 < cs.length → ∃ ad, A = some ad ∧ P ad.block ∧ ad.block < w.heap.size ∧ ∀ j v, cs[j]? = some v → w.cell? (ad.add j) = some v
theorem RdsP.rds {w : World} {P : Nat → Prop} {A : Option Addr} {cs : List Value} (h : RdsP w P A cs) : Tr.Rds w w.heap.size A cs := fun h0 => by
  obtain ⟨ad, e, _, hl, hc⟩ := h h0
  exact ⟨ad, e, hl, hc⟩
theorem RdsP.toP {w W : World} {P P' : Nat → Prop} {A : Option Addr} {cs : List Value} (h : RdsP w P A cs) (hs : w.heap.size ≤ W.heap.size) (hW : ∀ p : Addr, P p.block → p.block < w.heap.size → W.cell? p = w.cell? p) (hP : ∀ b, P b → b < w.heap.size → P' b) : RdsP W P' A cs := fun h0 => by
  obtain ⟨ad, e, hp, hl, hc⟩ := h h0
  exact ⟨ad, e, hP _ hp hl, by omega, fun j v hj => by rw [hW _ (by rw [Tr.add_block]; exact hp) (by rw [Tr.add_block]; exact hl)]; exact hc j v hj⟩
theorem RdsP.of_own {w : World} {P : Nat → Prop} {g : Nat} {cs : List Value} (h : OwnC w g cs) (hP : P g) : RdsP w P (some ⟨g, 0, none⟩) cs := fun _ => ⟨_, rfl, hP, h.1, fun j v hv => by rw [Tr.add_zero_head]; exact (h.2 j v hv).1⟩
theorem RdsP.of_owno {w : World} {P : Nat → Prop} {lo : Nat} {A : Option Addr} {cs : List Value} (h : OwnO w lo A cs) (hP : ∀ b, lo ≤ b → P b) : RdsP w P A cs := fun h0 => by
  obtain ⟨g, rfl, hg, ho⟩ := h h0
  exact RdsP.of_own ho (hP g hg) h0
/-- what agrees: a store into a block that isn't of the kind -/
theorem agree_grown {w w' : World} {P : Nat → Prop} {B : Nat} (hg : w.grownBy w' (some B)) (hB : ¬ P B) : w.heap.size ≤ w'.heap.size ∧ ∀ p : Addr, P p.block → p.block < w.heap.size → w'.cell? p = w.cell? p := by
  refine ⟨hg.size, fun p hp hl => ?_⟩
  have := hg.block p.block hl (fun e => by injection e with e; rw [e] at hp; exact hB hp)
  simp only [World.cell?, this]
theorem agree_q {w w' : World} {P : Nat → Prop} (q : Q w w') : w.heap.size ≤ w'.heap.size ∧ ∀ p : Addr, P p.block → p.block < w.heap.size → w'.cell? p = w.cell? p := ⟨q.size, fun _ _ hl => q.cell hl⟩
theorem RowI.p {w : World} {g e : Nat} {v : Value} {l : List Int} (h : RowI w g e v l) (he : e ≤ w.heap.size) {P : Nat → Prop} (hP : ∀ b, g < b → b < e → P b) : ∃ a c, l.length ≤ c ∧ v = .slice a l.length c ∧ IntsP w P a l := by
  obtain ⟨A, c, rfl, hc, k⟩ := h.form
  refine ⟨A, c, hc, rfl, fun h0 => ?_⟩
  obtain ⟨ad, e1, h1, h2, h3⟩ := k h0
  exact ⟨ad, e1, hP _ h1 h2, by omega, fun i x hx => h3 i _ (by simp [cellsI, hx])⟩
theorem Tab.p {w : World} {g e : Nat} {ks : List (List Int)} (h : Tab w g e ks) {P : Nat → Prop} (hP : ∀ b, g ≤ b → b < e → P b) : KeysP w P (some ⟨g, 0, none⟩) ks := fun _ => by
  obtain ⟨cs, _, a, b, c⟩ := h.own
  refine ⟨_, rfl, hP g (Nat.le_refl _) h.lt, Nat.lt_of_lt_of_le h.lt h.le, fun i k hi => ?_⟩
  obtain ⟨v, d, r⟩ := c i k hi
  obtain ⟨A, m, hm, rfl, hI⟩ := r.p h.le (P := P) (fun b h1 h2 => hP b (Nat.le_of_lt h1) h2)
  exact ⟨A, m, hm, by rw [Tr.add_zero_head]; exact (a.2 i _ d).1, hI⟩
/-- a table, and empty rows behind -/
theorem tab_more {w w' : World} {g e m : Nat} {ks : List (List Int)} {cs : List Value} {v' : Value} (h : Tab w g e ks) (hcl : cs.length = ks.length) (hr : ∀ (y : Nat) (l : List Int), ks[y]? = some l → ∃ v, cs[y]? = some v ∧ RowI w g e v l)
    (ho : w'.ownsRow g 24 1 v' (ks.length + m) (cs ++ List.replicate m (.slice none 0 0))) (gr : w.grownBy w' (some g)) (ha : v'.ownBlock = some g ∨ v'.ownBlock = some w.heap.size) (hm : 0 < m) {P : Nat → Prop} (hP : ∀ b, g ≤ b ∧ b < e ∨ b = w.heap.size → P b) :
    ∃ A c, v' = .slice A (ks.length + m) c ∧ ks.length + m ≤ c ∧ KeysP w' P A (ks ++ List.replicate m []) := by
  obtain ⟨G, c, rfl, _, hGl, hc⟩ := row_some ho (by omega)
  have hG : G = g ∨ G = w.heap.size := by simpa [Value.ownBlock] using ha
  have hge := h.lt
  have hes := h.le
  refine ⟨_, c, rfl, hc, fun _ => ⟨_, rfl, hP G (by omega), hGl, fun i k hi => ?_⟩⟩
  have hO := OwnC.of_row ho
  by_cases hil : i < ks.length
  · rw [List.getElem?_append_left hil] at hi
    obtain ⟨v, d, r⟩ := hr i k hi
    have r' : RowI w' g e v k := r.keep gr (.inl (Nat.le_refl _))
    obtain ⟨a, cc, hcc, rfl, hI⟩ := r'.p (Nat.le_trans hes gr.size) (P := P) (fun b h1 h2 => hP b (.inl ⟨Nat.le_of_lt h1, h2⟩))
    exact ⟨a, cc, hcc, by rw [Tr.add_zero_head]; exact (hO.2 i _ (by rw [List.getElem?_append_left (by omega)]; exact d)).1, hI⟩
  · rw [List.getElem?_append_right (by omega), List.getElem?_replicate] at hi
    have hi2 : i - ks.length < m := by
      by_cases hx : i - ks.length < m
      · exact hx
      · rw [if_neg hx] at hi; cases hi
    rw [if_pos hi2] at hi
    injection hi with hi
    subst hi
    refine ⟨none, 0, Nat.le_refl _, ?_, fun h => absurd h (by simp)⟩
    rw [Tr.add_zero_head]
    exact (hO.2 i _ (by rw [List.getElem?_append_right (by omega), hcl, List.getElem?_replicate, if_pos hi2]; rfl)).1
theorem OwnC.src {w : World} {g : Nat} {cs : List Value} (h : OwnC w g cs) : Src w (some ⟨g, 0, none⟩) cs := fun _ => ⟨_, rfl, fun j v hv => by rw [Tr.add_zero_head]; exact (h.2 j v hv).1⟩

/-- a graph that can be read, in blocks of a kind -/
structure GRP (w : World) (K : Nat → Prop) (R : List Int) (c : Cells) (P T : List (List Int)) (F A D E Pa Ta : Option Addr) (cr k1 k2 k3 kp kt : Nat) : Prop where
  r : RdsP w K F (cellsI R)
  v : RdsP w K A (cellsI c.V)
  n : RdsP w K D (cellsP c.N)
  m : RdsP w K E (cellsI c.M)
  p : KeysP w K Pa P
  t : KeysP w K Ta T
  lr : R.length ≤ cr
  lv : c.V.length ≤ k1
  ln : c.N.length ≤ k2
  lm : c.M.length ≤ k3
  lp : P.length ≤ kp
  lt : T.length ≤ kt
theorem GRP.to {w W : World} {K K' : Nat → Prop} {R : List Int} {c : Cells} {P T : List (List Int)} {F A D E Pa Ta : Option Addr} {cr k1 k2 k3 kp kt : Nat} (h : GRP w K R c P T F A D E Pa Ta cr k1 k2 k3 kp kt) (ha : w.heap.size ≤ W.heap.size ∧ ∀ p : Addr, K p.block → p.block < w.heap.size → W.cell? p = w.cell? p) (hK : ∀ b, K b → b < w.heap.size → K' b) : GRP W K' R c P T F A D E Pa Ta cr k1 k2 k3 kp kt :=
  ⟨h.r.toP ha.1 ha.2 hK, h.v.toP ha.1 ha.2 hK, h.n.toP ha.1 ha.2 hK, h.m.toP ha.1 ha.2 hK, h.p.toP ha.1 ha.2 hK, h.t.toP ha.1 ha.2 hK, h.lr, h.lv, h.ln, h.lm, h.lp, h.lt⟩
theorem GRP.rd {w : World} {K : Nat → Prop} {R : List Int} {c : Cells} {P T : List (List Int)} {F A D E Pa Ta : Option Addr} {cr k1 k2 k3 kp kt : Nat} (h : GRP w K R c P T F A D E Pa Ta cr k1 k2 k3 kp kt) : Rd w c A k1 D k2 E k3 := ⟨h.v.rds, h.n.rds, h.m.rds, h.lv, h.ln, h.lm⟩
theorem GRP.q {w W : World} {K : Nat → Prop} {R : List Int} {c : Cells} {P T : List (List Int)} {F A D E Pa Ta : Option Addr} {cr k1 k2 k3 kp kt : Nat} (h : GRP w K R c P T F A D E Pa Ta cr k1 k2 k3 kp kt) (q : Q w W) : GRP W K R c P T F A D E Pa Ta cr k1 k2 k3 kp kt := h.to (agree_q q) (fun _ h _ => h)
/-- its value -/
def gvP (R : List Int) (c : Cells) (P T : List (List Int)) (F A D E Pa Ta : Option Addr) (cr k1 k2 k3 kp kt : Nat) : Value := .agg #[.slice F R.length cr, .slice A c.V.length k1, .slice D c.N.length k2, .slice E c.M.length k3, .slice Pa P.length kp, .slice Ta T.length kt]
/-- a call's answer: a graph in memory of the call's own -/
def GAns (R : List Int) (c : Cells) (P T : List (List Int)) (w : World) (e : Ending) (w' : World) : Prop :=
  ∃ F A D E Pa Ta cr k1 k2 k3 kp kt, e = .returned (gvP R c P T F A D E Pa Ta cr k1 k2 k3 kp kt) ∧ GRP w' (fun b => w.heap.size ≤ b) R c P T F A D E Pa Ta cr k1 k2 k3 kp kt ∧ Q w w'
theorem gans {w w' : World} {R : List Int} {c : Cells} {P T : List (List Int)} {F A D E Pa Ta : Option Addr} {cr k1 k2 k3 kp kt : Nat} (h : GRP w' (fun b => w.heap.size ≤ b) R c P T F A D E Pa Ta cr k1 k2 k3 kp kt) (q : Q w w') : GAns R c P T w (.returned (gvP R c P T F A D E Pa Ta cr k1 k2 k3 kp kt)) w' := ⟨F, A, D, E, Pa, Ta, cr, k1, k2, k3, kp, kt, rfl, h, q⟩
theorem GOut.grp {w w' : World} {R : List Int} {c : Cells} {P T : List (List Int)} {g0 g1 g2 g3 gp ep gs es : Nat} (h : GOut w w' R c P T g0 g1 g2 g3 gp ep gs es) {K : Nat → Prop} (hK : ∀ b, g0 ≤ b → b < w'.heap.size → K b) : GRP w' K R c P T (some ⟨g0, 0, none⟩) (some ⟨g1, 0, none⟩) (some ⟨g2, 0, none⟩) (some ⟨g3, 0, none⟩) (some ⟨gp, 0, none⟩) (some ⟨gs, 0, none⟩) R.length c.V.length c.N.length c.M.length P.length T.length := by
  obtain ⟨r, v, n, m, p, t, o0, o1, o2, o3, o4, o5, q⟩ := h
  have := p.le
  have := t.le
  have := p.lt
  have := t.lt
  exact ⟨.of_own r (hK _ (by omega) r.1), .of_own v (hK _ (by omega) v.1), .of_own n (hK _ (by omega) n.1), .of_own m (hK _ (by omega) m.1), p.p (fun b h1 h2 => hK b (by omega) (by omega)), t.p (fun b h1 h2 => hK b (by omega) (by omega)), Nat.le_refl _, Nat.le_refl _, Nat.le_refl _, Nat.le_refl _, Nat.le_refl _, Nat.le_refl _⟩
end Go.Proofs.YtjmopbimleoidaaGreat.Ig

namespace Go.Proofs.YtjmopbimleoidaaGreat.Ig
open Go.RowKit Kit Tr Uf
open Go.Proofs.YtjmopbimleoidaaGreat.Hs (Keys Ints)
theorem rds_ints12 {w : World} {B : Nat} {A : Option Addr} {xs : List Int} (h : Tr.Rds w B A (Tr.cellsI xs)) : Ints w B A xs := fun h0 => by
  obtain ⟨ad, e, hb, hc⟩ := h (by rw [Tr.cellsI_len]; exact h0)
  refine ⟨ad, e, hb, fun i x hx => ?_⟩
  obtain ⟨hi, rfl⟩ := List.getElem?_eq_some_iff.1 hx
  exact hc i _ (Tr.cellsI_at hi)

set_option maxRecDepth 100000 in
set_option maxHeartbeats 4000000 in
theorem refSame12_any (R : List Int) (c : Cells) (P T : List (List Int)) (F A D E Pa Ta F' A' D' E' Pa' Ta' : Option Addr) (nr cr n1 k1 n2 k2 n3 k3 np kp nt kt nr' cr' n1' k1' n2' k2' n3' k3' np' kp' nt' kt' : Nat) (w : World)
    (hr : nr = R.length) (h1 : n1 = c.V.length) (h2 : n2 = c.N.length) (h3 : n3 = c.M.length) (hp : np = P.length) (ht : nt = T.length)
    (hr' : nr' = R.length) (h1' : n1' = c.V.length) (h2' : n2' = c.N.length) (h3' : n3' = c.M.length) (hp' : np' = P.length) (ht' : nt' = T.length)
    (hR : Tr.Rds w w.heap.size F (cellsI R)) (h : Rd w c A k1 D k2 E k3) (hP : Keys w w.heap.size Pa P) (hT : Keys w w.heap.size Ta T)
    (hR' : Tr.Rds w w.heap.size F' (cellsI R)) (h' : Rd w c A' k1' D' k2' E' k3') (hP' : Keys w w.heap.size Pa' P) (hT' : Keys w w.heap.size Ta' T)
    (lR : R.length ≤ maxLen) (hf : Few c 1000000) (lP : P.length ≤ maxLen) (lT : T.length ≤ maxLen) (sP : ∀ k ∈ P, k.length ≤ maxLen) (sT : ∀ k ∈ T, k.length ≤ maxLen) :
    Calls Tryz.prog 12 #[.agg #[.slice F nr cr, .slice A n1 k1, .slice D n2 k2, .slice E n3 k3, .slice Pa np kp, .slice Ta nt kt], .agg #[.slice F' nr' cr', .slice A' n1' k1', .slice D' n2' k2', .slice E' n3' k3', .slice Pa' np' kp', .slice Ta' nt' kt']] w fun e w' => e = .returned (.bool true) ∧ Q w w' := by
  subst hr h1 h2 h3 hp ht hr' h1' h2' h3' hp' ht'
  have HQ0 := Lib.hid (((Q.refl w).alloc (Obj.cells #[.slice F R.length cr, .slice A c.V.length k1, .slice D c.N.length k2, .slice E c.M.length k3, .slice Pa P.length kp, .slice Ta T.length kt] 31)).alloc (Obj.cells #[.slice F' R.length cr', .slice A' c.V.length k1', .slice D' c.N.length k2', .slice E' c.M.length k3', .slice Pa' P.length kp', .slice Ta' T.length kt'] 31))
  have HB := Lib.hid ((Box6.new w (.slice F R.length cr) (.slice A c.V.length k1) (.slice D c.N.length k2) (.slice E c.M.length k3) (.slice Pa P.length kp) (.slice Ta T.length kt) 31).q ((Q.refl _).alloc (Obj.cells #[.slice F' R.length cr', .slice A' c.V.length k1', .slice D' c.N.length k2', .slice E' c.M.length k3', .slice Pa' P.length kp', .slice Ta' T.length kt'] 31)))
  have X := Box6.new (w.alloc (Obj.cells #[.slice F R.length cr, .slice A c.V.length k1, .slice D c.N.length k2, .slice E c.M.length k3, .slice Pa P.length kp, .slice Ta T.length kt] 31)) (.slice F' R.length cr') (.slice A' c.V.length k1') (.slice D' c.N.length k2') (.slice E' c.M.length k3') (.slice Pa' P.length kp') (.slice Ta' T.length kt') 31
  rw [World.size_alloc] at X
  have HB' := Lib.hid X
  clear X
  have C1 : Hid (∀ U, Q w U → Calls Tryz.prog 49 #[.agg #[.slice A c.V.length k1, .slice D c.N.length k2, .slice E c.M.length k3], .agg #[.slice A' c.V.length k1', .slice D' c.N.length k2', .slice E' c.M.length k3']] U fun e w' => e = .returned (.bool true) ∧ Q U w') := fun U p => Tr.same_any c A D E A' D' E' _ k1 _ k2 _ k3 _ k1' _ k2' _ k3' U rfl rfl rfl rfl rfl rfl (h.q p) (h'.q p) hf
  have C2 : Hid (∀ U, Q w U → Calls Tryz.prog 16 #[.slice F R.length cr, .slice F' R.length cr'] U fun e w' => e = .returned (.bool true) ∧ Q U w') := fun U p => by
    refine (Hs.refInts_any F F' _ cr _ cr' R R U rfl rfl (rds_ints12 (hR.q p)) (rds_ints12 (hR'.q p)) lR).mono ?_
    rintro e w' ⟨rfl, d, rfl⟩
    exact ⟨by rw [(Hs.eqL_iff R R).2 rfl], (Q.refl _).drewN d⟩
  have C3 : Hid (∀ U, Q w U → Calls Tryz.prog 50 #[.slice Pa P.length kp, .slice Pa' P.length kp'] U fun e w' => e = .returned (.bool true) ∧ Q U w') := fun U p => by
    refine (Hs.refRows_any Pa Pa' _ kp _ kp' P P U rfl rfl ((hP.q (Nat.le_refl _) p).more p.size) ((hP'.q (Nat.le_refl _) p).more p.size) lP sP).mono ?_
    rintro e w' ⟨rfl, d, rfl⟩
    exact ⟨by rw [(Hs.rowsB_iff P P).2 rfl], (Q.refl _).drewN d⟩
  have C4 : Hid (∀ U, Q w U → Calls Tryz.prog 50 #[.slice Ta T.length kt, .slice Ta' T.length kt'] U fun e w' => e = .returned (.bool true) ∧ Q U w') := fun U p => by
    refine (Hs.refRows_any Ta Ta' _ kt _ kt' T T U rfl rfl ((hT.q (Nat.le_refl _) p).more p.size) ((hT'.q (Nat.le_refl _) p).more p.size) lT sT).mono ?_
    rintro e w' ⟨rfl, d, rfl⟩
    exact ⟨by rw [(Hs.rowsB_iff T T).2 rfl], (Q.refl _).drewN d⟩
  clear hR h hP hT hR' h' hP' hT' lR hf lP lT sP sT
  go_enter Tryz.func12, Tryz.ntmps12
  go_upto_region 1 with fail
  generalize (w.alloc (Obj.cells #[.slice F R.length cr, .slice A c.V.length k1, .slice D c.N.length k2, .slice E c.M.length k3, .slice Pa P.length kp, .slice Ta T.length kt] 31)).alloc (Obj.cells #[.slice F' R.length cr', .slice A' c.V.length k1', .slice D' c.N.length k2', .slice E' c.M.length k3', .slice Pa' P.length kp', .slice Ta' T.length kt'] 31) = W0 at *
  have ALL : Hid (∀ U, Q W0 U → (U.cell? ⟨w.heap.size, 0, none⟩ = some (.slice F R.length cr) ∧ U.cell? ⟨w.heap.size, 1, none⟩ = some (.slice A c.V.length k1) ∧ U.cell? ⟨w.heap.size, 2, none⟩ = some (.slice D c.N.length k2) ∧ U.cell? ⟨w.heap.size, 3, none⟩ = some (.slice E c.M.length k3) ∧ U.cell? ⟨w.heap.size, 4, none⟩ = some (.slice Pa P.length kp) ∧ U.cell? ⟨w.heap.size, 5, none⟩ = some (.slice Ta T.length kt)) ∧ (U.cell? ⟨w.heap.size + 1, 0, none⟩ = some (.slice F' R.length cr') ∧ U.cell? ⟨w.heap.size + 1, 1, none⟩ = some (.slice A' c.V.length k1') ∧ U.cell? ⟨w.heap.size + 1, 2, none⟩ = some (.slice D' c.N.length k2') ∧ U.cell? ⟨w.heap.size + 1, 3, none⟩ = some (.slice E' c.M.length k3') ∧ U.cell? ⟨w.heap.size + 1, 4, none⟩ = some (.slice Pa' P.length kp') ∧ U.cell? ⟨w.heap.size + 1, 5, none⟩ = some (.slice Ta' T.length kt'))) := fun U q => by
    have a := HB.out.q q
    have b := HB'.out.q q
    exact ⟨⟨a.c0, a.c1, a.c2, a.c3, a.c4, a.c5⟩, ⟨b.c0, b.c1, b.c2, b.c3, b.c4, b.c5⟩⟩
  obtain ⟨⟨s0, s1, s2, s3, s4, s5⟩, ⟨t0, t1, t2, t3, t4, t5⟩⟩ := ALL.out W0 (Q.refl _)
  have HQ1 : Hid (Q W0 W0) := Lib.hid (Q.refl _)
  go_wp2_with (first
    | (go_at_call 49; (with_reducible refine (C1.out W0 HQ0.out).mono ?_); rintro e w2 ⟨rfl, q1⟩; have HQ2 := Lib.hid (HQ1.out.trans q1); clear s0 s1 s2 s3 s4 s5 t0 t1 t2 t3 t4 t5 q1; obtain ⟨⟨s0, s1, s2, s3, s4, s5⟩, ⟨t0, t1, t2, t3, t4, t5⟩⟩ := ALL.out w2 HQ2.out)
    | (go_at_call 16; (with_reducible refine (C2.out w2 (HQ0.out.trans HQ2.out)).mono ?_); rintro e w3 ⟨rfl, q2⟩; have HQ3 := Lib.hid (HQ2.out.trans q2); clear s0 s1 s2 s3 s4 s5 t0 t1 t2 t3 t4 t5 q2; obtain ⟨⟨s0, s1, s2, s3, s4, s5⟩, ⟨t0, t1, t2, t3, t4, t5⟩⟩ := ALL.out w3 HQ3.out)
    | (go_at_call 50; (with_reducible refine (C3.out w3 (HQ0.out.trans HQ3.out)).mono ?_); rintro e w4 ⟨rfl, q3⟩; have HQ4 := Lib.hid (HQ3.out.trans q3); clear s0 s1 s2 s3 s4 s5 t0 t1 t2 t3 t4 t5 q3; obtain ⟨⟨s0, s1, s2, s3, s4, s5⟩, ⟨t0, t1, t2, t3, t4, t5⟩⟩ := ALL.out w4 HQ4.out)
    | (go_at_call 50; (with_reducible refine (C4.out w4 (HQ0.out.trans HQ4.out)).mono ?_); rintro e w5 ⟨rfl, q4⟩; have HQ5 := Lib.hid (HQ4.out.trans q4); clear s0 s1 s2 s3 s4 s5 t0 t1 t2 t3 t4 t5 q4)
    | fail)
  go_ret
  exact ⟨rfl, HQ0.out.trans HQ5.out⟩
end Go.Proofs.YtjmopbimleoidaaGreat.Ig

namespace Go.Proofs.YtjmopbimleoidaaGreat.Ig
open Go.RowKit Kit Tr Uf
open Go.Proofs.YtjmopbimleoidaaGreat.Hs (Keys Ints)
end Go.Proofs.YtjmopbimleoidaaGreat.Ig

namespace Go.Proofs.YtjmopbimleoidaaGreat.Kit

section
variable {P : Program} {ops : Array Oper} {Q : Exit → Act → World → Prop} {S : World → Prop}
end
end Go.Proofs.YtjmopbimleoidaaGreat.Kit

namespace Go.Proofs.YtjmopbimleoidaaGreat.Kit

section
variable {P : Program} {md : Region.Mode} {ops : Array Oper} {Q : Exit → Act → World → Prop} {S : World → Prop} {z : Nat}
def wpAnyT (P : Program) (md : Region.Mode) (ops : Array Oper) (Q : Exit → Act → World → Prop) (S : World → Prop) (z : Nat) : Nat → Array Bool → Act → World → Prop
  | 0, listed, a, w => Region.ready md ops listed = [] ∧ Q .normal a w
  | fuel + 1, listed, a, w =>
    (Region.ready md ops listed = [] → Q .normal a w) ∧
    ∀ i ∈ Region.ready md ops listed, wpOp P ops Q i (fun a' w' => ((listed.setIfInBounds i true).getD z true = false → S w') ∧ wpAnyT P md ops Q S z fuel (listed.setIfInBounds i true) a' w') a w
theorem wpAny_of_till : ∀ (fuel : Nat) (listed : Array Bool) (a : Act) (w : World), wpAnyT P md ops Q S z fuel listed a w → wpAny P md ops Q fuel listed a w
  | 0, _, _, _, h => h
  | fuel + 1, _, _, _, h => ⟨h.1, fun i hi => wpOp_mono (fun a' w' h' => wpAny_of_till fuel _ a' w' h'.2) (h.2 i hi)⟩
theorem getD_set_ne9 {xs : Array Bool} {i k : Nat} (h : i ≠ k) : (xs.setIfInBounds i true).getD k true = xs.getD k true := by
  simp only [Array.getD_eq_getD_getElem?]
  rw [Array.getElem?_setIfInBounds_ne h]
theorem wpAnyT_first {i : Nat} {oi oz : Oper} {v : Value} (hi : ops[i]? = some oi) (hsel : ∀ (j : Nat) (o : Oper) cs b, ops[j]? = some o → o.op ≠ .select cs b)
    (hQ : ∀ c a w, Q (.panic c) (a.put oi.dst v) w → Q (.panic c) a w) (hoz : ops[z]? = some oz) (hzi : ∃ e ∈ oz.after, Region.binds md e = true ∧ e.on = i) (hne : z ≠ i) :
    ∀ (fuel : Nat) (listed : Array Bool) (a : Act) (w : World),
      (∀ j oj, ops[j]? = some oj → j ≠ i → listed.getD j true = false → (∀ e ∈ oj.after, Region.binds md e = true → e.on ≠ i) → oi.apart ops oj = true) →
      i ∈ Region.ready md ops listed → listed.getD z true = false → YieldsIf P ops S oi v a → S w →
      wpAnyT P md ops Q S z fuel (listed.setIfInBounds i true) (a.put oi.dst v) w → wpAnyT P md ops Q S z (fuel + 1) listed a w := by
  intro fuel
  induction fuel with
  | zero =>
    intro listed a w _ hr _ hy hS H
    refine ⟨fun h => (by rw [h] at hr; cases hr), fun j hj => ?_⟩
    by_cases hji : j = i
    · subst hji; exact hy.wpOp hi hS ⟨fun _ => hS, H⟩
    · have := ready_mono hj hji
      rw [H.1] at this
      cases this
  | succ fuel ih =>
    intro listed a w hfree hr hz hy hS H
    refine ⟨fun h => (by rw [h] at hr; cases hr), fun j hj => ?_⟩
    by_cases hji : j = i
    · subst hji; exact hy.wpOp hi hS ⟨fun _ => hS, H⟩
    · have h1 := H.2 j (ready_mono hj hji)
      obtain ⟨hjun, oj, hoj, hall⟩ := mem_ready.1 hj
      have hnot : ∀ e ∈ oj.after, Region.binds md e = true → e.on ≠ i := fun e he hb heq => by
        have h1 := hall e he hb
        have h0 := (mem_ready.1 hr).1
        rw [heq] at h1
        rcases Nat.lt_or_ge i listed.size with h' | h'
        · simp [h'] at h0 h1; rw [h0] at h1; cases h1
        · simp [Array.getElem?_eq_none h'] at h1
      have hjz : j ≠ z := fun e => by
        subst e
        rw [hoz] at hoj
        injection hoj with hoj
        subst hoj
        obtain ⟨e, he, hb, ho⟩ := hzi
        exact hnot e he hb ho
      have hz2 : (listed.setIfInBounds j true).getD z true = false := by rw [getD_set_ne9 hjz]; exact hz
      have hz3 : ((listed.setIfInBounds i true).setIfInBounds j true).getD z true = false := by rw [getD_set_ne9 hjz, getD_set_ne9 (fun e => hne e.symm)]; exact hz
      have h2 := wpOp_putIf hoj (hfree j oj hoj hji hjun hnot) (fun cs b => hsel i oi cs b hi) (fun cs b => hsel j oj cs b hoj) hQ hy h1
      have hfree' : ∀ k ok, ops[k]? = some ok → k ≠ i → (listed.setIfInBounds j true).getD k true = false →
          (∀ e ∈ ok.after, Region.binds md e = true → e.on ≠ i) → oi.apart ops ok = true := fun k ok hk hki hun hno => by
        refine hfree k ok hk hki ?_ hno
        by_cases hjk : j = k
        · subst hjk; exact hjun
        · rw [getD_set_ne9 hjk] at hun; exact hun
      refine wpOp_mono (fun a' w' h3 => ⟨fun _ => h3.2.1 hz3, ih (listed.setIfInBounds j true) a' w' hfree' (ready_mono hr (Ne.symm hji)) hz2 h3.1 (h3.2.1 hz3) ?_⟩) h2
      rw [Array.setIfInBounds_comm _ _ hji]
      exact h3.2.2
/-- an operation that yields its value in whatever world may be taken first at any time -/
theorem wpAnyT_firstY {i : Nat} {oi : Oper} {v : Value} (hi : ops[i]? = some oi) (hsel : ∀ (j : Nat) (o : Oper) cs b, ops[j]? = some o → o.op ≠ .select cs b)
    (hQ : ∀ c a w, Q (.panic c) (a.put oi.dst v) w → Q (.panic c) a w) (hne : z ≠ i) :
    ∀ (fuel : Nat) (listed : Array Bool) (a : Act) (w : World),
      (∀ j oj, ops[j]? = some oj → j ≠ i → listed.getD j true = false → (∀ e ∈ oj.after, Region.binds md e = true → e.on ≠ i) → oi.apart ops oj = true) →
      i ∈ Region.ready md ops listed → YieldsIf P ops (fun _ => True) oi v a → (listed.getD z true = false → S w) →
      wpAnyT P md ops Q S z fuel (listed.setIfInBounds i true) (a.put oi.dst v) w → wpAnyT P md ops Q S z (fuel + 1) listed a w := by
  intro fuel
  induction fuel with
  | zero =>
    intro listed a w _ hr hy hS H
    refine ⟨fun h => (by rw [h] at hr; cases hr), fun j hj => ?_⟩
    by_cases hji : j = i
    · subst hji; exact hy.wpOp hi trivial ⟨fun h => hS (by rw [getD_set_ne9 (fun e => hne e.symm)] at h; exact h), H⟩
    · have := ready_mono hj hji
      rw [H.1] at this
      cases this
  | succ fuel ih =>
    intro listed a w hfree hr hy hS H
    refine ⟨fun h => (by rw [h] at hr; cases hr), fun j hj => ?_⟩
    by_cases hji : j = i
    · subst hji; exact hy.wpOp hi trivial ⟨fun h => hS (by rw [getD_set_ne9 (fun e => hne e.symm)] at h; exact h), H⟩
    · have h1 := H.2 j (ready_mono hj hji)
      obtain ⟨hjun, oj, hoj, hall⟩ := mem_ready.1 hj
      have hnot : ∀ e ∈ oj.after, Region.binds md e = true → e.on ≠ i := fun e he hb heq => by
        have h1 := hall e he hb
        have h0 := (mem_ready.1 hr).1
        rw [heq] at h1
        rcases Nat.lt_or_ge i listed.size with h' | h'
        · simp [h'] at h0 h1; rw [h0] at h1; cases h1
        · simp [Array.getElem?_eq_none h'] at h1
      have h2 := wpOp_putIf hoj (hfree j oj hoj hji hjun hnot) (fun cs b => hsel i oi cs b hi) (fun cs b => hsel j oj cs b hoj) hQ hy h1
      have hfree' : ∀ k ok, ops[k]? = some ok → k ≠ i → (listed.setIfInBounds j true).getD k true = false →
          (∀ e ∈ ok.after, Region.binds md e = true → e.on ≠ i) → oi.apart ops ok = true := fun k ok hk hki hun hno => by
        refine hfree k ok hk hki ?_ hno
        by_cases hjk : j = k
        · subst hjk; exact hjun
        · rw [getD_set_ne9 hjk] at hun; exact hun
      refine wpOp_mono (fun a' w' h3 => ?_) h2
      have hS' : (listed.setIfInBounds j true).getD z true = false → S w' := fun h => h3.2.1 (by
        rw [Array.setIfInBounds_comm _ _ (Ne.symm hji), getD_set_ne9 (fun e => hne e.symm)]; exact h)
      refine ⟨hS', ih (listed.setIfInBounds j true) a' w' hfree' (ready_mono hr (Ne.symm hji)) h3.1 hS' ?_⟩
      rw [Array.setIfInBounds_comm _ _ hji]
      exact h3.2.2
/-- does z wait for i? -/
def waitsB (md : Region.Mode) (ops : Array Oper) (z i : Nat) : Bool := match ops[z]? with
  | some o => o.after.any fun e => Region.binds md e && (e.on == i)
  | none => false
theorem waits_spec {i : Nat} (h : waitsB md ops z i = true) : ∃ oz, ops[z]? = some oz ∧ ∃ e ∈ oz.after, Region.binds md e = true ∧ e.on = i := by
  unfold waitsB at h
  split at h
  · rename_i o ho
    rw [Array.any_eq_true] at h
    obtain ⟨k, hk, h⟩ := h
    rw [Bool.and_eq_true, beq_iff_eq] at h
    exact ⟨o, ho, _, Array.getElem_mem hk, h⟩
  · cases h
end
section
variable {P : Program} {ops : Array Oper} {Q : Exit → Act → World → Prop} {S : World → Prop} {z : Nat}
theorem take_t {i : Nat} {oi : Oper} {d : Option Tmp} {v : Value} {fuel : Nat} {listed : Array Bool} {a : Act} {w : World} (hi : ops[i]? = some oi)
    (hs : Region.noSelect ops = true) (hf : Region.free .any ops listed i = true) (hr : (Region.ready .any ops listed).contains i = true) (hz : (waitsB .any ops z i && !(z == i) && !listed.getD z true) = true)
    (hQ : ∀ c a w, Q (.panic c) (a.put d v) w → Q (.panic c) a w) (hd : oi.dst = d) (hw : Region.wanted oi (yielded ops a.tmps) = true) (hy : ∀ w, S w → (execOp a.eval oi).run P w = .ok (.value v) w) (hS : S w)
    (h : wpAnyT P .any ops Q S z fuel (listed.setIfInBounds i true) (a.put d v) w) : wpAnyT P .any ops Q S z (fuel + 1) listed a w := by
  subst hd
  rw [Bool.and_eq_true, Bool.and_eq_true] at hz
  obtain ⟨⟨h1, h2⟩, h3⟩ := hz
  obtain ⟨oz, hoz, hzi⟩ := waits_spec h1
  exact wpAnyT_first hi (Region.noSelect_spec hs) hQ hoz hzi (by simpa using h2) fuel listed a w (Region.free_spec hi hf) (by simpa using hr) (by simpa using h3) (.inl ⟨hw, hy⟩) hS h
theorem take_y {i : Nat} {oi : Oper} {d : Option Tmp} {v : Value} {fuel : Nat} {listed : Array Bool} {a : Act} {w : World} (hi : ops[i]? = some oi)
    (hs : Region.noSelect ops = true) (hf : Region.free .any ops listed i = true) (hr : (Region.ready .any ops listed).contains i = true) (hz : (z == i) = false)
    (hQ : ∀ c a w, Q (.panic c) (a.put d v) w → Q (.panic c) a w) (hd : oi.dst = d) (hw : Region.wanted oi (yielded ops a.tmps) = true) (hy : ∀ w, (execOp a.eval oi).run P w = .ok (.value v) w) (hS : S w)
    (h : wpAnyT P .any ops Q S z fuel (listed.setIfInBounds i true) (a.put d v) w) : wpAnyT P .any ops Q S z (fuel + 1) listed a w := by
  subst hd
  exact wpAnyT_firstY hi (Region.noSelect_spec hs) hQ (by simpa using hz) fuel listed a w (Region.free_spec hi hf) (by simpa using hr) (.inl ⟨hw, fun w _ => hy w⟩) (fun _ => hS) h
theorem call_t {i : Nat} {o : Oper} {fuel : Nat} {listed : Array Bool} {a : Act} {w : World} (ho : ops[i]? = some o) (hr : Region.ready .any ops listed = [i])
    (hw : Region.wanted o (yielded ops a.tmps) = true)
    (h : ∀ K' : Act → World → Prop, Shut (∀ a w, ((listed.setIfInBounds i true).getD z true = false → S w) → wpAnyT P .any ops Q S z fuel (listed.setIfInBounds i true) a w → K' a w) → Oper.wp P o a w K' Q) :
    wpAnyT P .any ops Q S z (fuel + 1) listed a w := by
  refine ⟨fun h0 => (by rw [hr] at h0; cases h0), fun j hj => ?_⟩
  rw [hr] at hj
  obtain rfl : j = i := by simpa using hj
  exact wpOp_step ho (fun K' hK => by rw [if_pos hw]; exact h K' fun a w h1 h2 => hK a w ⟨h1, h2⟩)
theorem done_t {listed : Array Bool} {a : Act} {w : World} (hr : Region.ready .any ops listed = []) (h : Q .normal a w) :
    ∀ fuel, wpAnyT P .any ops Q S z fuel listed a w
  | 0 => ⟨hr, h⟩
  | _ + 1 => ⟨fun _ => h, by rw [hr]; simp⟩
theorem begin_t {id : Nat} {a : Act} {w : World} (hm : P.follows .mixedOrders = true) (hS : S w.drew)
    (h : S w.drew → wpAnyT P .any ops Q S z ops.size (Array.replicate ops.size false) a w.drew) : (Code.region id ops true).wp P Q a w :=
  wp_region_any hm (wpAny_of_till _ _ _ _ (h hS))
end
end Go.Proofs.YtjmopbimleoidaaGreat.Kit

namespace Go.Proofs.YtjmopbimleoidaaGreat.Kit
section
variable {P : Program} {ops : Array Oper} {Q : Exit → Act → World → Prop} {S : World → Prop} {z : Nat}
theorem both_t {i j : Nat} {oi oj : Oper} {fuel : Nat} {listed : Array Bool} {a : Act} {w : World} (hi : ops[i]? = some oi) (hj : ops[j]? = some oj) (hr : Region.ready .any ops listed = [i, j])
    (hwi : Region.wanted oi (yielded ops a.tmps) = true) (hwj : Region.wanted oj (yielded ops a.tmps) = true)
    (h1 : ∀ K' : Act → World → Prop, Shut (∀ a w, ((listed.setIfInBounds i true).getD z true = false → S w) → wpAnyT P .any ops Q S z fuel (listed.setIfInBounds i true) a w → K' a w) → Oper.wp P oi a w K' Q)
    (h2 : ∀ K' : Act → World → Prop, Shut (∀ a w, ((listed.setIfInBounds j true).getD z true = false → S w) → wpAnyT P .any ops Q S z fuel (listed.setIfInBounds j true) a w → K' a w) → Oper.wp P oj a w K' Q) :
    wpAnyT P .any ops Q S z (fuel + 1) listed a w := by
  refine ⟨fun h0 => (by rw [hr] at h0; cases h0), fun k hk => ?_⟩
  rw [hr] at hk
  have hk' : k = i ∨ k = j := by simpa using hk
  rcases hk' with rfl | rfl
  · exact wpOp_step hi (fun K' hK => by rw [if_pos hwi]; exact h1 K' fun a w h1 h2 => hK a w ⟨h1, h2⟩)
  · exact wpOp_step hj (fun K' hK => by rw [if_pos hwj]; exact h2 K' fun a w h1 h2 => hK a w ⟨h1, h2⟩)
end
end Go.Proofs.YtjmopbimleoidaaGreat.Kit

namespace Go.Proofs.YtjmopbimleoidaaGreat.Ig
open Go.RowKit Kit Tr Uf

/-- cells that can be read, in blocks of a kind -/
structure CR (w : World) (K : Nat → Prop) (c : Cells) (A : Option Addr) (k1 : Nat) (D : Option Addr) (k2 : Nat) (E : Option Addr) (k3 : Nat) : Prop where
  v : RdsP w K A (cellsI c.V)
  n : RdsP w K D (cellsP c.N)
  m : RdsP w K E (cellsI c.M)
  lv : c.V.length ≤ k1
  ln : c.N.length ≤ k2
  lm : c.M.length ≤ k3
theorem CR.rd {w : World} {K : Nat → Prop} {c : Cells} {A D E : Option Addr} {k1 k2 k3 : Nat} (h : CR w K c A k1 D k2 E k3) : Rd w c A k1 D k2 E k3 := ⟨h.v.rds, h.n.rds, h.m.rds, h.lv, h.ln, h.lm⟩
theorem CR.to {w W : World} {K K' : Nat → Prop} {c : Cells} {A D E : Option Addr} {k1 k2 k3 : Nat} (h : CR w K c A k1 D k2 E k3) (ha : w.heap.size ≤ W.heap.size ∧ ∀ p : Addr, K p.block → p.block < w.heap.size → W.cell? p = w.cell? p) (hK : ∀ b, K b → b < w.heap.size → K' b) : CR W K' c A k1 D k2 E k3 :=
  ⟨h.v.toP ha.1 ha.2 hK, h.n.toP ha.1 ha.2 hK, h.m.toP ha.1 ha.2 hK, h.lv, h.ln, h.lm⟩
theorem CR.q {w W : World} {K : Nat → Prop} {c : Cells} {A D E : Option Addr} {k1 k2 k3 : Nat} (h : CR w K c A k1 D k2 E k3) (q : Q w W) : CR W K c A k1 D k2 E k3 := h.to (agree_q q) (fun _ h _ => h)
/-- cells that can be read, and no error: in the call's own memory, or where they were -/
def SetPost (K : Nat → Prop) (c : Cells) (w : World) (e : Ending) (w' : World) : Prop :=
  ∃ A k1 D k2 E k3, e = .returned (.tuple #[.agg #[.slice A c.V.length k1, .slice D c.N.length k2, .slice E c.M.length k3], .int .i64 0]) ∧ CR w' (fun b => K b ∨ w.heap.size ≤ b) c A k1 D k2 E k3 ∧ Q w w'
theorem far_block {W W' : World} {g : Nat} {o : Obj} {row : Option Nat} (hg : W.grownBy W' row) (h : W.heap[g]? = some o) (hne : some g ≠ row) : W'.heap[g]? = some o :=
  (hg.block g (Array.getElem?_eq_some_iff.1 h).1 hne).trans h
theorem own_read3 {w : World} {base : Nat} {v : Value} {n : Nat} {cs : List Value} (h : w.ownsRow base 113 2 v n cs) : ∃ A c n', n' = n ∧ v = .slice A n' c ∧ n' ≤ c := by
  obtain ⟨hl, ⟨rfl, h0⟩ | ⟨g, cap, cur, rfl, hg, hh, hc, _⟩⟩ := h
  · exact ⟨none, 0, 0, h0.symm, rfl, Nat.le_refl _⟩
  · exact ⟨_, cap, n, rfl, rfl, hc⟩
theorem fin_set {K : Nat → Prop} {c : Cells} {i : Nat} {x : Int} {E : Option Addr} {k3 g cap n5 c5 B m0 : Nat} {A5 : Option Addr} {cs : List Value} {w w5 : World} (y1 y2 y3 : Value) (hi : i < c.V.length) (hg : OwnC w5 g (cellsI (c.V.set i x))) (hcap : c.V.length ≤ cap) (own : w5.ownsRow m0 113 2 (.slice A5 n5 c5) n5 cs) (hn5 : n5 = c.N.length + 1) (hc5 : n5 ≤ c5) (hcs : cs = cellsP (c.N ++ [((i : Int), c.V[i])])) (hm : B < m0) (hgB : g ≠ B) (hgw : w.heap.size ≤ g) (hE : RdsP w K E (cellsI c.M)) (hk3 : c.M.length ≤ k3) (hQ : Q w w5) (hB : w.heap.size ≤ B) :
    CR (((w5.setCell ⟨B, 0, none⟩ y1).setCell ⟨B, 1, none⟩ y2).setCell ⟨B, 2, none⟩ y3) (fun b => K b ∨ w.heap.size ≤ b) (setC c i x) (some ⟨g, 0, none⟩) cap A5 c5 E k3 ∧ Q w (((w5.setCell ⟨B, 0, none⟩ y1).setCell ⟨B, 1, none⟩ y2).setCell ⟨B, 2, none⟩ y3) := by
  have gr := set3_grown w5 B y1 y2 y3
  have q := grown_q gr hQ hB
  have hown := own.kept gr (.inr (fun e => by have := (own.lt _ e).1; omega))
  obtain ⟨A6, c6, e6, _, ho⟩ := own_o hown
  injection e6 with e1 e2 e3
  subst e1 e3
  refine ⟨⟨RdsP.of_own (hg.grown gr (fun e => by injection e with e; omega)) (.inr hgw), ?_, hE.toP (agree_q (P := K) q).1 (agree_q q).2 (fun b hb _ => .inl hb), by simpa [setC] using hcap, by simp [setC]; omega, hk3⟩, q⟩
  have hr : RdsP _ (fun b => K b ∨ w.heap.size ≤ b) A5 cs := RdsP.of_owno ho (fun b hb => .inr (by omega))
  rw [hcs] at hr
  simpa [setC, List.getD_eq_getElem?_getD, hi] using hr

set_option maxRecDepth 100000 in
set_option maxHeartbeats 4000000 in
theorem refSet4_any (K : Nat → Prop) (c : Cells) (i : Nat) (x : Int) (A D E : Option Addr) (k1 k2 k3 : Nat) (w : World) (hi : i < c.V.length) (hc : CR w K c A k1 D k2 E k3) (hf : Few c 1000000) :
    Calls Tryz.prog 91 #[.agg #[.slice A c.V.length k1, .slice D c.N.length k2, .slice E c.M.length k3], .int .i64 (i : Int), .int .i64 x] w (SetPost K (setC c i x) w) := by
  have h := hc.rd
  obtain ⟨W0, hW0, q0, hz0, hB, hX⟩ := boxes w (Value.slice A c.V.length k1) (Value.slice D c.N.length k2) (Value.slice E c.M.length k3) 29
  have HB := Lib.hid hB
  have HX := Lib.hid hX
  have HR := Lib.hid (h.q q0)
  have HZ := Lib.hid hz0
  have HW := Lib.hid hW0
  have HFw := Lib.hid hf
  have HQ0 := Lib.hid q0
  have Hil := Lib.hid hi
  have HE := Lib.hid hc.m
  have Hk3 := Lib.hid h.lm
  clear hc
  have j0 : decide ((i : Int) < 0) = false := decide_eq_false (by omega)
  have j1 : decide ((c.V.length : Int) ≤ (i : Int)) = false := decide_eq_false (by omega)
  have j2 : decide (c.V.length ≤ i) = false := decide_eq_false (by omega)
  obtain ⟨i0, hi0, hz0', hz1, hz2⟩ := info_parts intInfo
  have Hi := Lib.hid hi0
  have Hz0 := Lib.hid hz0'
  have Hz1 := Lib.hid hz1
  have Hz2 := Lib.hid hz2
  obtain ⟨i0', hi0', hz0'', hz1', hz2'⟩ := info_parts noteInfo
  have Hi' := Lib.hid hi0'
  have Hz0' := Lib.hid hz0''
  have Hz1' := Lib.hid hz1'
  have Hz2' := Lib.hid hz2'
  have Hsrc : Hid (Src (W0.alloc (Obj.cells #[] 3)) A (cellsI c.V)) := Lib.hid ((h.q q0).q ((Q.refl W0).alloc (Obj.cells #[] 3))).v.src
  have Ho := Lib.hid (own_empty (base := W0.heap.size) (e := 3) (size := 1) (Nat.le_refl _) (heap_alloc_new W0 (Obj.cells #[] 3)))
  have HV1 : Hid (c.V.length + 0 ≤ maxLen ∧ c.V.length * 8 ≤ 140737488355328) := by have := hf.1; unfold Hid maxLen; omega
  clear hW0 hz0 hB hX h hf hi0 hz0' hz1 hz2 hi0' hz0'' hz1' hz2' q0
  go_enter Tryz.func91, Tryz.ntmps91
  go_upto_region 1 with fail
  rw [← HW.out]
  clear HW
  have c0 := HB.out.c0
  go_upto_region 3 with fail
  replace c0 := (HB.out.q ((Q.refl W0).alloc (Obj.cells #[] 3))).c0
  go_upto_region 4 with (at_builtin; refine wpList_append_src _ rfl (.tmp 20) (.tmp 22) _ rfl W0.heap.size 3 i0 _ 1 8 Tryz.underlying24 Hi.out Hz0.out Hz1.out Hz2.out rfl (by omega) (.slice (some ⟨W0.heap.size, 0, none⟩) 0 0) 0 [] rfl Ho.out A c.V.length k1 (cellsI c.V) rfl (by rw [cellsI_len]; omega) Hsrc.out (cellsI_one _) (by have := HV1.out.1; omega) (by have := HV1.out.2; omega) (by simp) ?_; intro v2 w2 own2 gr2 _; have HO := Lib.hid own2; have HG := Lib.hid gr2; clear own2 gr2)
  have b2 : Q W0 w2 := ((Q.refl W0).alloc (Obj.cells #[] 3)).grown HG.out (by simp) (by simp [Value.ownBlock])
  have own3 := HO.out
  rw [Nat.zero_add, List.nil_append] at own3
  obtain ⟨g, cap, hv3, hgb⟩ := own3.form (by omega)
  have hcap : c.V.length ≤ cap := by
    rw [hv3] at own3
    rcases own3.2 with ⟨e0, _⟩ | ⟨G, cp, cur, e1, _, _, hc, _⟩
    · cases e0
    · injection e1 with _ _ e3
      omega
  rw [hv3] at own3
  subst hv3
  have hO := Tr.OwnC.of_row own3
  obtain ⟨cg, fg⟩ := hO.2 i _ (cellsI_at Hil.out)
  have hgl := (own3.lt g rfl)
  have q3 : Q W0 (w2.setCell ⟨g, i, none⟩ (.int .i64 x)) := b2.setCell (p := ⟨g, i, none⟩) hgl.1 _
  have HG3 := Lib.hid (hO.set (s := i) (by rw [cellsI_len]; exact Hil.out) (.int .i64 x))
  have Hcap := Lib.hid hcap
  have HgB : Hid ((g ≠ w.heap.size + 1 ∧ w.heap.size ≤ g) ∧ w.heap.size + 1 < w2.heap.size) := by have h1 := HZ.out; have h2 := hgl.1; have h3 := hgl.2; unfold Hid; omega
  have j3 : (i : Int) < (c.V.length : Int) := by have := Hil.out; omega
  have j4 : (0 : Int) ≤ (i : Int) := Int.natCast_nonneg _
  have j5 : (i : Int) < ((0 + c.V.length : Nat) : Int) := by have := Hil.out; omega
  clear HO hgb hcap hO own3 hgl b2 c0 Hsrc Ho HG
  go_upto_region 5 with fail
  clear cg fg
  have HQ3 := Lib.hid (HQ0.out.trans q3)
  have HB3 := Lib.hid (HB.out.q q3)
  have HX3 := Lib.hid (HX.out.q q3)
  have HR3 := Lib.hid (HR.out.q q3)
  rw [← cellsI_set] at HG3
  have hsz3 : (w2.setCell ⟨g, i, none⟩ (.int .i64 x)).heap.size = w2.heap.size := by simp [World.setCell]
  rw [← hsz3] at HgB
  clear hsz3
  clear q3 HQ0 HB HX HR
  generalize w2.setCell ⟨g, i, none⟩ (.int .i64 x) = w3 at *
  obtain ⟨ad, hA, hab, cx⟩ := HR3.out.v.int_at Hil.out
  have hab2 : (ad.add i).block < w3.heap.size := by rw [Tr.add_block]; exact hab
  subst hA
  have ALL : Hid (∀ U, Q w3 U → U.cell? ⟨w.heap.size, 0, none⟩ = some (.slice (some ad) c.V.length k1) ∧ U.cell? ⟨w.heap.size, 1, none⟩ = some (.slice D c.N.length k2) ∧ U.cell? (ad.add i) = some (.int .i64 c.V[i])) := fun U q => ⟨(HB3.out.q q).c0, (HB3.out.q q).c1, (q.cell hab2).trans cx⟩
  obtain ⟨s0, s1, s2⟩ := ALL.out w3 (Q.refl _)
  clear cx hab hab2
  refine begin_t (S := fun w' => w'.cell? ⟨w.heap.size, 0, none⟩ = some (.slice (some ad) c.V.length k1) ∧ w'.cell? ⟨w.heap.size, 1, none⟩ = some (.slice D c.N.length k2) ∧ w'.cell? (ad.add i) = some (.int .i64 c.V[i])) (z := 13) (by kernel_rfl) ?_ (fun hHeld => ?_)
  · exact ALL.out _ (Q.refl w3).drew
  refine take_t (i := 1) (d := some 29) (v := ?_) rfl (by kernel_rfl) (by kernel_rfl) (by kernel_rfl) (by kernel_rfl) (fun _ _ _ h => h) rfl (by rfl) ?_ (by assumption) ?_
  rotate_left
  · (intro w hSw; (try dsimp only at hSw); go_simp; (try with_reducible rfl))
  try simp only [Act.put, List.setIfInBounds_toArray, List.set_cons_zero, List.set_cons_succ]
  refine take_t (i := 2) (d := some 30) (v := ?_) rfl (by kernel_rfl) (by kernel_rfl) (by kernel_rfl) (by kernel_rfl) (fun _ _ _ h => h) rfl (by rfl) ?_ (by assumption) ?_
  rotate_left
  · (intro w hSw; (try dsimp only at hSw); go_simp; (try with_reducible rfl))
  try simp only [Act.put, List.setIfInBounds_toArray, List.set_cons_zero, List.set_cons_succ]
  refine take_y (i := 4) (d := some 32) (v := ?_) rfl (by kernel_rfl) (by kernel_rfl) (by kernel_rfl) (by kernel_rfl) (fun _ _ _ h => h) rfl (by rfl) ?_ (by assumption) ?_
  rotate_left
  · (intro w; go_simp; (try with_reducible rfl))
  try simp only [Act.put, List.setIfInBounds_toArray, List.set_cons_zero, List.set_cons_succ]
  refine take_t (i := 5) (d := some 33) (v := ?_) rfl (by kernel_rfl) (by kernel_rfl) (by kernel_rfl) (by kernel_rfl) (fun _ _ _ h => h) rfl (by rfl) ?_ (by assumption) ?_
  rotate_left
  · (intro w hSw; (try dsimp only at hSw); go_simp; (try with_reducible rfl))
  try simp only [Act.put, List.setIfInBounds_toArray, List.set_cons_zero, List.set_cons_succ]
  refine take_t (i := 6) (d := some 34) (v := ?_) rfl (by kernel_rfl) (by kernel_rfl) (by kernel_rfl) (by kernel_rfl) (fun _ _ _ h => h) rfl (by rfl) ?_ (by assumption) ?_
  rotate_left
  · (intro w hSw; (try dsimp only at hSw); go_simp; (try with_reducible rfl))
  try simp only [Act.put, List.setIfInBounds_toArray, List.set_cons_zero, List.set_cons_succ]
  refine take_y (i := 7) (d := some 35) (v := ?_) rfl (by kernel_rfl) (by kernel_rfl) (by kernel_rfl) (by kernel_rfl) (fun _ _ _ h => h) rfl (by rfl) ?_ (by assumption) ?_
  rotate_left
  · (intro w; go_simp; (try with_reducible rfl))
  try simp only [Act.put, List.setIfInBounds_toArray, List.set_cons_zero, List.set_cons_succ]
  refine take_y (i := 8) (d := some 36) (v := ?_) rfl (by kernel_rfl) (by kernel_rfl) (by kernel_rfl) (by kernel_rfl) (fun _ _ _ h => h) rfl (by rfl) ?_ (by assumption) ?_
  rotate_left
  · (intro w; go_simp; (try with_reducible rfl))
  try simp only [Act.put, List.setIfInBounds_toArray, List.set_cons_zero, List.set_cons_succ]
  refine take_t (i := 9) (d := some 37) (v := ?_) rfl (by kernel_rfl) (by kernel_rfl) (by kernel_rfl) (by kernel_rfl) (fun _ _ _ h => h) rfl (by rfl) ?_ (by assumption) ?_
  rotate_left
  · (intro w hSw; (try dsimp only at hSw); go_simp; (try with_reducible rfl))
  try simp only [Act.put, List.setIfInBounds_toArray, List.set_cons_zero, List.set_cons_succ]
  refine take_y (i := 10) (d := some 38) (v := ?_) rfl (by kernel_rfl) (by kernel_rfl) (by kernel_rfl) (by kernel_rfl) (fun _ _ _ h => h) rfl (by rfl) ?_ (by assumption) ?_
  rotate_left
  · (intro w; go_simp; (try with_reducible rfl))
  try simp only [Act.put, List.setIfInBounds_toArray, List.set_cons_zero, List.set_cons_succ]
  refine both_t (i := 0) (j := 11) rfl rfl (by kernel_rfl) (by rfl) (by rfl) (fun K hK => ?_) (fun K hK => ?_)
  · go_simp
    have hHeld : ((fun w' => w'.cell? ⟨w.heap.size, 0, none⟩ = some (.slice (some ad) c.V.length k1) ∧ w'.cell? ⟨w.heap.size, 1, none⟩ = some (.slice D c.N.length k2) ∧ w'.cell? (ad.add i) = some (.int .i64 c.V[i])) : World → Prop) _ := ALL.out _ ((Q.refl w3).drew.alloc (Obj.cells #[] 113))
    refine hK.out _ _ (fun _ => hHeld) ?_
    clear hK K
    try simp only [Act.put, List.setIfInBounds_toArray, List.set_cons_zero, List.set_cons_succ]
    refine both_t (i := 3) (j := 11) rfl rfl (by kernel_rfl) (by rfl) (by rfl) (fun K hK => ?_) (fun K hK => ?_)
    · refine wp_append_src _ (.tmp 28) (.tmp 30) _ rfl w3.heap.size 113 i0' _ 2 16 Tryz.underlying27 Hi'.out Hz0'.out Hz1'.out Hz2'.out rfl (by omega) (.slice (some ⟨w3.heap.size, 0, none⟩) 0 0) 0 [] rfl (own_empty (Nat.le_refl _) (heap_alloc_new w3.drew (Obj.cells #[] 113))) D c.N.length k2 (cellsP c.N) rfl (cellsP_len _) (HR3.out.q ((Q.refl w3).drew.alloc (Obj.cells #[] 113))).n.src (cellsP_one _) (by have := HFw.out.2.1; unfold maxLen; omega) (by have := HFw.out.2.1; omega) (by simp <;> omega) ?_
      intro v4 w4 own4 gr4 at4
      have HQ4 : Hid (Q w3 w4) := Lib.hid (((Q.refl w3).drew.alloc (Obj.cells #[] 113)).grown gr4 (by simp <;> omega) (by simp [Value.ownBlock] <;> omega))
      have Own4 := Lib.hid own4
      clear own4 gr4 at4
      have hHeld : ((fun w' => w'.cell? ⟨w.heap.size, 0, none⟩ = some (.slice (some ad) c.V.length k1) ∧ w'.cell? ⟨w.heap.size, 1, none⟩ = some (.slice D c.N.length k2) ∧ w'.cell? (ad.add i) = some (.int .i64 c.V[i])) : World → Prop) _ := ALL.out _ HQ4.out
      refine hK.out _ _ (fun _ => hHeld) ?_
      clear hK K
      try simp only [Act.put, List.setIfInBounds_toArray]
      refine call_t (i := 11) rfl (by kernel_rfl) (by rfl) (fun K hK => ?_)
      go_simp
      have hHeld : ((fun w' => w'.cell? ⟨w.heap.size, 0, none⟩ = some (.slice (some ad) c.V.length k1) ∧ w'.cell? ⟨w.heap.size, 1, none⟩ = some (.slice D c.N.length k2) ∧ w'.cell? (ad.add i) = some (.int .i64 c.V[i])) : World → Prop) _ := ALL.out _ (HQ4.out.alloc (Obj.cells #[.int .i64 (i : Int), .int .i64 c.V[i]] 113))
      refine hK.out _ _ (fun _ => hHeld) ?_
      clear hK K
      try simp only [Act.put, List.setIfInBounds_toArray]
      refine call_t (i := 12) rfl (by kernel_rfl) (by rfl) (fun K hK => ?_)
      have own4' := Own4.out.alloc (Obj.cells #[.int .i64 (i : Int), .int .i64 c.V[i]] 113)
      have HQ4 := Lib.hid (HQ4.out.alloc (Obj.cells #[.int .i64 (i : Int), .int .i64 c.V[i]] 113))
      refine wp_append_src _ (.tmp 31) (.tmp 39) _ rfl w3.heap.size 113 i0' _ 2 16 Tryz.underlying27 Hi'.out Hz0'.out Hz1'.out Hz2'.out rfl (by omega) v4 (0 + c.N.length) ([] ++ cellsP c.N) rfl own4' (some ⟨w4.heap.size, 0, none⟩) 1 1 [.int .i64 (i : Int), .int .i64 c.V[i]] rfl rfl (src_block (cs := #[.int .i64 (i : Int), .int .i64 c.V[i]]) (heap_alloc_new w4 (Obj.cells #[.int .i64 (i : Int), .int .i64 c.V[i]] 113))) (by simp [Value.oneCell']) (by have := HFw.out.2.1; unfold maxLen; omega) (by have := HFw.out.2.1; omega) (HQ4.out.size) ?_
      intro v5 w5 own5 gr5 at5
      have HQ5 : Hid (Q w3 w5) := Lib.hid (HQ4.out.grown gr5 HQ4.out.size (fun b hb => (own4'.lt b hb).1))
      have Own5 := Lib.hid own5
      clear own5 gr5 at5
      have hHeld : ((fun w' => w'.cell? ⟨w.heap.size, 0, none⟩ = some (.slice (some ad) c.V.length k1) ∧ w'.cell? ⟨w.heap.size, 1, none⟩ = some (.slice D c.N.length k2) ∧ w'.cell? (ad.add i) = some (.int .i64 c.V[i])) : World → Prop) _ := ALL.out _ HQ5.out
      refine hK.out _ _ (fun _ => hHeld) ?_
      clear hK K
      try simp only [Act.put, List.setIfInBounds_toArray]
      refine call_t (i := 13) rfl (by kernel_rfl) (by rfl) (fun K hK => ?_)
      go_simp
      refine hK.out _ _ (fun hz => by cases hz) ?_
      clear hK K
      try simp only [Act.put]
      refine done_t (by kernel_rfl) ?_ _
      obtain ⟨A5, c5, n5, hn5, rfl, hc5⟩ := own_read3 Own5.out
      have Hn5 := Lib.hid hn5
      have Hc5 := Lib.hid hc5
      have hb := HB3.out.q HQ5.out
      have b2 := hb.c2
      have hx := HX3.out.q HQ5.out
      have HX5 := Lib.hid hx
      have x0 := hx.c0
      have x1 := hx.c1
      have x2 := hx.c2
      have u0 := hx.f0
      have u1 := hx.f1
      have u2 := hx.f2
      clear s0 s1 s2 hb hx hn5 hc5
      go_wp2_with fail
      have hO5 := Own5.out
      rw [← Hn5.out] at hO5
      have hz := HX5.out.all (.slice (some ⟨g, 0, none⟩) c.V.length cap) (.slice A5 n5 c5) (.slice E c.M.length k3)
      have y0 := hz.c0
      have y1 := hz.c1
      have y2 := hz.c2
      obtain ⟨hRd, hQd⟩ := fin_set (x := x) (.slice (some ⟨g, 0, none⟩) c.V.length cap) (.slice A5 n5 c5) (.slice E c.M.length k3) Hil.out (HG3.out.q HQ5.out) Hcap.out hO5 (by rw [Hn5.out]; omega) Hc5.out (by rw [cellsP_append]; rfl) HgB.out.2 HgB.out.1.1 HgB.out.1.2 HE.out Hk3.out (HQ3.out.trans HQ5.out) (Nat.le_succ _)
      refine bodyPost_ret (v := .tuple #[.agg #[.slice (some ⟨g, 0, none⟩) c.V.length cap, .slice A5 n5 c5, .slice E c.M.length k3], .int .i64 0]) (by simp [results, Tryz.f91, go_sem, y0, y1, y2]) rfl ⟨_, cap, _, c5, _, k3, ?_, hRd, hQd⟩
      rw [show (setC c i x).V.length = c.V.length by simp [setC], show (setC c i x).N.length = n5 by rw [Hn5.out]; simp [setC]]
      rfl
    · go_simp
      have hHeld : ((fun w' => w'.cell? ⟨w.heap.size, 0, none⟩ = some (.slice (some ad) c.V.length k1) ∧ w'.cell? ⟨w.heap.size, 1, none⟩ = some (.slice D c.N.length k2) ∧ w'.cell? (ad.add i) = some (.int .i64 c.V[i])) : World → Prop) _ := ALL.out _ (((Q.refl w3).drew.alloc (Obj.cells #[] 113)).alloc (Obj.cells #[.int .i64 (i : Int), .int .i64 c.V[i]] 113))
      refine hK.out _ _ (fun _ => hHeld) ?_
      clear hK K
      try simp only [Act.put, List.setIfInBounds_toArray, List.set_cons_zero, List.set_cons_succ]
      refine call_t (i := 3) rfl (by kernel_rfl) (by rfl) (fun K hK => ?_)
      refine wp_append_src _ (.tmp 28) (.tmp 30) _ rfl w3.heap.size 113 i0' _ 2 16 Tryz.underlying27 Hi'.out Hz0'.out Hz1'.out Hz2'.out rfl (by omega) (.slice (some ⟨w3.heap.size, 0, none⟩) 0 0) 0 [] rfl (own_empty (Nat.le_refl _) (heap_two_old w3.drew (Obj.cells #[] 113) (Obj.cells #[.int .i64 (i : Int), .int .i64 c.V[i]] 113))) D c.N.length k2 (cellsP c.N) rfl (cellsP_len _) (HR3.out.q (((Q.refl w3).drew.alloc (Obj.cells #[] 113)).alloc (Obj.cells #[.int .i64 (i : Int), .int .i64 c.V[i]] 113))).n.src (cellsP_one _) (by have := HFw.out.2.1; unfold maxLen; omega) (by have := HFw.out.2.1; omega) (by simp <;> omega) ?_
      intro v4 w4 own4 gr4 at4
      have HQ4 : Hid (Q w3 w4) := Lib.hid ((((Q.refl w3).drew.alloc (Obj.cells #[] 113)).alloc (Obj.cells #[.int .i64 (i : Int), .int .i64 c.V[i]] 113)).grown gr4 (by simp <;> omega) (by simp [Value.ownBlock] <;> omega))
      have hb4 := far_block gr4 (heap_two_new w3.drew (Obj.cells #[] 113) (Obj.cells #[.int .i64 (i : Int), .int .i64 c.V[i]] 113)) (by simp [Value.ownBlock])
      have own4' := own4
      clear own4 gr4 at4
      have hHeld : ((fun w' => w'.cell? ⟨w.heap.size, 0, none⟩ = some (.slice (some ad) c.V.length k1) ∧ w'.cell? ⟨w.heap.size, 1, none⟩ = some (.slice D c.N.length k2) ∧ w'.cell? (ad.add i) = some (.int .i64 c.V[i])) : World → Prop) _ := ALL.out _ HQ4.out
      refine hK.out _ _ (fun _ => hHeld) ?_
      clear hK K
      try simp only [Act.put, List.setIfInBounds_toArray]
      refine call_t (i := 12) rfl (by kernel_rfl) (by rfl) (fun K hK => ?_)
      refine wp_append_src _ (.tmp 31) (.tmp 39) _ rfl w3.heap.size 113 i0' _ 2 16 Tryz.underlying27 Hi'.out Hz0'.out Hz1'.out Hz2'.out rfl (by omega) v4 (0 + c.N.length) ([] ++ cellsP c.N) rfl own4' (some ⟨w3.heap.size + 1, 0, none⟩) 1 1 [.int .i64 (i : Int), .int .i64 c.V[i]] rfl rfl (src_block (cs := #[.int .i64 (i : Int), .int .i64 c.V[i]]) hb4) (by simp [Value.oneCell']) (by have := HFw.out.2.1; unfold maxLen; omega) (by have := HFw.out.2.1; omega) (HQ4.out.size) ?_
      intro v5 w5 own5 gr5 at5
      have HQ5 : Hid (Q w3 w5) := Lib.hid (HQ4.out.grown gr5 HQ4.out.size (fun b hb => (own4'.lt b hb).1))
      have Own5 := Lib.hid own5
      clear own5 gr5 at5
      have hHeld : ((fun w' => w'.cell? ⟨w.heap.size, 0, none⟩ = some (.slice (some ad) c.V.length k1) ∧ w'.cell? ⟨w.heap.size, 1, none⟩ = some (.slice D c.N.length k2) ∧ w'.cell? (ad.add i) = some (.int .i64 c.V[i])) : World → Prop) _ := ALL.out _ HQ5.out
      refine hK.out _ _ (fun _ => hHeld) ?_
      clear hK K
      try simp only [Act.put]
      refine call_t (i := 13) rfl (by kernel_rfl) (by rfl) (fun K hK => ?_)
      go_simp
      refine hK.out _ _ (fun hz => by cases hz) ?_
      clear hK K
      try simp only [Act.put]
      refine done_t (by kernel_rfl) ?_ _
      obtain ⟨A5, c5, n5, hn5, rfl, hc5⟩ := own_read3 Own5.out
      have Hn5 := Lib.hid hn5
      have Hc5 := Lib.hid hc5
      have hb := HB3.out.q HQ5.out
      have b2 := hb.c2
      have hx := HX3.out.q HQ5.out
      have HX5 := Lib.hid hx
      have x0 := hx.c0
      have x1 := hx.c1
      have x2 := hx.c2
      have u0 := hx.f0
      have u1 := hx.f1
      have u2 := hx.f2
      clear s0 s1 s2 hb hx hn5 hc5
      go_wp2_with fail
      have hO5 := Own5.out
      rw [← Hn5.out] at hO5
      have hz := HX5.out.all (.slice (some ⟨g, 0, none⟩) c.V.length cap) (.slice A5 n5 c5) (.slice E c.M.length k3)
      have y0 := hz.c0
      have y1 := hz.c1
      have y2 := hz.c2
      obtain ⟨hRd, hQd⟩ := fin_set (x := x) (.slice (some ⟨g, 0, none⟩) c.V.length cap) (.slice A5 n5 c5) (.slice E c.M.length k3) Hil.out (HG3.out.q HQ5.out) Hcap.out hO5 (by rw [Hn5.out]; omega) Hc5.out (by rw [cellsP_append]; rfl) HgB.out.2 HgB.out.1.1 HgB.out.1.2 HE.out Hk3.out (HQ3.out.trans HQ5.out) (Nat.le_succ _)
      refine bodyPost_ret (v := .tuple #[.agg #[.slice (some ⟨g, 0, none⟩) c.V.length cap, .slice A5 n5 c5, .slice E c.M.length k3], .int .i64 0]) (by simp [results, Tryz.f91, go_sem, y0, y1, y2]) rfl ⟨_, cap, _, c5, _, k3, ?_, hRd, hQd⟩
      rw [show (setC c i x).V.length = c.V.length by simp [setC], show (setC c i x).N.length = n5 by rw [Hn5.out]; simp [setC]]
      rfl
  · go_simp
    have hHeld : ((fun w' => w'.cell? ⟨w.heap.size, 0, none⟩ = some (.slice (some ad) c.V.length k1) ∧ w'.cell? ⟨w.heap.size, 1, none⟩ = some (.slice D c.N.length k2) ∧ w'.cell? (ad.add i) = some (.int .i64 c.V[i])) : World → Prop) _ := ALL.out _ ((Q.refl w3).drew.alloc (Obj.cells #[.int .i64 (i : Int), .int .i64 c.V[i]] 113))
    refine hK.out _ _ (fun _ => hHeld) ?_
    clear hK K
    try simp only [Act.put, List.setIfInBounds_toArray, List.set_cons_zero, List.set_cons_succ]
    refine call_t (i := 0) rfl (by kernel_rfl) (by rfl) (fun K hK => ?_)
    go_simp
    have hHeld : ((fun w' => w'.cell? ⟨w.heap.size, 0, none⟩ = some (.slice (some ad) c.V.length k1) ∧ w'.cell? ⟨w.heap.size, 1, none⟩ = some (.slice D c.N.length k2) ∧ w'.cell? (ad.add i) = some (.int .i64 c.V[i])) : World → Prop) _ := ALL.out _ (((Q.refl w3).drew.alloc (Obj.cells #[.int .i64 (i : Int), .int .i64 c.V[i]] 113)).alloc (Obj.cells #[] 113))
    refine hK.out _ _ (fun _ => hHeld) ?_
    clear hK K
    try simp only [Act.put, List.setIfInBounds_toArray, List.set_cons_zero, List.set_cons_succ]
    refine call_t (i := 3) rfl (by kernel_rfl) (by rfl) (fun K hK => ?_)
    refine wp_append_src _ (.tmp 28) (.tmp 30) _ rfl w3.heap.size 113 i0' _ 2 16 Tryz.underlying27 Hi'.out Hz0'.out Hz1'.out Hz2'.out rfl (by omega) (.slice (some ⟨w3.heap.size + 1, 0, none⟩) 0 0) 0 [] rfl (own_empty (Nat.le_succ _) (heap_two_new w3.drew (Obj.cells #[.int .i64 (i : Int), .int .i64 c.V[i]] 113) (Obj.cells #[] 113))) D c.N.length k2 (cellsP c.N) rfl (cellsP_len _) (HR3.out.q (((Q.refl w3).drew.alloc (Obj.cells #[.int .i64 (i : Int), .int .i64 c.V[i]] 113)).alloc (Obj.cells #[] 113))).n.src (cellsP_one _) (by have := HFw.out.2.1; unfold maxLen; omega) (by have := HFw.out.2.1; omega) (by simp <;> omega) ?_
    intro v4 w4 own4 gr4 at4
    have HQ4 : Hid (Q w3 w4) := Lib.hid ((((Q.refl w3).drew.alloc (Obj.cells #[.int .i64 (i : Int), .int .i64 c.V[i]] 113)).alloc (Obj.cells #[] 113)).grown gr4 (by simp <;> omega) (by simp [Value.ownBlock] <;> omega))
    have hb4 := far_block gr4 (heap_two_old w3.drew (Obj.cells #[.int .i64 (i : Int), .int .i64 c.V[i]] 113) (Obj.cells #[] 113)) (by simp [Value.ownBlock])
    have own4' := own4
    clear own4 gr4 at4
    have hHeld : ((fun w' => w'.cell? ⟨w.heap.size, 0, none⟩ = some (.slice (some ad) c.V.length k1) ∧ w'.cell? ⟨w.heap.size, 1, none⟩ = some (.slice D c.N.length k2) ∧ w'.cell? (ad.add i) = some (.int .i64 c.V[i])) : World → Prop) _ := ALL.out _ HQ4.out
    refine hK.out _ _ (fun _ => hHeld) ?_
    clear hK K
    try simp only [Act.put, List.setIfInBounds_toArray]
    refine call_t (i := 12) rfl (by kernel_rfl) (by rfl) (fun K hK => ?_)
    refine wp_append_src _ (.tmp 31) (.tmp 39) _ rfl w3.heap.size 113 i0' _ 2 16 Tryz.underlying27 Hi'.out Hz0'.out Hz1'.out Hz2'.out rfl (by omega) v4 (0 + c.N.length) ([] ++ cellsP c.N) rfl own4' (some ⟨w3.heap.size, 0, none⟩) 1 1 [.int .i64 (i : Int), .int .i64 c.V[i]] rfl rfl (src_block (cs := #[.int .i64 (i : Int), .int .i64 c.V[i]]) hb4) (by simp [Value.oneCell']) (by have := HFw.out.2.1; unfold maxLen; omega) (by have := HFw.out.2.1; omega) (HQ4.out.size) ?_
    intro v5 w5 own5 gr5 at5
    have HQ5 : Hid (Q w3 w5) := Lib.hid (HQ4.out.grown gr5 HQ4.out.size (fun b hb => (own4'.lt b hb).1))
    have Own5 := Lib.hid own5
    clear own5 gr5 at5
    have hHeld : ((fun w' => w'.cell? ⟨w.heap.size, 0, none⟩ = some (.slice (some ad) c.V.length k1) ∧ w'.cell? ⟨w.heap.size, 1, none⟩ = some (.slice D c.N.length k2) ∧ w'.cell? (ad.add i) = some (.int .i64 c.V[i])) : World → Prop) _ := ALL.out _ HQ5.out
    refine hK.out _ _ (fun _ => hHeld) ?_
    clear hK K
    try simp only [Act.put]
    refine call_t (i := 13) rfl (by kernel_rfl) (by rfl) (fun K hK => ?_)
    go_simp
    refine hK.out _ _ (fun hz => by cases hz) ?_
    clear hK K
    try simp only [Act.put]
    refine done_t (by kernel_rfl) ?_ _
    obtain ⟨A5, c5, n5, hn5, rfl, hc5⟩ := own_read3 Own5.out
    have Hn5 := Lib.hid hn5
    have Hc5 := Lib.hid hc5
    have hb := HB3.out.q HQ5.out
    have b2 := hb.c2
    have hx := HX3.out.q HQ5.out
    have HX5 := Lib.hid hx
    have x0 := hx.c0
    have x1 := hx.c1
    have x2 := hx.c2
    have u0 := hx.f0
    have u1 := hx.f1
    have u2 := hx.f2
    clear s0 s1 s2 hb hx hn5 hc5
    go_wp2_with fail
    have hO5 := Own5.out
    rw [← Hn5.out] at hO5
    have hz := HX5.out.all (.slice (some ⟨g, 0, none⟩) c.V.length cap) (.slice A5 n5 c5) (.slice E c.M.length k3)
    have y0 := hz.c0
    have y1 := hz.c1
    have y2 := hz.c2
    obtain ⟨hRd, hQd⟩ := fin_set (x := x) (.slice (some ⟨g, 0, none⟩) c.V.length cap) (.slice A5 n5 c5) (.slice E c.M.length k3) Hil.out (HG3.out.q HQ5.out) Hcap.out hO5 (by rw [Hn5.out]; omega) Hc5.out (by rw [cellsP_append]; rfl) HgB.out.2 HgB.out.1.1 HgB.out.1.2 HE.out Hk3.out (HQ3.out.trans HQ5.out) (Nat.le_succ _)
    refine bodyPost_ret (v := .tuple #[.agg #[.slice (some ⟨g, 0, none⟩) c.V.length cap, .slice A5 n5 c5, .slice E c.M.length k3], .int .i64 0]) (by simp [results, Tryz.f91, go_sem, y0, y1, y2]) rfl ⟨_, cap, _, c5, _, k3, ?_, hRd, hQd⟩
    rw [show (setC c i x).V.length = c.V.length by simp [setC], show (setC c i x).N.length = n5 by rw [Hn5.out]; simp [setC]]
    rfl
end Go.Proofs.YtjmopbimleoidaaGreat.Ig

namespace Go.Proofs.YtjmopbimleoidaaGreat.Tr
open Go.RowKit Kit

end Go.Proofs.YtjmopbimleoidaaGreat.Tr
