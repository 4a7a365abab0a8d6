/-
  What the proofs lean on, part 10 of 12.
-/
import Derived.Test.YtjmopbimleoidaaGreatPe
import Derived.Test.YtjmopbimleoidaaGreatPh
import Derived.Test.YtjmopbimleoidaaGreatPi
namespace Go.Proofs.YtjmopbimleoidaaGreat.Ig
open Go.RowKit Kit Tr Uf
open Go.Proofs.YtjmopbimleoidaaGreat.Hs (Keys Ints BoxT KeysP IntsP)
open Go.Proofs.YtjmopbimleoidaaGreat.St (cellsQ cellsQ_append cellsQ_len cellsQ_one pairInfo PI)
/-- a graph that can be read, in blocks of a kind (nothing said of what the slices could hold) -/
structure GRQ (w : World) (K : Nat → Prop) (R : List Int) (c : Cells) (P T : List (List Int)) (F A D E Pa Ta : Option Addr) (k1 k2 k3 : Nat) : Prop where
  r : RdsP w K F (cellsI R)
  v : RdsP w K A (cellsI c.V)
  n : RdsP w K D (cellsP c.N)
  m : RdsP w K E (cellsI c.M)
  p : KeysP w K Pa P
  t : KeysP w K Ta T
  lv : c.V.length ≤ k1
  ln : c.N.length ≤ k2
  lm : c.M.length ≤ k3
theorem GRQ.to {w W : World} {K K' : Nat → Prop} {R : List Int} {c : Cells} {P T : List (List Int)} {F A D E Pa Ta : Option Addr} {k1 k2 k3 : Nat} (h : GRQ w K R c P T F A D E Pa Ta k1 k2 k3) (ha : w.heap.size ≤ W.heap.size ∧ ∀ p : Addr, K p.block → p.block < w.heap.size → W.cell? p = w.cell? p) (hK : ∀ b, K b → b < w.heap.size → K' b) : GRQ W K' R c P T F A D E Pa Ta k1 k2 k3 :=
  ⟨h.r.toP ha.1 ha.2 hK, h.v.toP ha.1 ha.2 hK, h.n.toP ha.1 ha.2 hK, h.m.toP ha.1 ha.2 hK, h.p.toP ha.1 ha.2 hK, h.t.toP ha.1 ha.2 hK, h.lv, h.ln, h.lm⟩
theorem GRQ.rd {w : World} {K : Nat → Prop} {R : List Int} {c : Cells} {P T : List (List Int)} {F A D E Pa Ta : Option Addr} {k1 k2 k3 : Nat} (h : GRQ w K R c P T F A D E Pa Ta k1 k2 k3) : Rd w c A k1 D k2 E k3 := ⟨h.v.rds, h.n.rds, h.m.rds, h.lv, h.ln, h.lm⟩
theorem GRQ.q {w W : World} {K : Nat → Prop} {R : List Int} {c : Cells} {P T : List (List Int)} {F A D E Pa Ta : Option Addr} {k1 k2 k3 : Nat} (h : GRQ w K R c P T F A D E Pa Ta k1 k2 k3) (q : Q w W) : GRQ W K R c P T F A D E Pa Ta k1 k2 k3 := h.to (agree_q q) (fun _ h _ => h)
/-- One's answer, as the document has it: in the call's own memory, or where it was -/
def OneRef (K : Nat → Prop) (R : List Int) (c : Cells) (P T : List (List Int)) (l : List PI) (w : World) (e : Ending) (w' : World) : Prop :=
  ∃ F A D E Pa Ta cr k1 k2 k3 kp kt v, e = .returned (.tuple #[gvP R c P T F A D E Pa Ta cr k1 k2 k3 kp kt, v]) ∧ GRQ w' (fun b => K b ∨ w.heap.size ≤ b) R c P T F A D E Pa Ta k1 k2 k3 ∧ w'.ownsRow w.heap.size 48 2 v l.length (cellsQ l) ∧ Q w w'
theorem oneref {K : Nat → Prop} {w w' : World} {R : List Int} {c : Cells} {P T : List (List Int)} {F A D E Pa Ta : Option Addr} {cr k1 k2 k3 kp kt : Nat} {l : List PI} {v : Value} (h : GRQ w' (fun b => K b ∨ w.heap.size ≤ b) R c P T F A D E Pa Ta k1 k2 k3) (hv : w'.ownsRow w.heap.size 48 2 v l.length (cellsQ l)) (q : Q w w') : OneRef K R c P T l w (.returned (.tuple #[gvP R c P T F A D E Pa Ta cr k1 k2 k3 kp kt, v])) w' := ⟨F, A, D, E, Pa, Ta, cr, k1, k2, k3, kp, kt, v, rfl, h, hv, q⟩
/-- behind the graph that is joined: its box, and where it lies -/
def CutN (K : Nat → Prop) (w W : World) (R : List Int) (c : Cells) (P T : List (List Int)) (Br np nt : Nat) (s : Value) (wc : World) : Prop :=
  ∃ B F A D E Pa Ta cr k1 k2 k3 kp kt, s = .pointer (some ⟨B, 0, none⟩) ∧ Box6 wc B (.slice F R.length cr) (.slice A c.V.length k1) (.slice D c.N.length k2) (.slice E c.M.length k3) (.slice Pa np kp) (.slice Ta nt kt) ∧ GRQ wc (fun b => (K b ∨ w.heap.size ≤ b) ∧ b ≠ Br) R c P T F A D E Pa Ta k1 k2 k3 ∧ Q W wc
theorem CR.of {w : World} {K : Nat → Prop} {R : List Int} {c : Cells} {P T : List (List Int)} {F A D E Pa Ta : Option Addr} {k1 k2 k3 : Nat} (h : GRQ w K R c P T F A D E Pa Ta k1 k2 k3) : CR w K c A k1 D k2 E k3 := ⟨h.v, h.n, h.m, h.lv, h.ln, h.lm⟩
/-- the end of each way of the call that makes the joined graph -/
theorem cutn {K : Nat → Prop} {w W6 wE : World} {R : List Int} {c' : Cells} {P T : List (List Int)} {F A7 D7 E7 : Option Addr} {cr l1 l2 l3 np nt g8 g9 cp8 cp9 h Br B : Nat} {V0 V1 V2 V3 V4 V5 : Value}
    (hW : w.heap.size + 3 ≤ W6.heap.size) (hBr : Br = w.heap.size + 2) (hKw : ∀ b, K b → b < w.heap.size) (hF : RdsP w K F (cellsI R)) (hc : CR wE (fun b => (K b ∨ W6.heap.size ≤ b) ∧ b ≠ B) c' A7 l1 D7 l2 E7 l3) (hP : KeysP wE (fun b => (K b ∨ W6.heap.size ≤ b) ∧ b ≠ B) (some ⟨g8, 0, none⟩) (P.set h [])) (hT : KeysP wE (fun b => (K b ∨ W6.heap.size ≤ b) ∧ b ≠ B) (some ⟨g9, 0, none⟩) (T.set h []))
    (hq : Q w W6) (hE : Q W6 wE) (hB : BoxW wE B V0 V1 V2 V3 V4 V5) (hBW : W6.heap.size ≤ B) :
    CutN K w W6 R c' (P.set h []) (T.set h []) Br np nt (.pointer (some ⟨B, 0, none⟩)) ((((((wE.setCell ⟨B, 0, none⟩ (.slice F R.length cr)).setCell ⟨B, 1, none⟩ (.slice A7 c'.V.length l1)).setCell ⟨B, 2, none⟩ (.slice D7 c'.N.length l2)).setCell ⟨B, 3, none⟩ (.slice E7 c'.M.length l3)).setCell ⟨B, 4, none⟩ (.slice (some ⟨g8, 0, none⟩) np cp8)).setCell ⟨B, 5, none⟩ (.slice (some ⟨g9, 0, none⟩) nt cp9)) := by
  have gr := set6_grown wE B (.slice F R.length cr) (.slice A7 c'.V.length l1) (.slice D7 c'.N.length l2) (.slice E7 c'.M.length l3) (.slice (some ⟨g8, 0, none⟩) np cp8) (.slice (some ⟨g9, 0, none⟩) nt cp9)
  have bx := hB.set (.slice F R.length cr) (.slice A7 c'.V.length l1) (.slice D7 c'.N.length l2) (.slice E7 c'.M.length l3) (.slice (some ⟨g8, 0, none⟩) np cp8) (.slice (some ⟨g9, 0, none⟩) nt cp9)
  have hK : ∀ b, ((K b ∨ W6.heap.size ≤ b) ∧ b ≠ B) → b < wE.heap.size → (K b ∨ w.heap.size ≤ b) ∧ b ≠ Br := fun b hb _ => by
    refine ⟨hb.1.elim .inl (fun h => .inr (by omega)), fun e => ?_⟩
    rcases hb.1 with h | h
    · have := hKw b h; omega
    · omega
  have hFE : RdsP wE (fun b => (K b ∨ W6.heap.size ≤ b) ∧ b ≠ B) F (cellsI R) := hF.toP (agree_q (P := K) (hq.trans hE)).1 (agree_q (hq.trans hE)).2 (fun b hb _ => ⟨.inl hb, fun e => by have := hKw b hb; omega⟩)
  have hg : GRQ wE (fun b => (K b ∨ W6.heap.size ≤ b) ∧ b ≠ B) R c' (P.set h []) (T.set h []) F A7 D7 E7 (some ⟨g8, 0, none⟩) (some ⟨g9, 0, none⟩) l1 l2 l3 := ⟨hFE, hc.v, hc.n, hc.m, hP, hT, hc.lv, hc.ln, hc.lm⟩
  exact ⟨B, F, A7, D7, E7, _, _, cr, l1, l2, l3, cp8, cp9, rfl, bx.c, hg.to (agree_grown (P := fun b => (K b ∨ W6.heap.size ≤ b) ∧ b ≠ B) gr (fun hk => hk.2 rfl)) hK, grown_q gr hE hBW⟩
/-- where an answer lies, when the box is made behind it, or ahead -/
theorem KeysP.behind {K : Nat → Prop} {W6 U U0 wE : World} {A : Option Addr} {ks : List (List Int)} {B : Nat} (h : KeysP U (fun b => K b ∨ U0.heap.size ≤ b) A ks) (q0 : W6.heap.size ≤ U0.heap.size) (q : Q U wE) (hB : U.heap.size ≤ B ∨ B < U0.heap.size ∧ ∀ b, K b → b ≠ B) : KeysP wE (fun b => (K b ∨ W6.heap.size ≤ b) ∧ b ≠ B) A ks := h.toP (agree_q (P := fun b => K b ∨ U0.heap.size ≤ b) q).1 (agree_q (P := fun b => K b ∨ U0.heap.size ≤ b) q).2 (fun b hb hl => ⟨hb.elim .inl (fun h => .inr (by omega)), hB.elim (fun h => by omega) (fun h => hb.elim (h.2 b) (fun h2 => by omega))⟩)
theorem CR.ahead {K : Nat → Prop} {W6 U U0 wE : World} {c : Cells} {A D E : Option Addr} {k1 k2 k3 B : Nat} (h : CR U (fun b => K b ∨ U0.heap.size ≤ b) c A k1 D k2 E k3) (q0 : W6.heap.size ≤ U0.heap.size) (q : Q U wE) (hB : U.heap.size ≤ B ∨ B < U0.heap.size ∧ ∀ b, K b → b ≠ B) : CR wE (fun b => (K b ∨ W6.heap.size ≤ b) ∧ b ≠ B) c A k1 D k2 E k3 := h.to (agree_q (P := fun b => K b ∨ U0.heap.size ≤ b) q) (fun b hb hl => ⟨hb.elim .inl (fun h => .inr (by omega)), hB.elim (fun h => by omega) (fun h => hb.elim (h.2 b) (fun h2 => by omega))⟩)

set_option maxRecDepth 100000 in
set_option maxHeartbeats 8000000 in
theorem refOne12_any (K : Nat → Prop) (R : List Int) (c : Cells) (P T : List (List Int)) (A S F Av D E Pa Ta : Option Addr) (n ca ms d cr k1 k2 k3 kp kt : Nat) (ks : List (List Int)) (x y : Nat) (w : World) (hn : n = ks.length) (hk : Keys w w.heap.size A ks) (hl : ks.length ≤ maxLen) (hs : ∀ k ∈ ks, k.length ≤ maxLen)
    (hG : GRQ w K R c P T F Av D E Pa Ta k1 k2 k3) (hKw : ∀ b, K b → b < w.heap.size) (hf : Few c 1000000) (hPn : P.length = c.V.length) (hTn : T.length = c.V.length) (sP : ∀ k ∈ P, k.length ≤ 1000000) (sT : ∀ k ∈ T, k.length ≤ 1000000) (hC : Cl R c.V) (hx : x < c.V.length) (hy : y < c.V.length) :
    Calls Tryz.prog 11 #[.agg #[.slice A n ca, .slice S ms d], .agg #[.slice F R.length cr, .slice Av c.V.length k1, .slice D c.N.length k2, .slice E c.M.length k3, .slice Pa P.length kp, .slice Ta T.length kt], .int .i64 (x : Int), .int .i64 (y : Int)] w
      (if fst c.V x = fst c.V y then OneRef K R c P T [] w else OneRef K R (joinC R c x y) (P.set (hi R c.V x y) []) (T.set (hi R c.V x y) []) (comeV ks (joinC R c x y).V (rowG P (hi R c.V x y)) (rowG T (hi R c.V x y)) (atV ks (lo R c.V x y : Int))) w) := by
  subst hn
  have q0 := (((Q.refl w).alloc (Obj.cells #[.slice A ks.length ca, .slice S ms d] 26)).alloc (Obj.cells #[.slice F R.length cr, .slice Av c.V.length k1, .slice D c.N.length k2, .slice E c.M.length k3, .slice Pa P.length kp, .slice Ta T.length kt] 31)).alloc (Obj.cells #[.slice none 0 0, .slice none 0 0, .slice none 0 0, .slice none 0 0, .slice none 0 0, .slice none 0 0] 31)
  have HBa := Lib.hid ((BoxT.new w (.slice A ks.length ca) (.slice S ms d) 26).q (((Q.refl _).alloc (Obj.cells #[.slice F R.length cr, .slice Av c.V.length k1, .slice D c.N.length k2, .slice E c.M.length k3, .slice Pa P.length kp, .slice Ta T.length kt] 31)).alloc (Obj.cells #[.slice none 0 0, .slice none 0 0, .slice none 0 0, .slice none 0 0, .slice none 0 0, .slice none 0 0] 31)))
  have X := (Box6.new (w.alloc (Obj.cells #[.slice A ks.length ca, .slice S ms d] 26)) (.slice F R.length cr) (.slice Av c.V.length k1) (.slice D c.N.length k2) (.slice E c.M.length k3) (.slice Pa P.length kp) (.slice Ta T.length kt) 31).q ((Q.refl _).alloc (Obj.cells #[.slice none 0 0, .slice none 0 0, .slice none 0 0, .slice none 0 0, .slice none 0 0, .slice none 0 0] 31))
  rw [World.size_alloc] at X
  have HBg := Lib.hid X
  have X2 := BoxW.new ((w.alloc (Obj.cells #[.slice A ks.length ca, .slice S ms d] 26)).alloc (Obj.cells #[.slice F R.length cr, .slice Av c.V.length k1, .slice D c.N.length k2, .slice E c.M.length k3, .slice Pa P.length kp, .slice Ta T.length kt] 31)) (.slice none 0 0) (.slice none 0 0) (.slice none 0 0) (.slice none 0 0) (.slice none 0 0) (.slice none 0 0) 31
  rw [World.size_alloc, World.size_alloc] at X2
  have HX := Lib.hid X2
  have HZ : Hid ((((w.alloc (Obj.cells #[.slice A ks.length ca, .slice S ms d] 26)).alloc (Obj.cells #[.slice F R.length cr, .slice Av c.V.length k1, .slice D c.N.length k2, .slice E c.M.length k3, .slice Pa P.length kp, .slice Ta T.length kt] 31)).alloc (Obj.cells #[.slice none 0 0, .slice none 0 0, .slice none 0 0, .slice none 0 0, .slice none 0 0, .slice none 0 0] 31)).heap.size = w.heap.size + 3) := by unfold Hid; simp
  have HQ0 := Lib.hid q0
  have HG := Lib.hid hG
  have HFw := Lib.hid hf
  have HKw := Lib.hid hKw
  have HPn := Lib.hid hPn
  have HTn := Lib.hid hTn
  have HCl := Lib.hid hC
  have HxV := Lib.hid hx
  have HyV := Lib.hid hy
  have Hk := Lib.hid hk
  have HsP := Lib.hid sP
  have HsT := Lib.hid sT
  obtain ⟨Br, hBr⟩ : ∃ Br, Br = w.heap.size + 1 + 1 := ⟨_, rfl⟩
  rw [← hBr] at HX
  have HBr : Hid (Br = w.heap.size + 2) := hBr
  have CF : Hid (∀ (z : Nat) (U : World), z < c.V.length → Q w U → Calls Tryz.prog 14 #[.agg #[.slice Av c.V.length k1, .slice D c.N.length k2, .slice E c.M.length k3], .int .i64 (z : Int)] U fun e W' => e = .returned (.int .i64 (fst c.V z : Int)) ∧ Q U W') := fun z U hz q => refFind_any R c.V z Av _ k1 _ _ U rfl (hG.q q).v.rds hC hz hf.1
  have CL : Hid (∀ (a b : Int) (U : World), Q w U → Calls Tryz.prog 45 #[.slice F R.length cr, .int .i64 a, .int .i64 b] U fun e w' => e = .returned (.bool (lessB R a b)) ∧ Q U w') := fun a b U q => (refLess_any R F _ cr a b U rfl (hG.q q).r.rds).mono (by rintro e w' ⟨rfl, rfl⟩; exact ⟨rfl, Q.refl _⟩)
  have CJ : Hid (∀ U : World, Q w U → Calls Tryz.prog 46 #[.agg #[.slice Av c.V.length k1, .slice D c.N.length k2, .slice E c.M.length k3], .slice F R.length cr, .int .i64 (x : Int), .int .i64 (y : Int)] U (CPost K (joinC R c x y) U)) := fun U q => refJoin5_any K R c x y Av D E F k1 k2 k3 _ cr U rfl (CR.of (hG.q q)) (fun b hb => Nat.lt_of_lt_of_le (hKw b hb) q.size) (hG.q q).r.rds hf hC hx hy
  have CWP : Hid (∀ (z : Nat) (U : World), z < P.length → Q w U → Calls Tryz.prog 47 #[.slice Pa P.length kp, .int .i64 (z : Int), .slice none 0 0] U fun e w' => ∃ g cp, e = .returned (.slice (some ⟨g, 0, none⟩) P.length cp) ∧ P.length ≤ cp ∧ KeysP w' (fun b => K b ∨ U.heap.size ≤ b) (some ⟨g, 0, none⟩) (P.set z []) ∧ Q U w') := fun z U hz q => with12P K Pa none _ kp 0 0 P [] z U rfl rfl hz (by rw [hPn]; exact hf.1) (Nat.le_refl _) (hG.q q).p (fun h => absurd h (by simp))
  have CWT : Hid (∀ (z : Nat) (U : World), z < T.length → Q w U → Calls Tryz.prog 47 #[.slice Ta T.length kt, .int .i64 (z : Int), .slice none 0 0] U fun e w' => ∃ g cp, e = .returned (.slice (some ⟨g, 0, none⟩) T.length cp) ∧ T.length ≤ cp ∧ KeysP w' (fun b => K b ∨ U.heap.size ≤ b) (some ⟨g, 0, none⟩) (T.set z []) ∧ Q U w') := fun z U hz q => with12P K Ta none _ kt 0 0 T [] z U rfl rfl hz (by rw [hTn]; exact hf.1) (Nat.le_refl _) (hG.q q).t (fun h => absurd h (by simp))
  have CA : Hid (∀ (z : Int) (U : World), Q w U → Calls Tryz.prog 17 #[.agg #[.slice A ks.length ca, .slice S ms d], .int .i64 z] U fun e w' => e = .returned (.int .i64 (atV ks z)) ∧ Q U w') := fun z U q => refAtV_any A _ ca (.slice S ms d) ks z U rfl ((hk.q (Nat.le_refl _) q).more q.size) hl hs
  have CRp : Hid (∀ (V' : List Int) (A' : Option Addr) (k' : Nat) (r b1 b2 b3 b4 : Value) (z : Int) (U : World), Q w U → Tr.Rds U U.heap.size A' (cellsI V') → Cl R V' → V'.length ≤ 1000000 → Calls Tryz.prog 48 #[.agg #[.slice A ks.length ca, .slice S ms d], .agg #[r, .slice A' V'.length k', b1, b2, b3, b4], .int .i64 z] U fun e w' => e = .returned (.int .i64 (repV ks V' z)) ∧ Q U w') := fun V' A' k' r b1 b2 b3 b4 z U q hr hc hv => refRep_any R V' A S A' _ ca ms d _ k' r b1 b2 b3 b4 ks z U rfl ((hk.q (Nat.le_refl _) q).more q.size) hl hs rfl hr hc hv
  obtain ⟨i0, hi0, hz0, hz1, hz2⟩ := info_parts pairInfo
  have Hi := Lib.hid hi0
  have Hz0 := Lib.hid hz0
  have Hz1 := Lib.hid hz1
  have Hz2 := Lib.hid hz2
  clear hG X X2 hk q0 hf hKw hPn hTn hC hx hy hi0 hz0 hz1 hz2 hl hs sP sT
  go_enter Tryz.func11, Tryz.ntmps11
  go_upto_region 1 with fail
  rw [← hBr]
  clear hBr
  generalize ((w.alloc (Obj.cells #[.slice A ks.length ca, .slice S ms d] 26)).alloc (Obj.cells #[.slice F R.length cr, .slice Av c.V.length k1, .slice D c.N.length k2, .slice E c.M.length k3, .slice Pa P.length kp, .slice Ta T.length kt] 31)).alloc (Obj.cells #[.slice none 0 0, .slice none 0 0, .slice none 0 0, .slice none 0 0, .slice none 0 0, .slice none 0 0] 31) = W0 at *
  have ALL : Hid (∀ U, Q W0 U → U.cell? ⟨w.heap.size + 1, 0, none⟩ = some (.slice F R.length cr) ∧ U.cell? ⟨w.heap.size + 1, 1, none⟩ = some (.slice Av c.V.length k1) ∧ U.cell? ⟨w.heap.size + 1, 2, none⟩ = some (.slice D c.N.length k2) ∧ U.cell? ⟨w.heap.size + 1, 3, none⟩ = some (.slice E c.M.length k3) ∧ U.cell? ⟨w.heap.size + 1, 4, none⟩ = some (.slice Pa P.length kp) ∧ U.cell? ⟨w.heap.size + 1, 5, none⟩ = some (.slice Ta T.length kt)) := fun U q => by
    have h := HBg.out.q q
    exact ⟨h.c0, h.c1, h.c2, h.c3, h.c4, h.c5⟩
  obtain ⟨b0, b1, b2, b3, b4, b5⟩ := ALL.out W0 (Q.refl _)
  have CFx := Lib.hid (fun U => CF.out x U HxV.out)
  have CFy := Lib.hid (fun U => CF.out y U HyV.out)
  have hpx := (HCl.out.fst_in x HxV.out).1
  have hqy := (HCl.out.fst_in y HyV.out).1
  clear CF
  go_upto_region 3 with (first
    | (go_at_call 14; (with_reducible refine (CFx.out W0 HQ0.out).mono ?_); rintro e w1 ⟨rfl, q1⟩; have HQ1 := Lib.hid q1; clear q1; clear b0 b1 b2 b3 b4 b5; obtain ⟨b0, b1, b2, b3, b4, b5⟩ := ALL.out w1 HQ1.out)
    | (go_at_call 14; (with_reducible refine (CFy.out w1 (HQ0.out.trans HQ1.out)).mono ?_); rintro e w2 ⟨rfl, q2⟩; have HQ2 := Lib.hid (HQ1.out.trans q2); clear q2; clear b0 b1 b2 b3 b4 b5; obtain ⟨b0, b1, b2, b3, b4, b5⟩ := ALL.out w2 HQ2.out)
    | fail)
  clear CFx CFy
  by_cases hpq : fst c.V x = fst c.V y
  · have e1 : ((fst c.V x : Int) == (fst c.V y : Int)) = true := by rw [hpq]; simp
    have HE := Lib.hid hpq
    clear hpx hqy hpq CL CJ CWP CWT CA CRp
    have hx2 := HX.out.q HQ2.out
    have HX2 := Lib.hid hx2
    have x0 := hx2.c.c0
    have xf0 := hx2.f0
    have x1 := hx2.c.c1
    have xf1 := hx2.f1
    have x2 := hx2.c.c2
    have xf2 := hx2.f2
    have x3 := hx2.c.c3
    have xf3 := hx2.f3
    have x4 := hx2.c.c4
    have xf4 := hx2.f4
    have x5 := hx2.c.c5
    have xf5 := hx2.f5
    have BZ := Lib.hid (HX2.out.set (.slice F R.length cr) (.slice Av c.V.length k1) (.slice D c.N.length k2) (.slice E c.M.length k3) (.slice Pa P.length kp) (.slice Ta T.length kt))
    have hgr := Lib.hid (set6_grown w2 Br (.slice F R.length cr) (.slice Av c.V.length k1) (.slice D c.N.length k2) (.slice E c.M.length k3) (.slice Pa P.length kp) (.slice Ta T.length kt))
    clear hx2
    go_wp2_with fail
    have y0 := BZ.out.c.c0
    have y1 := BZ.out.c.c1
    have y2 := BZ.out.c.c2
    have y3 := BZ.out.c.c3
    have y4 := BZ.out.c.c4
    have y5 := BZ.out.c.c5
    refine bodyPost_ret (v := .tuple #[gvP R c P T F Av D E Pa Ta cr k1 k2 k3 kp kt, .slice none 0 0]) (by simp [gvP, results, Tryz.f11, go_sem, y0, y1, y2, y3, y4, y5]) rfl ?_
    have hbr := HBr.out
    have qf := grown_q hgr.out (HQ0.out.trans HQ2.out) (by omega)
    first | rw [if_pos HE.out] | skip
    exact oneref (HG.out.to (agree_q qf) (fun b hb _ => .inl hb)) (World.ownsRow_nil _ _ _ _) qf
  · have HNe := Lib.hid hpq
    have e1 : ((fst c.V x : Int) == (fst c.V y : Int)) = false := by rw [beq_eq_false_iff_ne]; omega
    have CLx := Lib.hid (CL.out (fst c.V x : Int) (fst c.V y : Int))
    obtain ⟨bl, hbl⟩ : ∃ bl, bl = lessB R (fst c.V x : Int) (fst c.V y : Int) := ⟨_, rfl⟩
    rw [← hbl] at CLx
    have HBl := Lib.hid hbl
    clear hbl
    obtain ⟨c', hc'⟩ : ∃ c', c' = joinC R c x y := ⟨_, rfl⟩
    obtain ⟨g, hgg⟩ : ∃ g, g = hi R c.V x y := ⟨_, rfl⟩
    obtain ⟨f, hff⟩ : ∃ f, f = lo R c.V x y := ⟨_, rfl⟩
    have hgl : g < c.V.length := by rw [hgg]; exact hi_in HCl.out HxV.out HyV.out
    have HgP : Hid (g < P.length ∧ g < T.length) := by have h1 := HPn.out; have h2 := HTn.out; unfold Hid; omega
    have hJ := joined (R := R) HCl.out HxV.out HyV.out
    have hJc := hJ.cl
    have hJl := hJ.len
    rw [← hc'] at hJc hJl
    have HJc := Lib.hid hJc
    have HJl : Hid (c'.V.length ≤ 1000000) := by have h2 := HFw.out.1; unfold Hid; omega
    rw [← hc'] at CJ
    have HC' := Lib.hid hc'
    have HLo := Lib.hid hff
    have HHi := Lib.hid hgg
    have CWPg := Lib.hid (fun U => CWP.out g U HgP.out.1)
    have CWTg := Lib.hid (fun U => CWT.out g U HgP.out.2)
    have CAf := Lib.hid (CA.out (f : Int))
    clear CL hgl hJ hJc hJl hc' CWP CWT CA
    go_upto_region 8 with (go_at_call 45; (with_reducible refine (CLx.out w2 (HQ0.out.trans HQ2.out)).mono ?_); rintro e w3 ⟨rfl, q3⟩; have HQ3 := Lib.hid (HQ2.out.trans q3); clear q3; clear b0 b1 b2 b3 b4 b5; obtain ⟨b0, b1, b2, b3, b4, b5⟩ := ALL.out w3 HQ3.out)
    go_upto_if 39 with fail
    go_cut [12, 13] (fun a b wx => a = .int .i64 (f : Int) ∧ b = .int .i64 (g : Int) ∧ w3 = wx)
    case first =>
      cases bl
      · have hll : lessB R (fst c.V x : Int) (fst c.V y : Int) = false := HBl.out.symm
        have h2 := less_flip (R := R) (a := (fst c.V x : Int)) (b := (fst c.V y : Int)) (by omega) hll
        have hf1 : f = fst c.V y := by rw [hff]; unfold lo; rw [if_pos h2]
        have hg1 : g = fst c.V x := by rw [hgg]; unfold hi; rw [if_pos h2]
        have HF1 := Lib.hid hf1
        have HG1 := Lib.hid hg1
        clear hff hgg hf1 hg1 h2 hll b0 b1 b2 b3 b4 b5
        go_wp2_with fail
        go_meet
        exact ⟨by rw [HF1.out], by rw [HG1.out], rfl⟩
      · have hll : lessB R (fst c.V x : Int) (fst c.V y : Int) = true := HBl.out.symm
        have h2 := less_not (R := R) hll
        have hf1 : f = fst c.V x := by rw [hff]; unfold lo; rw [h2]; simp
        have hg1 : g = fst c.V y := by rw [hgg]; unfold hi; rw [h2]; simp
        have HF1 := Lib.hid hf1
        have HG1 := Lib.hid hg1
        clear hff hgg hf1 hg1 h2 hll b0 b1 b2 b3 b4 b5
        go_wp2_with fail
        go_meet
        exact ⟨by rw [HF1.out], by rw [HG1.out], rfl⟩
    case rest =>
      obtain ⟨rfl, rfl, rfl⟩ := hcut
      have HQw := Lib.hid (HQ0.out.trans HQ3.out)
      have HW3 : Hid (w.heap.size + 3 ≤ w3.heap.size) := by have h1 := HZ.out; have h2 := HQ3.out.size; unfold Hid; omega
      clear hff hgg hpx hqy hpq e1
      go_upto_region 11 with fail
      go_cut [15] (CutN K w w3 R c' (P.set g []) (T.set g []) Br P.length T.length)
      case first =>
        refine begin_t (S := fun U => U.cell? ⟨w.heap.size + 1, 0, none⟩ = some (.slice F R.length cr) ∧ U.cell? ⟨w.heap.size + 1, 1, none⟩ = some (.slice Av c.V.length k1) ∧ U.cell? ⟨w.heap.size + 1, 2, none⟩ = some (.slice D c.N.length k2) ∧ U.cell? ⟨w.heap.size + 1, 3, none⟩ = some (.slice E c.M.length k3) ∧ U.cell? ⟨w.heap.size + 1, 4, none⟩ = some (.slice Pa P.length kp) ∧ U.cell? ⟨w.heap.size + 1, 5, none⟩ = some (.slice Ta T.length kt)) (z := 19) (by kernel_rfl) ?_ (fun hHeld => ?_)
        · exact ALL.out _ HQ3.out.drew
        refine take_y (i := 0) (d := some 42) (v := ?_) rfl (by kernel_rfl) (by kernel_rfl) (by kernel_rfl) (by kernel_rfl) (fun _ _ _ h => h) rfl (by rfl) ?_ (by assumption) ?_
        rotate_left
        · (intro w; go_simp; (try with_reducible rfl))
        try simp only [Act.put, List.setIfInBounds_toArray, List.set_cons_zero, List.set_cons_succ]
        refine take_t (i := 1) (d := some 43) (v := ?_) rfl (by kernel_rfl) (by kernel_rfl) (by kernel_rfl) (by kernel_rfl) (fun _ _ _ h => h) rfl (by rfl) ?_ (by assumption) ?_
        rotate_left
        · (intro w hSw; (try dsimp only at hSw); go_simp; (try with_reducible rfl))
        try simp only [Act.put, List.setIfInBounds_toArray, List.set_cons_zero, List.set_cons_succ]
        refine take_y (i := 2) (d := some 44) (v := ?_) rfl (by kernel_rfl) (by kernel_rfl) (by kernel_rfl) (by kernel_rfl) (fun _ _ _ h => h) rfl (by rfl) ?_ (by assumption) ?_
        rotate_left
        · (intro w; go_simp; (try with_reducible rfl))
        try simp only [Act.put, List.setIfInBounds_toArray, List.set_cons_zero, List.set_cons_succ]
        refine take_t (i := 3) (d := some 45) (v := ?_) rfl (by kernel_rfl) (by kernel_rfl) (by kernel_rfl) (by kernel_rfl) (fun _ _ _ h => h) rfl (by rfl) ?_ (by assumption) ?_
        rotate_left
        · (intro w hSw; (try dsimp only at hSw); go_simp; (try with_reducible rfl))
        try simp only [Act.put, List.setIfInBounds_toArray, List.set_cons_zero, List.set_cons_succ]
        refine take_y (i := 4) (d := some 46) (v := ?_) rfl (by kernel_rfl) (by kernel_rfl) (by kernel_rfl) (by kernel_rfl) (fun _ _ _ h => h) rfl (by rfl) ?_ (by assumption) ?_
        rotate_left
        · (intro w; go_simp; (try with_reducible rfl))
        try simp only [Act.put, List.setIfInBounds_toArray, List.set_cons_zero, List.set_cons_succ]
        refine take_t (i := 5) (d := some 47) (v := ?_) rfl (by kernel_rfl) (by kernel_rfl) (by kernel_rfl) (by kernel_rfl) (fun _ _ _ h => h) rfl (by rfl) ?_ (by assumption) ?_
        rotate_left
        · (intro w hSw; (try dsimp only at hSw); go_simp; (try with_reducible rfl))
        try simp only [Act.put, List.setIfInBounds_toArray, List.set_cons_zero, List.set_cons_succ]
        refine take_y (i := 6) (d := some 48) (v := ?_) rfl (by kernel_rfl) (by kernel_rfl) (by kernel_rfl) (by kernel_rfl) (fun _ _ _ h => h) rfl (by rfl) ?_ (by assumption) ?_
        rotate_left
        · (intro w; go_simp; (try with_reducible rfl))
        try simp only [Act.put, List.setIfInBounds_toArray, List.set_cons_zero, List.set_cons_succ]
        refine take_y (i := 7) (d := some 49) (v := ?_) rfl (by kernel_rfl) (by kernel_rfl) (by kernel_rfl) (by kernel_rfl) (fun _ _ _ h => h) rfl (by rfl) ?_ (by assumption) ?_
        rotate_left
        · (intro w; go_simp; (try with_reducible rfl))
        try simp only [Act.put, List.setIfInBounds_toArray, List.set_cons_zero, List.set_cons_succ]
        refine take_y (i := 9) (d := some 51) (v := ?_) rfl (by kernel_rfl) (by kernel_rfl) (by kernel_rfl) (by kernel_rfl) (fun _ _ _ h => h) rfl (by rfl) ?_ (by assumption) ?_
        rotate_left
        · (intro w; go_simp; (try with_reducible rfl))
        try simp only [Act.put, List.setIfInBounds_toArray, List.set_cons_zero, List.set_cons_succ]
        refine take_t (i := 10) (d := some 52) (v := ?_) rfl (by kernel_rfl) (by kernel_rfl) (by kernel_rfl) (by kernel_rfl) (fun _ _ _ h => h) rfl (by rfl) ?_ (by assumption) ?_
        rotate_left
        · (intro w hSw; (try dsimp only at hSw); go_simp; (try with_reducible rfl))
        try simp only [Act.put, List.setIfInBounds_toArray, List.set_cons_zero, List.set_cons_succ]
        refine take_y (i := 11) (d := some 53) (v := ?_) rfl (by kernel_rfl) (by kernel_rfl) (by kernel_rfl) (by kernel_rfl) (fun _ _ _ h => h) rfl (by rfl) ?_ (by assumption) ?_
        rotate_left
        · (intro w; go_simp; (try with_reducible rfl))
        try simp only [Act.put, List.setIfInBounds_toArray, List.set_cons_zero, List.set_cons_succ]
        refine take_y (i := 13) (d := some 55) (v := ?_) rfl (by kernel_rfl) (by kernel_rfl) (by kernel_rfl) (by kernel_rfl) (fun _ _ _ h => h) rfl (by rfl) ?_ (by assumption) ?_
        rotate_left
        · (intro w; go_simp; (try with_reducible rfl))
        try simp only [Act.put, List.setIfInBounds_toArray, List.set_cons_zero, List.set_cons_succ]
        refine take_t (i := 14) (d := some 56) (v := ?_) rfl (by kernel_rfl) (by kernel_rfl) (by kernel_rfl) (by kernel_rfl) (fun _ _ _ h => h) rfl (by rfl) ?_ (by assumption) ?_
        rotate_left
        · (intro w hSw; (try dsimp only at hSw); go_simp; (try with_reducible rfl))
        try simp only [Act.put, List.setIfInBounds_toArray, List.set_cons_zero, List.set_cons_succ]
        refine take_y (i := 15) (d := some 57) (v := ?_) rfl (by kernel_rfl) (by kernel_rfl) (by kernel_rfl) (by kernel_rfl) (fun _ _ _ h => h) rfl (by rfl) ?_ (by assumption) ?_
        rotate_left
        · (intro w; go_simp; (try with_reducible rfl))
        try simp only [Act.put, List.setIfInBounds_toArray, List.set_cons_zero, List.set_cons_succ]
        refine both_t (i := 8) (j := 18) rfl rfl (by kernel_rfl) (by rfl) (by rfl) (fun K hK => ?_) (fun K hK => ?_)
        · go_simp
          go_at_call 46
          refine (CJ.out w3.drew (HQw.out.trans ((Q.refl w3).drew))).mono ?_
          rintro e w7 ⟨A7, l1, D7, l2, E7, l3, rfl, hc7, q7⟩
          have HC7 := Lib.hid hc7
          have HQ7 := Lib.hid (((Q.refl w3).drew).trans q7)
          have Hq7 := Lib.hid q7
          clear hc7 q7
          have hHeld : ((fun U => U.cell? ⟨w.heap.size + 1, 0, none⟩ = some (.slice F R.length cr) ∧ U.cell? ⟨w.heap.size + 1, 1, none⟩ = some (.slice Av c.V.length k1) ∧ U.cell? ⟨w.heap.size + 1, 2, none⟩ = some (.slice D c.N.length k2) ∧ U.cell? ⟨w.heap.size + 1, 3, none⟩ = some (.slice E c.M.length k3) ∧ U.cell? ⟨w.heap.size + 1, 4, none⟩ = some (.slice Pa P.length kp) ∧ U.cell? ⟨w.heap.size + 1, 5, none⟩ = some (.slice Ta T.length kt)) : World → Prop) _ := ALL.out _ (HQ3.out.trans HQ7.out)
          refine hK.out _ _ (fun _ => hHeld) ?_
          clear hK K
          try simp only [Act.put, List.setIfInBounds_toArray, List.set_cons_zero, List.set_cons_succ]
          refine both_t (i := 12) (j := 18) rfl rfl (by kernel_rfl) (by rfl) (by rfl) (fun K hK => ?_) (fun K hK => ?_)
          · go_simp
            go_at_call 47
            refine (CWPg.out w7 (HQw.out.trans (HQ7.out))).mono ?_
            rintro e w8 ⟨g8, cp8, rfl, -, hk8, q8⟩
            have HK8 := Lib.hid hk8
            have HQ8 := Lib.hid ((HQ7.out).trans q8)
            have Hq8 := Lib.hid q8
            clear hk8 q8
            have hHeld : ((fun U => U.cell? ⟨w.heap.size + 1, 0, none⟩ = some (.slice F R.length cr) ∧ U.cell? ⟨w.heap.size + 1, 1, none⟩ = some (.slice Av c.V.length k1) ∧ U.cell? ⟨w.heap.size + 1, 2, none⟩ = some (.slice D c.N.length k2) ∧ U.cell? ⟨w.heap.size + 1, 3, none⟩ = some (.slice E c.M.length k3) ∧ U.cell? ⟨w.heap.size + 1, 4, none⟩ = some (.slice Pa P.length kp) ∧ U.cell? ⟨w.heap.size + 1, 5, none⟩ = some (.slice Ta T.length kt)) : World → Prop) _ := ALL.out _ (HQ3.out.trans HQ8.out)
            refine hK.out _ _ (fun _ => hHeld) ?_
            clear hK K
            try simp only [Act.put, List.setIfInBounds_toArray, List.set_cons_zero, List.set_cons_succ]
            refine both_t (i := 16) (j := 18) rfl rfl (by kernel_rfl) (by rfl) (by rfl) (fun K hK => ?_) (fun K hK => ?_)
            · go_simp
              go_at_call 47
              refine (CWTg.out w8 (HQw.out.trans (HQ8.out))).mono ?_
              rintro e w9 ⟨g9, cp9, rfl, -, hk9, q9⟩
              have HK9 := Lib.hid hk9
              have HQ9 := Lib.hid ((HQ8.out).trans q9)
              have Hq9 := Lib.hid q9
              clear hk9 q9
              have hHeld : ((fun U => U.cell? ⟨w.heap.size + 1, 0, none⟩ = some (.slice F R.length cr) ∧ U.cell? ⟨w.heap.size + 1, 1, none⟩ = some (.slice Av c.V.length k1) ∧ U.cell? ⟨w.heap.size + 1, 2, none⟩ = some (.slice D c.N.length k2) ∧ U.cell? ⟨w.heap.size + 1, 3, none⟩ = some (.slice E c.M.length k3) ∧ U.cell? ⟨w.heap.size + 1, 4, none⟩ = some (.slice Pa P.length kp) ∧ U.cell? ⟨w.heap.size + 1, 5, none⟩ = some (.slice Ta T.length kt)) : World → Prop) _ := ALL.out _ (HQ3.out.trans HQ9.out)
              refine hK.out _ _ (fun _ => hHeld) ?_
              clear hK K
              try simp only [Act.put, List.setIfInBounds_toArray, List.set_cons_zero, List.set_cons_succ]
              refine take_y (i := 17) (d := some 59) (v := ?_) rfl (by kernel_rfl) (by kernel_rfl) (by kernel_rfl) (by kernel_rfl) (fun _ _ _ h => h) rfl (by rfl) ?_ (by assumption) ?_
              rotate_left
              · (intro w; go_simp; (try with_reducible rfl))
              try simp only [Act.put, List.setIfInBounds_toArray, List.set_cons_zero, List.set_cons_succ]
              refine call_t (i := 18) rfl (by kernel_rfl) (by rfl) (fun K hK => ?_)
              have BA0 : Hid (BoxW (w9.alloc (Obj.cells #[.slice none 0 0, .slice none 0 0, .slice none 0 0, .slice none 0 0, .slice none 0 0, .slice none 0 0] 31)) w9.heap.size (.slice none 0 0) (.slice none 0 0) (.slice none 0 0) (.slice none 0 0) (.slice none 0 0) (.slice none 0 0)) := Lib.hid (BoxW.new w9 (.slice none 0 0) (.slice none 0 0) (.slice none 0 0) (.slice none 0 0) (.slice none 0 0) (.slice none 0 0) 31)
              have QA0 : Hid (Q w3 (w9.alloc (Obj.cells #[.slice none 0 0, .slice none 0 0, .slice none 0 0, .slice none 0 0, .slice none 0 0, .slice none 0 0] 31))) := Lib.hid ((HQ9.out).alloc (Obj.cells #[.slice none 0 0, .slice none 0 0, .slice none 0 0, .slice none 0 0, .slice none 0 0, .slice none 0 0] 31))
              have QU0 : Hid (Q w9 (w9.alloc (Obj.cells #[.slice none 0 0, .slice none 0 0, .slice none 0 0, .slice none 0 0, .slice none 0 0, .slice none 0 0] 31))) := Lib.hid ((Q.refl _).alloc (Obj.cells #[.slice none 0 0, .slice none 0 0, .slice none 0 0, .slice none 0 0, .slice none 0 0, .slice none 0 0] 31))
              have SA0 : Hid ((w9.alloc (Obj.cells #[.slice none 0 0, .slice none 0 0, .slice none 0 0, .slice none 0 0, .slice none 0 0, .slice none 0 0] 31)).heap.size = w9.heap.size + 1) := by unfold Hid; simp
              go_simp
              have hHeld : ((fun U => U.cell? ⟨w.heap.size + 1, 0, none⟩ = some (.slice F R.length cr) ∧ U.cell? ⟨w.heap.size + 1, 1, none⟩ = some (.slice Av c.V.length k1) ∧ U.cell? ⟨w.heap.size + 1, 2, none⟩ = some (.slice D c.N.length k2) ∧ U.cell? ⟨w.heap.size + 1, 3, none⟩ = some (.slice E c.M.length k3) ∧ U.cell? ⟨w.heap.size + 1, 4, none⟩ = some (.slice Pa P.length kp) ∧ U.cell? ⟨w.heap.size + 1, 5, none⟩ = some (.slice Ta T.length kt)) : World → Prop) _ := ALL.out _ (HQ3.out.trans QA0.out)
              refine hK.out _ _ (fun _ => hHeld) ?_
              clear hK K
              try simp only [Act.put, List.setIfInBounds_toArray, List.set_cons_zero, List.set_cons_succ]
              generalize w9.alloc (Obj.cells #[.slice none 0 0, .slice none 0 0, .slice none 0 0, .slice none 0 0, .slice none 0 0, .slice none 0 0] 31) = wA at *
              have BE := Lib.hid (BA0.out.q (Q.refl _))
              have hx9 := BE.out
              have x0 := hx9.c.c0
              have xf0 := hx9.f0
              have x1 := hx9.c.c1
              have xf1 := hx9.f1
              have x2 := hx9.c.c2
              have xf2 := hx9.f2
              have x3 := hx9.c.c3
              have xf3 := hx9.f3
              have x4 := hx9.c.c4
              have xf4 := hx9.f4
              have x5 := hx9.c.c5
              have xf5 := hx9.f5
              clear hx9
              refine call_t (i := 19) rfl (by kernel_rfl) (by rfl) (fun K hK => ?_)
              go_simp
              refine hK.out _ _ (fun hz => by cases hz) ?_
              clear hK K
              try simp only [Act.put]
              refine done_t (by kernel_rfl) ?_ _
              clear x0 xf0 x1 xf1 x2 xf2 x3 xf3 x4 xf4 x5 xf5 b0 b1 b2 b3 b4 b5
              go_wp2_with fail
              go_meet
              have hBr := HBr.out
              have hW3 := HW3.out
              have hSA := SA0.out
              have hqa := QA0.out.size
              have hs_w7 : w3.heap.size ≤ w7.heap.size := ((Q.refl w3).drew.trans Hq7.out).size
              have hs_w8 : w7.heap.size ≤ w8.heap.size := Hq8.out.size
              have hs_w9 : w8.heap.size ≤ w9.heap.size := Hq9.out.size
              have hs_wA : w9.heap.size ≤ wA.heap.size := QU0.out.size
              exact cutn (c' := c') (P := P) (T := T) HW3.out HBr.out HKw.out HG.out.r (CR.ahead (U0 := w3.drew) HC7.out (Nat.le_refl _) (((Hq8.out).trans Hq9.out).trans QU0.out) (.inl (by omega))) (KeysP.behind (U0 := w7) HK8.out (by omega) ((Hq9.out).trans QU0.out) (.inl (by omega))) (KeysP.behind (U0 := w8) HK9.out (by omega) (QU0.out) (.inl (by omega))) HQw.out ((((((Q.refl w3).drew.trans Hq7.out)).trans Hq8.out).trans Hq9.out).trans QU0.out) BE.out (by omega)
            · have BA0 : Hid (BoxW (w8.alloc (Obj.cells #[.slice none 0 0, .slice none 0 0, .slice none 0 0, .slice none 0 0, .slice none 0 0, .slice none 0 0] 31)) w8.heap.size (.slice none 0 0) (.slice none 0 0) (.slice none 0 0) (.slice none 0 0) (.slice none 0 0) (.slice none 0 0)) := Lib.hid (BoxW.new w8 (.slice none 0 0) (.slice none 0 0) (.slice none 0 0) (.slice none 0 0) (.slice none 0 0) (.slice none 0 0) 31)
              have QA0 : Hid (Q w3 (w8.alloc (Obj.cells #[.slice none 0 0, .slice none 0 0, .slice none 0 0, .slice none 0 0, .slice none 0 0, .slice none 0 0] 31))) := Lib.hid ((HQ8.out).alloc (Obj.cells #[.slice none 0 0, .slice none 0 0, .slice none 0 0, .slice none 0 0, .slice none 0 0, .slice none 0 0] 31))
              have QU0 : Hid (Q w8 (w8.alloc (Obj.cells #[.slice none 0 0, .slice none 0 0, .slice none 0 0, .slice none 0 0, .slice none 0 0, .slice none 0 0] 31))) := Lib.hid ((Q.refl _).alloc (Obj.cells #[.slice none 0 0, .slice none 0 0, .slice none 0 0, .slice none 0 0, .slice none 0 0, .slice none 0 0] 31))
              have SA0 : Hid ((w8.alloc (Obj.cells #[.slice none 0 0, .slice none 0 0, .slice none 0 0, .slice none 0 0, .slice none 0 0, .slice none 0 0] 31)).heap.size = w8.heap.size + 1) := by unfold Hid; simp
              go_simp
              have hHeld : ((fun U => U.cell? ⟨w.heap.size + 1, 0, none⟩ = some (.slice F R.length cr) ∧ U.cell? ⟨w.heap.size + 1, 1, none⟩ = some (.slice Av c.V.length k1) ∧ U.cell? ⟨w.heap.size + 1, 2, none⟩ = some (.slice D c.N.length k2) ∧ U.cell? ⟨w.heap.size + 1, 3, none⟩ = some (.slice E c.M.length k3) ∧ U.cell? ⟨w.heap.size + 1, 4, none⟩ = some (.slice Pa P.length kp) ∧ U.cell? ⟨w.heap.size + 1, 5, none⟩ = some (.slice Ta T.length kt)) : World → Prop) _ := ALL.out _ (HQ3.out.trans QA0.out)
              refine hK.out _ _ (fun _ => hHeld) ?_
              clear hK K
              try simp only [Act.put, List.setIfInBounds_toArray, List.set_cons_zero, List.set_cons_succ]
              generalize w8.alloc (Obj.cells #[.slice none 0 0, .slice none 0 0, .slice none 0 0, .slice none 0 0, .slice none 0 0, .slice none 0 0] 31) = wA at *
              refine call_t (i := 16) rfl (by kernel_rfl) (by rfl) (fun K hK => ?_)
              go_simp
              go_at_call 47
              refine (CWTg.out wA (HQw.out.trans (QA0.out))).mono ?_
              rintro e w9 ⟨g9, cp9, rfl, -, hk9, q9⟩
              have HK9 := Lib.hid hk9
              have HQ9 := Lib.hid ((QA0.out).trans q9)
              have Hq9 := Lib.hid q9
              clear hk9 q9
              have hHeld : ((fun U => U.cell? ⟨w.heap.size + 1, 0, none⟩ = some (.slice F R.length cr) ∧ U.cell? ⟨w.heap.size + 1, 1, none⟩ = some (.slice Av c.V.length k1) ∧ U.cell? ⟨w.heap.size + 1, 2, none⟩ = some (.slice D c.N.length k2) ∧ U.cell? ⟨w.heap.size + 1, 3, none⟩ = some (.slice E c.M.length k3) ∧ U.cell? ⟨w.heap.size + 1, 4, none⟩ = some (.slice Pa P.length kp) ∧ U.cell? ⟨w.heap.size + 1, 5, none⟩ = some (.slice Ta T.length kt)) : World → Prop) _ := ALL.out _ (HQ3.out.trans HQ9.out)
              refine hK.out _ _ (fun _ => hHeld) ?_
              clear hK K
              try simp only [Act.put, List.setIfInBounds_toArray, List.set_cons_zero, List.set_cons_succ]
              refine take_y (i := 17) (d := some 59) (v := ?_) rfl (by kernel_rfl) (by kernel_rfl) (by kernel_rfl) (by kernel_rfl) (fun _ _ _ h => h) rfl (by rfl) ?_ (by assumption) ?_
              rotate_left
              · (intro w; go_simp; (try with_reducible rfl))
              try simp only [Act.put, List.setIfInBounds_toArray, List.set_cons_zero, List.set_cons_succ]
              have BE := Lib.hid (BA0.out.q (Hq9.out))
              have hx9 := BE.out
              have x0 := hx9.c.c0
              have xf0 := hx9.f0
              have x1 := hx9.c.c1
              have xf1 := hx9.f1
              have x2 := hx9.c.c2
              have xf2 := hx9.f2
              have x3 := hx9.c.c3
              have xf3 := hx9.f3
              have x4 := hx9.c.c4
              have xf4 := hx9.f4
              have x5 := hx9.c.c5
              have xf5 := hx9.f5
              clear hx9
              refine call_t (i := 19) rfl (by kernel_rfl) (by rfl) (fun K hK => ?_)
              go_simp
              refine hK.out _ _ (fun hz => by cases hz) ?_
              clear hK K
              try simp only [Act.put]
              refine done_t (by kernel_rfl) ?_ _
              clear x0 xf0 x1 xf1 x2 xf2 x3 xf3 x4 xf4 x5 xf5 b0 b1 b2 b3 b4 b5
              go_wp2_with fail
              go_meet
              have hBr := HBr.out
              have hW3 := HW3.out
              have hSA := SA0.out
              have hqa := QA0.out.size
              have hs_w7 : w3.heap.size ≤ w7.heap.size := ((Q.refl w3).drew.trans Hq7.out).size
              have hs_w8 : w7.heap.size ≤ w8.heap.size := Hq8.out.size
              have hs_wA : w8.heap.size ≤ wA.heap.size := QU0.out.size
              have hs_w9 : wA.heap.size ≤ w9.heap.size := Hq9.out.size
              exact cutn (c' := c') (P := P) (T := T) HW3.out HBr.out HKw.out HG.out.r (CR.ahead (U0 := w3.drew) HC7.out (Nat.le_refl _) (((Hq8.out).trans QU0.out).trans Hq9.out) (.inl (by omega))) (KeysP.behind (U0 := w7) HK8.out (by omega) ((QU0.out).trans Hq9.out) (.inl (by omega))) (KeysP.behind (U0 := wA) HK9.out (by omega) (Q.refl _) (.inr ⟨by omega, fun b hb => by have := HKw.out b hb; omega⟩)) HQw.out ((((((Q.refl w3).drew.trans Hq7.out)).trans Hq8.out).trans QU0.out).trans Hq9.out) BE.out (by omega)
          · have BA0 : Hid (BoxW (w7.alloc (Obj.cells #[.slice none 0 0, .slice none 0 0, .slice none 0 0, .slice none 0 0, .slice none 0 0, .slice none 0 0] 31)) w7.heap.size (.slice none 0 0) (.slice none 0 0) (.slice none 0 0) (.slice none 0 0) (.slice none 0 0) (.slice none 0 0)) := Lib.hid (BoxW.new w7 (.slice none 0 0) (.slice none 0 0) (.slice none 0 0) (.slice none 0 0) (.slice none 0 0) (.slice none 0 0) 31)
            have QA0 : Hid (Q w3 (w7.alloc (Obj.cells #[.slice none 0 0, .slice none 0 0, .slice none 0 0, .slice none 0 0, .slice none 0 0, .slice none 0 0] 31))) := Lib.hid ((HQ7.out).alloc (Obj.cells #[.slice none 0 0, .slice none 0 0, .slice none 0 0, .slice none 0 0, .slice none 0 0, .slice none 0 0] 31))
            have QU0 : Hid (Q w7 (w7.alloc (Obj.cells #[.slice none 0 0, .slice none 0 0, .slice none 0 0, .slice none 0 0, .slice none 0 0, .slice none 0 0] 31))) := Lib.hid ((Q.refl _).alloc (Obj.cells #[.slice none 0 0, .slice none 0 0, .slice none 0 0, .slice none 0 0, .slice none 0 0, .slice none 0 0] 31))
            have SA0 : Hid ((w7.alloc (Obj.cells #[.slice none 0 0, .slice none 0 0, .slice none 0 0, .slice none 0 0, .slice none 0 0, .slice none 0 0] 31)).heap.size = w7.heap.size + 1) := by unfold Hid; simp
            go_simp
            have hHeld : ((fun U => U.cell? ⟨w.heap.size + 1, 0, none⟩ = some (.slice F R.length cr) ∧ U.cell? ⟨w.heap.size + 1, 1, none⟩ = some (.slice Av c.V.length k1) ∧ U.cell? ⟨w.heap.size + 1, 2, none⟩ = some (.slice D c.N.length k2) ∧ U.cell? ⟨w.heap.size + 1, 3, none⟩ = some (.slice E c.M.length k3) ∧ U.cell? ⟨w.heap.size + 1, 4, none⟩ = some (.slice Pa P.length kp) ∧ U.cell? ⟨w.heap.size + 1, 5, none⟩ = some (.slice Ta T.length kt)) : World → Prop) _ := ALL.out _ (HQ3.out.trans QA0.out)
            refine hK.out _ _ (fun _ => hHeld) ?_
            clear hK K
            try simp only [Act.put, List.setIfInBounds_toArray, List.set_cons_zero, List.set_cons_succ]
            generalize w7.alloc (Obj.cells #[.slice none 0 0, .slice none 0 0, .slice none 0 0, .slice none 0 0, .slice none 0 0, .slice none 0 0] 31) = wA at *
            refine call_t (i := 12) rfl (by kernel_rfl) (by rfl) (fun K hK => ?_)
            go_simp
            go_at_call 47
            refine (CWPg.out wA (HQw.out.trans (QA0.out))).mono ?_
            rintro e w8 ⟨g8, cp8, rfl, -, hk8, q8⟩
            have HK8 := Lib.hid hk8
            have HQ8 := Lib.hid ((QA0.out).trans q8)
            have Hq8 := Lib.hid q8
            clear hk8 q8
            have hHeld : ((fun U => U.cell? ⟨w.heap.size + 1, 0, none⟩ = some (.slice F R.length cr) ∧ U.cell? ⟨w.heap.size + 1, 1, none⟩ = some (.slice Av c.V.length k1) ∧ U.cell? ⟨w.heap.size + 1, 2, none⟩ = some (.slice D c.N.length k2) ∧ U.cell? ⟨w.heap.size + 1, 3, none⟩ = some (.slice E c.M.length k3) ∧ U.cell? ⟨w.heap.size + 1, 4, none⟩ = some (.slice Pa P.length kp) ∧ U.cell? ⟨w.heap.size + 1, 5, none⟩ = some (.slice Ta T.length kt)) : World → Prop) _ := ALL.out _ (HQ3.out.trans HQ8.out)
            refine hK.out _ _ (fun _ => hHeld) ?_
            clear hK K
            try simp only [Act.put, List.setIfInBounds_toArray, List.set_cons_zero, List.set_cons_succ]
            refine call_t (i := 16) rfl (by kernel_rfl) (by rfl) (fun K hK => ?_)
            go_simp
            go_at_call 47
            refine (CWTg.out w8 (HQw.out.trans (HQ8.out))).mono ?_
            rintro e w9 ⟨g9, cp9, rfl, -, hk9, q9⟩
            have HK9 := Lib.hid hk9
            have HQ9 := Lib.hid ((HQ8.out).trans q9)
            have Hq9 := Lib.hid q9
            clear hk9 q9
            have hHeld : ((fun U => U.cell? ⟨w.heap.size + 1, 0, none⟩ = some (.slice F R.length cr) ∧ U.cell? ⟨w.heap.size + 1, 1, none⟩ = some (.slice Av c.V.length k1) ∧ U.cell? ⟨w.heap.size + 1, 2, none⟩ = some (.slice D c.N.length k2) ∧ U.cell? ⟨w.heap.size + 1, 3, none⟩ = some (.slice E c.M.length k3) ∧ U.cell? ⟨w.heap.size + 1, 4, none⟩ = some (.slice Pa P.length kp) ∧ U.cell? ⟨w.heap.size + 1, 5, none⟩ = some (.slice Ta T.length kt)) : World → Prop) _ := ALL.out _ (HQ3.out.trans HQ9.out)
            refine hK.out _ _ (fun _ => hHeld) ?_
            clear hK K
            try simp only [Act.put, List.setIfInBounds_toArray, List.set_cons_zero, List.set_cons_succ]
            refine take_y (i := 17) (d := some 59) (v := ?_) rfl (by kernel_rfl) (by kernel_rfl) (by kernel_rfl) (by kernel_rfl) (fun _ _ _ h => h) rfl (by rfl) ?_ (by assumption) ?_
            rotate_left
            · (intro w; go_simp; (try with_reducible rfl))
            try simp only [Act.put, List.setIfInBounds_toArray, List.set_cons_zero, List.set_cons_succ]
            have BE := Lib.hid (BA0.out.q ((Hq8.out).trans Hq9.out))
            have hx9 := BE.out
            have x0 := hx9.c.c0
            have xf0 := hx9.f0
            have x1 := hx9.c.c1
            have xf1 := hx9.f1
            have x2 := hx9.c.c2
            have xf2 := hx9.f2
            have x3 := hx9.c.c3
            have xf3 := hx9.f3
            have x4 := hx9.c.c4
            have xf4 := hx9.f4
            have x5 := hx9.c.c5
            have xf5 := hx9.f5
            clear hx9
            refine call_t (i := 19) rfl (by kernel_rfl) (by rfl) (fun K hK => ?_)
            go_simp
            refine hK.out _ _ (fun hz => by cases hz) ?_
            clear hK K
            try simp only [Act.put]
            refine done_t (by kernel_rfl) ?_ _
            clear x0 xf0 x1 xf1 x2 xf2 x3 xf3 x4 xf4 x5 xf5 b0 b1 b2 b3 b4 b5
            go_wp2_with fail
            go_meet
            have hBr := HBr.out
            have hW3 := HW3.out
            have hSA := SA0.out
            have hqa := QA0.out.size
            have hs_w7 : w3.heap.size ≤ w7.heap.size := ((Q.refl w3).drew.trans Hq7.out).size
            have hs_wA : w7.heap.size ≤ wA.heap.size := QU0.out.size
            have hs_w8 : wA.heap.size ≤ w8.heap.size := Hq8.out.size
            have hs_w9 : w8.heap.size ≤ w9.heap.size := Hq9.out.size
            exact cutn (c' := c') (P := P) (T := T) HW3.out HBr.out HKw.out HG.out.r (CR.ahead (U0 := w3.drew) HC7.out (Nat.le_refl _) (((QU0.out).trans Hq8.out).trans Hq9.out) (.inl (by omega))) (KeysP.behind (U0 := wA) HK8.out (by omega) (Hq9.out) (.inr ⟨by omega, fun b hb => by have := HKw.out b hb; omega⟩)) (KeysP.behind (U0 := w8) HK9.out (by omega) (Q.refl _) (.inr ⟨by omega, fun b hb => by have := HKw.out b hb; omega⟩)) HQw.out ((((((Q.refl w3).drew.trans Hq7.out)).trans QU0.out).trans Hq8.out).trans Hq9.out) BE.out (by omega)
        · have BA0 : Hid (BoxW (w3.alloc (Obj.cells #[.slice none 0 0, .slice none 0 0, .slice none 0 0, .slice none 0 0, .slice none 0 0, .slice none 0 0] 31)).drew w3.heap.size (.slice none 0 0) (.slice none 0 0) (.slice none 0 0) (.slice none 0 0) (.slice none 0 0) (.slice none 0 0)) := Lib.hid ((BoxW.new w3 (.slice none 0 0) (.slice none 0 0) (.slice none 0 0) (.slice none 0 0) (.slice none 0 0) (.slice none 0 0) 31).q (Q.refl _).drew)
          have QA0 : Hid (Q w3 (w3.alloc (Obj.cells #[.slice none 0 0, .slice none 0 0, .slice none 0 0, .slice none 0 0, .slice none 0 0, .slice none 0 0] 31)).drew) := Lib.hid ((Q.refl w3).alloc (Obj.cells #[.slice none 0 0, .slice none 0 0, .slice none 0 0, .slice none 0 0, .slice none 0 0, .slice none 0 0] 31)).drew
          have QU0 : Hid (Q w3 (w3.alloc (Obj.cells #[.slice none 0 0, .slice none 0 0, .slice none 0 0, .slice none 0 0, .slice none 0 0, .slice none 0 0] 31)).drew) := Lib.hid ((Q.refl w3).alloc (Obj.cells #[.slice none 0 0, .slice none 0 0, .slice none 0 0, .slice none 0 0, .slice none 0 0, .slice none 0 0] 31)).drew
          have SA0 : Hid ((w3.alloc (Obj.cells #[.slice none 0 0, .slice none 0 0, .slice none 0 0, .slice none 0 0, .slice none 0 0, .slice none 0 0] 31)).drew.heap.size = w3.heap.size + 1) := by unfold Hid; show (w3.alloc (Obj.cells #[.slice none 0 0, .slice none 0 0, .slice none 0 0, .slice none 0 0, .slice none 0 0, .slice none 0 0] 31)).heap.size = _; simp
          go_simp
          have hHeld : ((fun U => U.cell? ⟨w.heap.size + 1, 0, none⟩ = some (.slice F R.length cr) ∧ U.cell? ⟨w.heap.size + 1, 1, none⟩ = some (.slice Av c.V.length k1) ∧ U.cell? ⟨w.heap.size + 1, 2, none⟩ = some (.slice D c.N.length k2) ∧ U.cell? ⟨w.heap.size + 1, 3, none⟩ = some (.slice E c.M.length k3) ∧ U.cell? ⟨w.heap.size + 1, 4, none⟩ = some (.slice Pa P.length kp) ∧ U.cell? ⟨w.heap.size + 1, 5, none⟩ = some (.slice Ta T.length kt)) : World → Prop) _ := ALL.out _ (HQ3.out.trans QA0.out)
          refine hK.out _ _ (fun _ => hHeld) ?_
          clear hK K
          try simp only [Act.put, List.setIfInBounds_toArray, List.set_cons_zero, List.set_cons_succ]
          generalize (w3.alloc (Obj.cells #[.slice none 0 0, .slice none 0 0, .slice none 0 0, .slice none 0 0, .slice none 0 0, .slice none 0 0] 31)).drew = wA at *
          refine call_t (i := 8) rfl (by kernel_rfl) (by rfl) (fun K hK => ?_)
          go_simp
          go_at_call 46
          refine (CJ.out wA (HQw.out.trans (QA0.out))).mono ?_
          rintro e w7 ⟨A7, l1, D7, l2, E7, l3, rfl, hc7, q7⟩
          have HC7 := Lib.hid hc7
          have HQ7 := Lib.hid ((QA0.out).trans q7)
          have Hq7 := Lib.hid q7
          clear hc7 q7
          have hHeld : ((fun U => U.cell? ⟨w.heap.size + 1, 0, none⟩ = some (.slice F R.length cr) ∧ U.cell? ⟨w.heap.size + 1, 1, none⟩ = some (.slice Av c.V.length k1) ∧ U.cell? ⟨w.heap.size + 1, 2, none⟩ = some (.slice D c.N.length k2) ∧ U.cell? ⟨w.heap.size + 1, 3, none⟩ = some (.slice E c.M.length k3) ∧ U.cell? ⟨w.heap.size + 1, 4, none⟩ = some (.slice Pa P.length kp) ∧ U.cell? ⟨w.heap.size + 1, 5, none⟩ = some (.slice Ta T.length kt)) : World → Prop) _ := ALL.out _ (HQ3.out.trans HQ7.out)
          refine hK.out _ _ (fun _ => hHeld) ?_
          clear hK K
          try simp only [Act.put, List.setIfInBounds_toArray, List.set_cons_zero, List.set_cons_succ]
          refine call_t (i := 12) rfl (by kernel_rfl) (by rfl) (fun K hK => ?_)
          go_simp
          go_at_call 47
          refine (CWPg.out w7 (HQw.out.trans (HQ7.out))).mono ?_
          rintro e w8 ⟨g8, cp8, rfl, -, hk8, q8⟩
          have HK8 := Lib.hid hk8
          have HQ8 := Lib.hid ((HQ7.out).trans q8)
          have Hq8 := Lib.hid q8
          clear hk8 q8
          have hHeld : ((fun U => U.cell? ⟨w.heap.size + 1, 0, none⟩ = some (.slice F R.length cr) ∧ U.cell? ⟨w.heap.size + 1, 1, none⟩ = some (.slice Av c.V.length k1) ∧ U.cell? ⟨w.heap.size + 1, 2, none⟩ = some (.slice D c.N.length k2) ∧ U.cell? ⟨w.heap.size + 1, 3, none⟩ = some (.slice E c.M.length k3) ∧ U.cell? ⟨w.heap.size + 1, 4, none⟩ = some (.slice Pa P.length kp) ∧ U.cell? ⟨w.heap.size + 1, 5, none⟩ = some (.slice Ta T.length kt)) : World → Prop) _ := ALL.out _ (HQ3.out.trans HQ8.out)
          refine hK.out _ _ (fun _ => hHeld) ?_
          clear hK K
          try simp only [Act.put, List.setIfInBounds_toArray, List.set_cons_zero, List.set_cons_succ]
          refine call_t (i := 16) rfl (by kernel_rfl) (by rfl) (fun K hK => ?_)
          go_simp
          go_at_call 47
          refine (CWTg.out w8 (HQw.out.trans (HQ8.out))).mono ?_
          rintro e w9 ⟨g9, cp9, rfl, -, hk9, q9⟩
          have HK9 := Lib.hid hk9
          have HQ9 := Lib.hid ((HQ8.out).trans q9)
          have Hq9 := Lib.hid q9
          clear hk9 q9
          have hHeld : ((fun U => U.cell? ⟨w.heap.size + 1, 0, none⟩ = some (.slice F R.length cr) ∧ U.cell? ⟨w.heap.size + 1, 1, none⟩ = some (.slice Av c.V.length k1) ∧ U.cell? ⟨w.heap.size + 1, 2, none⟩ = some (.slice D c.N.length k2) ∧ U.cell? ⟨w.heap.size + 1, 3, none⟩ = some (.slice E c.M.length k3) ∧ U.cell? ⟨w.heap.size + 1, 4, none⟩ = some (.slice Pa P.length kp) ∧ U.cell? ⟨w.heap.size + 1, 5, none⟩ = some (.slice Ta T.length kt)) : World → Prop) _ := ALL.out _ (HQ3.out.trans HQ9.out)
          refine hK.out _ _ (fun _ => hHeld) ?_
          clear hK K
          try simp only [Act.put, List.setIfInBounds_toArray, List.set_cons_zero, List.set_cons_succ]
          refine take_y (i := 17) (d := some 59) (v := ?_) rfl (by kernel_rfl) (by kernel_rfl) (by kernel_rfl) (by kernel_rfl) (fun _ _ _ h => h) rfl (by rfl) ?_ (by assumption) ?_
          rotate_left
          · (intro w; go_simp; (try with_reducible rfl))
          try simp only [Act.put, List.setIfInBounds_toArray, List.set_cons_zero, List.set_cons_succ]
          have BE := Lib.hid (BA0.out.q (((Hq7.out).trans Hq8.out).trans Hq9.out))
          have hx9 := BE.out
          have x0 := hx9.c.c0
          have xf0 := hx9.f0
          have x1 := hx9.c.c1
          have xf1 := hx9.f1
          have x2 := hx9.c.c2
          have xf2 := hx9.f2
          have x3 := hx9.c.c3
          have xf3 := hx9.f3
          have x4 := hx9.c.c4
          have xf4 := hx9.f4
          have x5 := hx9.c.c5
          have xf5 := hx9.f5
          clear hx9
          refine call_t (i := 19) rfl (by kernel_rfl) (by rfl) (fun K hK => ?_)
          go_simp
          refine hK.out _ _ (fun hz => by cases hz) ?_
          clear hK K
          try simp only [Act.put]
          refine done_t (by kernel_rfl) ?_ _
          clear x0 xf0 x1 xf1 x2 xf2 x3 xf3 x4 xf4 x5 xf5 b0 b1 b2 b3 b4 b5
          go_wp2_with fail
          go_meet
          have hBr := HBr.out
          have hW3 := HW3.out
          have hSA := SA0.out
          have hqa := QA0.out.size
          have hs_wA : w3.heap.size ≤ wA.heap.size := QU0.out.size
          have hs_w7 : wA.heap.size ≤ w7.heap.size := Hq7.out.size
          have hs_w8 : w7.heap.size ≤ w8.heap.size := Hq8.out.size
          have hs_w9 : w8.heap.size ≤ w9.heap.size := Hq9.out.size
          exact cutn (c' := c') (P := P) (T := T) HW3.out HBr.out HKw.out HG.out.r (CR.ahead (U0 := wA) HC7.out (by omega) ((Hq8.out).trans Hq9.out) (.inr ⟨by omega, fun b hb => by have := HKw.out b hb; omega⟩)) (KeysP.behind (U0 := w7) HK8.out (by omega) (Hq9.out) (.inr ⟨by omega, fun b hb => by have := HKw.out b hb; omega⟩)) (KeysP.behind (U0 := w8) HK9.out (by omega) (Q.refl _) (.inr ⟨by omega, fun b hb => by have := HKw.out b hb; omega⟩)) HQw.out ((((QU0.out).trans Hq7.out).trans Hq8.out).trans Hq9.out) BE.out (by omega)
      case rest =>
        obtain ⟨B, F2, A2, D2, E2, Pa2, Ta2, cr2, l1, l2, l3, kp2, kt2, rfl, hb2, hg2, hqn⟩ := hcut
        have HB2 := Lib.hid hb2
        have HGn := Lib.hid hg2
        have HQn := Lib.hid hqn
        clear hb2 hg2 hqn CJ CWPg CWTg b0 b1 b2 b3 b4 b5 ALL
        have hPl := HgP.out.1
        have hTl := HgP.out.2
        obtain ⟨pad, hpa, -, hpb, hpc⟩ := HG.out.p (by omega)
        obtain ⟨ra, rc, -, hr0, hrI⟩ := hpc g P[g] (List.getElem?_eq_getElem hPl)
        obtain ⟨tad, hta, -, htb, htc⟩ := HG.out.t (by omega)
        obtain ⟨sa, sc, -, hs0, hsI⟩ := htc g T[g] (List.getElem?_eq_getElem hTl)
        subst hpa hta
        obtain ⟨pr, hpr⟩ : ∃ pr, pr = P[g] := ⟨_, rfl⟩
        obtain ⟨tr, htr⟩ : ∃ tr, tr = T[g] := ⟨_, rfl⟩
        have HPr : Hid (rowG P g = pr) := by unfold Hid rowG; rw [rows_at hPl, hpr]
        have HTr : Hid (rowG T g = tr) := by unfold Hid rowG; rw [rows_at hTl, htr]
        have hlP : pr.length ≤ 1000000 := by rw [hpr]; exact HsP.out _ (List.getElem_mem _)
        have hlT : tr.length ≤ 1000000 := by rw [htr]; exact HsT.out _ (List.getElem_mem _)
        have HlP := Lib.hid hlP
        have HlT := Lib.hid hlT
        rw [← hpr] at hr0 hrI
        rw [← htr] at hs0 hsI
        have HPIb := Lib.hid hpb
        have HPIc := Lib.hid hr0
        have HPIi := Lib.hid hrI
        have HTIb := Lib.hid htb
        have HTIc := Lib.hid hs0
        have HTIi := Lib.hid hsI
        have j0 : (0 : Int) ≤ (g : Int) := Int.natCast_nonneg _
        have j1 : (g : Int) < (P.length : Int) := by omega
        have j2 : (g : Int) < (T.length : Int) := by omega
        clear hpb hpc hr0 hrI htb htc hs0 hsI hpr htr hPl hTl
        have ALS : Hid (∀ U, Q wc U → U.cell? ⟨w.heap.size, 0, none⟩ = some (.slice A ks.length ca) ∧ U.cell? ⟨w.heap.size, 1, none⟩ = some (.slice S ms d) ∧ U.cell? ⟨w.heap.size + 1, 4, none⟩ = some (.slice (some pad) P.length kp) ∧ U.cell? ⟨B, 0, none⟩ = some (.slice F2 R.length cr2) ∧ U.cell? ⟨B, 1, none⟩ = some (.slice A2 c'.V.length l1) ∧ U.cell? ⟨B, 2, none⟩ = some (.slice D2 c'.N.length l2) ∧ U.cell? ⟨B, 3, none⟩ = some (.slice E2 c'.M.length l3) ∧ U.cell? ⟨B, 4, none⟩ = some (.slice Pa2 P.length kp2) ∧ U.cell? ⟨B, 5, none⟩ = some (.slice Ta2 T.length kt2) ∧ U.cell? (pad.add g) = some (.slice ra pr.length rc)) := fun U q => by
          have h1 := HBa.out.q ((HQ3.out.trans HQn.out).trans q)
          have h2 := HBg.out.q ((HQ3.out.trans HQn.out).trans q)
          have h3 := HB2.out.q q
          exact ⟨h1.c0, h1.c1, h2.c4, h3.c0, h3.c1, h3.c2, h3.c3, h3.c4, h3.c5, (((HQw.out.trans HQn.out).trans q).cell (p := pad.add g) (by rw [Tr.add_block]; exact HPIb.out)).trans HPIc.out⟩
        go_wp2_with fail
        go_loopw [16, 17] (fun ov i wr => ∃ (k : Nat) (v : Value), k ≤ pr.length ∧ i = .int .i64 k ∧ v = ov ∧ Hid (wr.ownsRow wc.heap.size 48 2 v (k) (cellsQ ((pr.take k).map fun z => (repV ks c'.V z, atV ks f)))) ∧ Hid (Q wc wr)) (fun _ i _ => pr.length - (intOf i).toNat)
        case atStart => exact ⟨0, _, Nat.zero_le _, rfl, rfl, Lib.hid (World.ownsRow_nil _ _ _ _), Lib.hid (Q.refl _)⟩
        case round =>
          obtain ⟨k, v, hkl, rfl, rfl, HR, HQr⟩ := hrel
          obtain ⟨z0, z1, z2, z3, z4, z5, z6, z7, z8, z9⟩ := ALS.out wr HQr.out
          by_cases hlt : k < pr.length
          · obtain ⟨rad, hra, hrb, hr0⟩ := (Tr.Rds.int_at (ints_rds (HPIi.out.ints)) hlt)
            subst hra
            have hrb2 : (rad.add k).block < w.heap.size := by rw [Tr.add_block]; exact hrb
            have ALL2 : Hid (∀ U, Q wc U → U.cell? ⟨w.heap.size, 0, none⟩ = some (.slice A ks.length ca) ∧ U.cell? ⟨w.heap.size, 1, none⟩ = some (.slice S ms d) ∧ U.cell? ⟨w.heap.size + 1, 4, none⟩ = some (.slice (some pad) P.length kp) ∧ U.cell? ⟨B, 0, none⟩ = some (.slice F2 R.length cr2) ∧ U.cell? ⟨B, 1, none⟩ = some (.slice A2 c'.V.length l1) ∧ U.cell? ⟨B, 2, none⟩ = some (.slice D2 c'.N.length l2) ∧ U.cell? ⟨B, 3, none⟩ = some (.slice E2 c'.M.length l3) ∧ U.cell? ⟨B, 4, none⟩ = some (.slice Pa2 P.length kp2) ∧ U.cell? ⟨B, 5, none⟩ = some (.slice Ta2 T.length kt2) ∧ U.cell? (pad.add g) = some (.slice (some rad) pr.length rc) ∧ U.cell? (rad.add k) = some (.int .i64 pr[k])) := fun U q => by
              obtain ⟨z0, z1, z2, z3, z4, z5, z6, z7, z8, z9⟩ := ALS.out U q
              exact ⟨z0, z1, z2, z3, z4, z5, z6, z7, z8, z9, (((HQw.out.trans HQn.out).trans q).cell hrb2).trans hr0⟩
            have d1 : decide ((k : Int) < (pr.length : Int)) = true := decide_eq_true (by omega)
            have d2 : decide (k < pr.length) = true := decide_eq_true hlt
            have j3 : (k : Int) < (pr.length : Int) := by omega
            have j4 : (0 : Int) ≤ (k : Int) := Int.natCast_nonneg _
            have CR1 := Lib.hid (CRp.out c'.V A2 l1 (.slice F2 R.length cr2) (.slice D2 c'.N.length l2) (.slice E2 c'.M.length l3) (.slice Pa2 P.length kp2) (.slice Ta2 T.length kt2) pr[k])
            have HTk : Hid (cellsQ ((pr.take k).map fun z => (repV ks c'.V z, atV ks f)) ++ [.int .i64 (repV ks c'.V pr[k]), .int .i64 (atV ks f)] = cellsQ ((pr.take (k + 1)).map fun z => (repV ks c'.V z, atV ks f))) := by
              unfold Hid
              rw [List.take_succ_eq_append_getElem hlt, List.map_append, cellsQ_append]; rfl
            clear hrb hrb2 hr0
            go_upto_region 16 with fail
            clear z0 z1 z2 z3 z4 z5 z6 z7 z8 z9 d1 d2
            refine begin_t (S := fun U => U.cell? ⟨w.heap.size, 0, none⟩ = some (.slice A ks.length ca) ∧ U.cell? ⟨w.heap.size, 1, none⟩ = some (.slice S ms d) ∧ U.cell? ⟨w.heap.size + 1, 4, none⟩ = some (.slice (some pad) P.length kp) ∧ U.cell? ⟨B, 0, none⟩ = some (.slice F2 R.length cr2) ∧ U.cell? ⟨B, 1, none⟩ = some (.slice A2 c'.V.length l1) ∧ U.cell? ⟨B, 2, none⟩ = some (.slice D2 c'.N.length l2) ∧ U.cell? ⟨B, 3, none⟩ = some (.slice E2 c'.M.length l3) ∧ U.cell? ⟨B, 4, none⟩ = some (.slice Pa2 P.length kp2) ∧ U.cell? ⟨B, 5, none⟩ = some (.slice Ta2 T.length kt2) ∧ U.cell? (pad.add g) = some (.slice (some rad) pr.length rc) ∧ U.cell? (rad.add k) = some (.int .i64 pr[k])) (z := 18) (by kernel_rfl) ?_ (fun hHeld => ?_)
            · exact ALL2.out _ HQr.out.drew
            refine take_y (i := 0) (d := some 70) (v := ?_) rfl (by kernel_rfl) (by kernel_rfl) (by kernel_rfl) (by kernel_rfl) (fun _ _ _ h => h) rfl (by rfl) ?_ (by assumption) ?_
            rotate_left
            · (intro w; go_simp; (try with_reducible rfl))
            try simp only [Act.put, List.setIfInBounds_toArray, List.set_cons_zero, List.set_cons_succ]
            refine take_t (i := 1) (d := some 71) (v := ?_) rfl (by kernel_rfl) (by kernel_rfl) (by kernel_rfl) (by kernel_rfl) (fun _ _ _ h => h) rfl (by rfl) ?_ (by assumption) ?_
            rotate_left
            · (intro w hSw; (try dsimp only at hSw); go_simp; (try with_reducible rfl))
            try simp only [Act.put, List.setIfInBounds_toArray, List.set_cons_zero, List.set_cons_succ]
            refine take_t (i := 2) (d := some 72) (v := ?_) rfl (by kernel_rfl) (by kernel_rfl) (by kernel_rfl) (by kernel_rfl) (fun _ _ _ h => h) rfl (by rfl) ?_ (by assumption) ?_
            rotate_left
            · (intro w hSw; (try dsimp only at hSw); go_simp; (try with_reducible rfl))
            try simp only [Act.put, List.setIfInBounds_toArray, List.set_cons_zero, List.set_cons_succ]
            refine take_y (i := 3) (d := some 73) (v := ?_) rfl (by kernel_rfl) (by kernel_rfl) (by kernel_rfl) (by kernel_rfl) (fun _ _ _ h => h) rfl (by rfl) ?_ (by assumption) ?_
            rotate_left
            · (intro w; go_simp; (try with_reducible rfl))
            try simp only [Act.put, List.setIfInBounds_toArray, List.set_cons_zero, List.set_cons_succ]
            refine take_t (i := 4) (d := some 74) (v := ?_) rfl (by kernel_rfl) (by kernel_rfl) (by kernel_rfl) (by kernel_rfl) (fun _ _ _ h => h) rfl (by rfl) ?_ (by assumption) ?_
            rotate_left
            · (intro w hSw; (try dsimp only at hSw); go_simp; (try with_reducible rfl))
            try simp only [Act.put, List.setIfInBounds_toArray, List.set_cons_zero, List.set_cons_succ]
            refine take_y (i := 5) (d := some 75) (v := ?_) rfl (by kernel_rfl) (by kernel_rfl) (by kernel_rfl) (by kernel_rfl) (fun _ _ _ h => h) rfl (by rfl) ?_ (by assumption) ?_
            rotate_left
            · (intro w; go_simp; (try with_reducible rfl))
            try simp only [Act.put, List.setIfInBounds_toArray, List.set_cons_zero, List.set_cons_succ]
            refine take_y (i := 6) (d := some 76) (v := ?_) rfl (by kernel_rfl) (by kernel_rfl) (by kernel_rfl) (by kernel_rfl) (fun _ _ _ h => h) rfl (by rfl) ?_ (by assumption) ?_
            rotate_left
            · (intro w; go_simp; (try with_reducible rfl))
            try simp only [Act.put, List.setIfInBounds_toArray, List.set_cons_zero, List.set_cons_succ]
            refine take_t (i := 7) (d := some 77) (v := ?_) rfl (by kernel_rfl) (by kernel_rfl) (by kernel_rfl) (by kernel_rfl) (fun _ _ _ h => h) rfl (by rfl) ?_ (by assumption) ?_
            rotate_left
            · (intro w hSw; (try dsimp only at hSw); go_simp; (try with_reducible rfl))
            try simp only [Act.put, List.setIfInBounds_toArray, List.set_cons_zero, List.set_cons_succ]
            refine take_y (i := 8) (d := some 78) (v := ?_) rfl (by kernel_rfl) (by kernel_rfl) (by kernel_rfl) (by kernel_rfl) (fun _ _ _ h => h) rfl (by rfl) ?_ (by assumption) ?_
            rotate_left
            · (intro w; go_simp; (try with_reducible rfl))
            try simp only [Act.put, List.setIfInBounds_toArray, List.set_cons_zero, List.set_cons_succ]
            refine take_y (i := 9) (d := some 79) (v := ?_) rfl (by kernel_rfl) (by kernel_rfl) (by kernel_rfl) (by kernel_rfl) (fun _ _ _ h => h) rfl (by rfl) ?_ (by assumption) ?_
            rotate_left
            · (intro w; go_simp; (try with_reducible rfl))
            try simp only [Act.put, List.setIfInBounds_toArray, List.set_cons_zero, List.set_cons_succ]
            refine take_t (i := 10) (d := some 80) (v := ?_) rfl (by kernel_rfl) (by kernel_rfl) (by kernel_rfl) (by kernel_rfl) (fun _ _ _ h => h) rfl (by rfl) ?_ (by assumption) ?_
            rotate_left
            · (intro w hSw; (try dsimp only at hSw); go_simp; (try with_reducible rfl))
            try simp only [Act.put, List.setIfInBounds_toArray, List.set_cons_zero, List.set_cons_succ]
            refine take_t (i := 12) (d := some 82) (v := ?_) rfl (by kernel_rfl) (by kernel_rfl) (by kernel_rfl) (by kernel_rfl) (fun _ _ _ h => h) rfl (by rfl) ?_ (by assumption) ?_
            rotate_left
            · (intro w hSw; (try dsimp only at hSw); go_simp; (try with_reducible rfl))
            try simp only [Act.put, List.setIfInBounds_toArray, List.set_cons_zero, List.set_cons_succ]
            refine take_y (i := 13) (d := some 83) (v := ?_) rfl (by kernel_rfl) (by kernel_rfl) (by kernel_rfl) (by kernel_rfl) (fun _ _ _ h => h) rfl (by rfl) ?_ (by assumption) ?_
            rotate_left
            · (intro w; go_simp; (try with_reducible rfl))
            try simp only [Act.put, List.setIfInBounds_toArray, List.set_cons_zero, List.set_cons_succ]
            refine call_t (i := 11) rfl (by kernel_rfl) (by rfl) (fun K hK => ?_)
            go_simp
            go_at_call 48
            refine (CR1.out wr.drew ((HQw.out.trans HQn.out).trans (HQr.out.trans (Q.refl wr).drew)) ((HGn.out.q (HQr.out.trans (Q.refl wr).drew)).v.rds) HJc.out HJl.out).mono ?_
            rintro e w5 ⟨rfl, q5⟩
            have HQ5 := Lib.hid (((Q.refl wr).drew).trans q5)
            clear q5
            have hHeld : ((fun U => U.cell? ⟨w.heap.size, 0, none⟩ = some (.slice A ks.length ca) ∧ U.cell? ⟨w.heap.size, 1, none⟩ = some (.slice S ms d) ∧ U.cell? ⟨w.heap.size + 1, 4, none⟩ = some (.slice (some pad) P.length kp) ∧ U.cell? ⟨B, 0, none⟩ = some (.slice F2 R.length cr2) ∧ U.cell? ⟨B, 1, none⟩ = some (.slice A2 c'.V.length l1) ∧ U.cell? ⟨B, 2, none⟩ = some (.slice D2 c'.N.length l2) ∧ U.cell? ⟨B, 3, none⟩ = some (.slice E2 c'.M.length l3) ∧ U.cell? ⟨B, 4, none⟩ = some (.slice Pa2 P.length kp2) ∧ U.cell? ⟨B, 5, none⟩ = some (.slice Ta2 T.length kt2) ∧ U.cell? (pad.add g) = some (.slice (some rad) pr.length rc) ∧ U.cell? (rad.add k) = some (.int .i64 pr[k])) : World → Prop) _ := ALL2.out _ (HQr.out.trans HQ5.out)
            refine hK.out _ _ (fun _ => hHeld) ?_
            clear hK K
            try simp only [Act.put, List.setIfInBounds_toArray, List.set_cons_zero, List.set_cons_succ]
            refine call_t (i := 14) rfl (by kernel_rfl) (by rfl) (fun K hK => ?_)
            go_simp
            go_at_call 17
            refine (CAf.out w5 ((HQw.out.trans HQn.out).trans (HQr.out.trans HQ5.out))).mono ?_
            rintro e w6 ⟨rfl, q6⟩
            have HQ6 := Lib.hid ((HQ5.out).trans q6)
            clear q6
            have hHeld : ((fun U => U.cell? ⟨w.heap.size, 0, none⟩ = some (.slice A ks.length ca) ∧ U.cell? ⟨w.heap.size, 1, none⟩ = some (.slice S ms d) ∧ U.cell? ⟨w.heap.size + 1, 4, none⟩ = some (.slice (some pad) P.length kp) ∧ U.cell? ⟨B, 0, none⟩ = some (.slice F2 R.length cr2) ∧ U.cell? ⟨B, 1, none⟩ = some (.slice A2 c'.V.length l1) ∧ U.cell? ⟨B, 2, none⟩ = some (.slice D2 c'.N.length l2) ∧ U.cell? ⟨B, 3, none⟩ = some (.slice E2 c'.M.length l3) ∧ U.cell? ⟨B, 4, none⟩ = some (.slice Pa2 P.length kp2) ∧ U.cell? ⟨B, 5, none⟩ = some (.slice Ta2 T.length kt2) ∧ U.cell? (pad.add g) = some (.slice (some rad) pr.length rc) ∧ U.cell? (rad.add k) = some (.int .i64 pr[k])) : World → Prop) _ := ALL2.out _ (HQr.out.trans HQ6.out)
            refine hK.out _ _ (fun _ => hHeld) ?_
            clear hK K
            try simp only [Act.put, List.setIfInBounds_toArray, List.set_cons_zero, List.set_cons_succ]
            refine take_y (i := 15) (d := some 85) (v := ?_) rfl (by kernel_rfl) (by kernel_rfl) (by kernel_rfl) (by kernel_rfl) (fun _ _ _ h => h) rfl (by rfl) ?_ (by assumption) ?_
            rotate_left
            · (intro w; go_simp; (try with_reducible rfl))
            try simp only [Act.put, List.setIfInBounds_toArray, List.set_cons_zero, List.set_cons_succ]
            refine call_t (i := 16) rfl (by kernel_rfl) (by rfl) (fun K hK => ?_)
            go_simp
            have hHeld : ((fun U => U.cell? ⟨w.heap.size, 0, none⟩ = some (.slice A ks.length ca) ∧ U.cell? ⟨w.heap.size, 1, none⟩ = some (.slice S ms d) ∧ U.cell? ⟨w.heap.size + 1, 4, none⟩ = some (.slice (some pad) P.length kp) ∧ U.cell? ⟨B, 0, none⟩ = some (.slice F2 R.length cr2) ∧ U.cell? ⟨B, 1, none⟩ = some (.slice A2 c'.V.length l1) ∧ U.cell? ⟨B, 2, none⟩ = some (.slice D2 c'.N.length l2) ∧ U.cell? ⟨B, 3, none⟩ = some (.slice E2 c'.M.length l3) ∧ U.cell? ⟨B, 4, none⟩ = some (.slice Pa2 P.length kp2) ∧ U.cell? ⟨B, 5, none⟩ = some (.slice Ta2 T.length kt2) ∧ U.cell? (pad.add g) = some (.slice (some rad) pr.length rc) ∧ U.cell? (rad.add k) = some (.int .i64 pr[k])) : World → Prop) _ := ALL2.out _ (HQr.out.trans (HQ6.out.alloc (Obj.cells #[.int .i64 (repV ks c'.V pr[k]), .int .i64 (atV ks f)] 48)))
            refine hK.out _ _ (fun _ => hHeld) ?_
            clear hK K
            try simp only [Act.put, List.setIfInBounds_toArray, List.set_cons_zero, List.set_cons_succ]
            refine call_t (i := 17) rfl (by kernel_rfl) (by rfl) (fun K hK => ?_)
            have HOw := Lib.hid (Tr.row_kept HR.out (HQ6.out.alloc (Obj.cells #[.int .i64 (repV ks c'.V pr[k]), .int .i64 (atV ks f)] 48)) (Nat.le_refl _))
            have HQa := Lib.hid ((HQr.out.trans HQ6.out).alloc (Obj.cells #[.int .i64 (repV ks c'.V pr[k]), .int .i64 (atV ks f)] 48))
            refine wp_append_src _ (.tmp 70) (.tmp 86) _ rfl wc.heap.size 48 i0 _ 2 16 Tryz.underlying36 Hi.out Hz0.out Hz1.out Hz2.out rfl (by omega) _ (k) _ rfl HOw.out (some ⟨w6.heap.size, 0, none⟩) 1 1 [.int .i64 (repV ks c'.V pr[k]), .int .i64 (atV ks f)] rfl rfl (src_block (heap_alloc_new w6 (Obj.cells #[.int .i64 (repV ks c'.V pr[k]), .int .i64 (atV ks f)] 48))) (by simp [Value.oneCell']) (by have := HlP.out; have := HlT.out; unfold maxLen; omega) (by have := HlP.out; have := HlT.out; omega) HQa.out.size ?_
            intro v7 w7 own7 gr7 at7
            have HQ7 : Hid (Q wc w7) := Lib.hid (HQa.out.grown gr7 HQa.out.size (fun b hb => (HOw.out.lt b hb).1))
            rw [HTk.out] at own7
            have Own7 := Lib.hid own7
            clear own7 gr7 at7
            have hHeld : ((fun U => U.cell? ⟨w.heap.size, 0, none⟩ = some (.slice A ks.length ca) ∧ U.cell? ⟨w.heap.size, 1, none⟩ = some (.slice S ms d) ∧ U.cell? ⟨w.heap.size + 1, 4, none⟩ = some (.slice (some pad) P.length kp) ∧ U.cell? ⟨B, 0, none⟩ = some (.slice F2 R.length cr2) ∧ U.cell? ⟨B, 1, none⟩ = some (.slice A2 c'.V.length l1) ∧ U.cell? ⟨B, 2, none⟩ = some (.slice D2 c'.N.length l2) ∧ U.cell? ⟨B, 3, none⟩ = some (.slice E2 c'.M.length l3) ∧ U.cell? ⟨B, 4, none⟩ = some (.slice Pa2 P.length kp2) ∧ U.cell? ⟨B, 5, none⟩ = some (.slice Ta2 T.length kt2) ∧ U.cell? (pad.add g) = some (.slice (some rad) pr.length rc) ∧ U.cell? (rad.add k) = some (.int .i64 pr[k])) : World → Prop) _ := ALL2.out _ HQ7.out
            refine hK.out _ _ (fun _ => hHeld) ?_
            clear hK K
            try simp only [Act.put]
            refine call_t (i := 18) rfl (by kernel_rfl) (by rfl) (fun K hK => ?_)
            go_simp
            refine hK.out _ _ (fun hz => by cases hz) ?_
            clear hK K
            try simp only [Act.put]
            refine done_t (by kernel_rfl) ?_ _
            go_wp2_with fail
            go_roundw
            case rel => exact ⟨k + 1, v7, by omega, by go_num, rfl, Own7, HQ7⟩
            case measure => simp [intOf]; omega
          · obtain rfl : k = pr.length := by omega
            rw [List.take_length] at HR
            have d1 : decide ((pr.length : Int) < (pr.length : Int)) = false := decide_eq_false (by omega)
            have d2 : decide (pr.length < pr.length) = false := decide_eq_false (by omega)
            clear ALS hlt hkl
            have HR1 := HR
            have HQ1' := HQr
            clear HR
            revert HR1 HQ1'
            intro HR1 HQ1'
            have ALS : Hid (∀ U, Q wc U → U.cell? ⟨w.heap.size, 0, none⟩ = some (.slice A ks.length ca) ∧ U.cell? ⟨w.heap.size, 1, none⟩ = some (.slice S ms d) ∧ U.cell? ⟨w.heap.size + 1, 5, none⟩ = some (.slice (some tad) T.length kt) ∧ U.cell? ⟨B, 0, none⟩ = some (.slice F2 R.length cr2) ∧ U.cell? ⟨B, 1, none⟩ = some (.slice A2 c'.V.length l1) ∧ U.cell? ⟨B, 2, none⟩ = some (.slice D2 c'.N.length l2) ∧ U.cell? ⟨B, 3, none⟩ = some (.slice E2 c'.M.length l3) ∧ U.cell? ⟨B, 4, none⟩ = some (.slice Pa2 P.length kp2) ∧ U.cell? ⟨B, 5, none⟩ = some (.slice Ta2 T.length kt2) ∧ U.cell? (tad.add g) = some (.slice sa tr.length sc)) := fun U q => by
              have h1 := HBa.out.q ((HQ3.out.trans HQn.out).trans q)
              have h2 := HBg.out.q ((HQ3.out.trans HQn.out).trans q)
              have h3 := HB2.out.q q
              exact ⟨h1.c0, h1.c1, h2.c5, h3.c0, h3.c1, h3.c2, h3.c3, h3.c4, h3.c5, (((HQw.out.trans HQn.out).trans q).cell (p := tad.add g) (by rw [Tr.add_block]; exact HTIb.out)).trans HTIc.out⟩
            go_wp2_with fail
            clear z0 z1 z2 z3 z4 z5 z6 z7 z8 z9 d1 d2
            go_loopw [16, 18] (fun ov i wr => ∃ (k : Nat) (v : Value), k ≤ tr.length ∧ i = .int .i64 k ∧ v = ov ∧ Hid (wr.ownsRow wc.heap.size 48 2 v (pr.length + k) (cellsQ ((pr.map fun z => (repV ks c'.V z, atV ks f)) ++ (tr.take k).map fun z => (atV ks f, repV ks c'.V z)))) ∧ Hid (Q wc wr)) (fun _ i _ => tr.length - (intOf i).toNat)
            case atStart => exact ⟨0, _, Nat.zero_le _, rfl, rfl, by rw [Nat.add_zero, List.take_zero, List.map_nil, List.append_nil]; exact HR1, HQ1'⟩
            case round =>
              obtain ⟨k, v, hkl, rfl, rfl, HR, HQr⟩ := hrel
              obtain ⟨z0, z1, z2, z3, z4, z5, z6, z7, z8, z9⟩ := ALS.out wr HQr.out
              by_cases hlt : k < tr.length
              · obtain ⟨rad, hra, hrb, hr0⟩ := (Tr.Rds.int_at (ints_rds (HTIi.out.ints)) hlt)
                subst hra
                have hrb2 : (rad.add k).block < w.heap.size := by rw [Tr.add_block]; exact hrb
                have ALL2 : Hid (∀ U, Q wc U → U.cell? ⟨w.heap.size, 0, none⟩ = some (.slice A ks.length ca) ∧ U.cell? ⟨w.heap.size, 1, none⟩ = some (.slice S ms d) ∧ U.cell? ⟨w.heap.size + 1, 5, none⟩ = some (.slice (some tad) T.length kt) ∧ U.cell? ⟨B, 0, none⟩ = some (.slice F2 R.length cr2) ∧ U.cell? ⟨B, 1, none⟩ = some (.slice A2 c'.V.length l1) ∧ U.cell? ⟨B, 2, none⟩ = some (.slice D2 c'.N.length l2) ∧ U.cell? ⟨B, 3, none⟩ = some (.slice E2 c'.M.length l3) ∧ U.cell? ⟨B, 4, none⟩ = some (.slice Pa2 P.length kp2) ∧ U.cell? ⟨B, 5, none⟩ = some (.slice Ta2 T.length kt2) ∧ U.cell? (tad.add g) = some (.slice (some rad) tr.length sc) ∧ U.cell? (rad.add k) = some (.int .i64 tr[k])) := fun U q => by
                  obtain ⟨z0, z1, z2, z3, z4, z5, z6, z7, z8, z9⟩ := ALS.out U q
                  exact ⟨z0, z1, z2, z3, z4, z5, z6, z7, z8, z9, (((HQw.out.trans HQn.out).trans q).cell hrb2).trans hr0⟩
                have d1 : decide ((k : Int) < (tr.length : Int)) = true := decide_eq_true (by omega)
                have d2 : decide (k < tr.length) = true := decide_eq_true hlt
                have j3 : (k : Int) < (tr.length : Int) := by omega
                have j4 : (0 : Int) ≤ (k : Int) := Int.natCast_nonneg _
                have CR1 := Lib.hid (CRp.out c'.V A2 l1 (.slice F2 R.length cr2) (.slice D2 c'.N.length l2) (.slice E2 c'.M.length l3) (.slice Pa2 P.length kp2) (.slice Ta2 T.length kt2) tr[k])
                have HTk : Hid (cellsQ ((pr.map fun z => (repV ks c'.V z, atV ks f)) ++ (tr.take k).map fun z => (atV ks f, repV ks c'.V z)) ++ [.int .i64 (atV ks f), .int .i64 (repV ks c'.V tr[k])] = cellsQ ((pr.map fun z => (repV ks c'.V z, atV ks f)) ++ (tr.take (k + 1)).map fun z => (atV ks f, repV ks c'.V z))) := by
                  unfold Hid
                  rw [List.take_succ_eq_append_getElem hlt, List.map_append, ← List.append_assoc, cellsQ_append (_ ++ _)]; rfl
                clear hrb hrb2 hr0
                go_upto_region 20 with fail
                clear z0 z1 z2 z3 z4 z5 z6 z7 z8 z9 d1 d2
                refine begin_t (S := fun U => U.cell? ⟨w.heap.size, 0, none⟩ = some (.slice A ks.length ca) ∧ U.cell? ⟨w.heap.size, 1, none⟩ = some (.slice S ms d) ∧ U.cell? ⟨w.heap.size + 1, 5, none⟩ = some (.slice (some tad) T.length kt) ∧ U.cell? ⟨B, 0, none⟩ = some (.slice F2 R.length cr2) ∧ U.cell? ⟨B, 1, none⟩ = some (.slice A2 c'.V.length l1) ∧ U.cell? ⟨B, 2, none⟩ = some (.slice D2 c'.N.length l2) ∧ U.cell? ⟨B, 3, none⟩ = some (.slice E2 c'.M.length l3) ∧ U.cell? ⟨B, 4, none⟩ = some (.slice Pa2 P.length kp2) ∧ U.cell? ⟨B, 5, none⟩ = some (.slice Ta2 T.length kt2) ∧ U.cell? (tad.add g) = some (.slice (some rad) tr.length sc) ∧ U.cell? (rad.add k) = some (.int .i64 tr[k])) (z := 18) (by kernel_rfl) ?_ (fun hHeld => ?_)
                · exact ALL2.out _ HQr.out.drew
                refine take_y (i := 0) (d := some 98) (v := ?_) rfl (by kernel_rfl) (by kernel_rfl) (by kernel_rfl) (by kernel_rfl) (fun _ _ _ h => h) rfl (by rfl) ?_ (by assumption) ?_
                rotate_left
                · (intro w; go_simp; (try with_reducible rfl))
                try simp only [Act.put, List.setIfInBounds_toArray, List.set_cons_zero, List.set_cons_succ]
                refine take_t (i := 1) (d := some 99) (v := ?_) rfl (by kernel_rfl) (by kernel_rfl) (by kernel_rfl) (by kernel_rfl) (fun _ _ _ h => h) rfl (by rfl) ?_ (by assumption) ?_
                rotate_left
                · (intro w hSw; (try dsimp only at hSw); go_simp; (try with_reducible rfl))
                try simp only [Act.put, List.setIfInBounds_toArray, List.set_cons_zero, List.set_cons_succ]
                refine take_y (i := 2) (d := some 100) (v := ?_) rfl (by kernel_rfl) (by kernel_rfl) (by kernel_rfl) (by kernel_rfl) (fun _ _ _ h => h) rfl (by rfl) ?_ (by assumption) ?_
                rotate_left
                · (intro w; go_simp; (try with_reducible rfl))
                try simp only [Act.put, List.setIfInBounds_toArray, List.set_cons_zero, List.set_cons_succ]
                refine take_t (i := 4) (d := some 102) (v := ?_) rfl (by kernel_rfl) (by kernel_rfl) (by kernel_rfl) (by kernel_rfl) (fun _ _ _ h => h) rfl (by rfl) ?_ (by assumption) ?_
                rotate_left
                · (intro w hSw; (try dsimp only at hSw); go_simp; (try with_reducible rfl))
                try simp only [Act.put, List.setIfInBounds_toArray, List.set_cons_zero, List.set_cons_succ]
                refine take_t (i := 5) (d := some 103) (v := ?_) rfl (by kernel_rfl) (by kernel_rfl) (by kernel_rfl) (by kernel_rfl) (fun _ _ _ h => h) rfl (by rfl) ?_ (by assumption) ?_
                rotate_left
                · (intro w hSw; (try dsimp only at hSw); go_simp; (try with_reducible rfl))
                try simp only [Act.put, List.setIfInBounds_toArray, List.set_cons_zero, List.set_cons_succ]
                refine take_y (i := 6) (d := some 104) (v := ?_) rfl (by kernel_rfl) (by kernel_rfl) (by kernel_rfl) (by kernel_rfl) (fun _ _ _ h => h) rfl (by rfl) ?_ (by assumption) ?_
                rotate_left
                · (intro w; go_simp; (try with_reducible rfl))
                try simp only [Act.put, List.setIfInBounds_toArray, List.set_cons_zero, List.set_cons_succ]
                refine take_t (i := 7) (d := some 105) (v := ?_) rfl (by kernel_rfl) (by kernel_rfl) (by kernel_rfl) (by kernel_rfl) (fun _ _ _ h => h) rfl (by rfl) ?_ (by assumption) ?_
                rotate_left
                · (intro w hSw; (try dsimp only at hSw); go_simp; (try with_reducible rfl))
                try simp only [Act.put, List.setIfInBounds_toArray, List.set_cons_zero, List.set_cons_succ]
                refine take_y (i := 8) (d := some 106) (v := ?_) rfl (by kernel_rfl) (by kernel_rfl) (by kernel_rfl) (by kernel_rfl) (fun _ _ _ h => h) rfl (by rfl) ?_ (by assumption) ?_
                rotate_left
                · (intro w; go_simp; (try with_reducible rfl))
                try simp only [Act.put, List.setIfInBounds_toArray, List.set_cons_zero, List.set_cons_succ]
                refine take_y (i := 9) (d := some 107) (v := ?_) rfl (by kernel_rfl) (by kernel_rfl) (by kernel_rfl) (by kernel_rfl) (fun _ _ _ h => h) rfl (by rfl) ?_ (by assumption) ?_
                rotate_left
                · (intro w; go_simp; (try with_reducible rfl))
                try simp only [Act.put, List.setIfInBounds_toArray, List.set_cons_zero, List.set_cons_succ]
                refine take_t (i := 10) (d := some 108) (v := ?_) rfl (by kernel_rfl) (by kernel_rfl) (by kernel_rfl) (by kernel_rfl) (fun _ _ _ h => h) rfl (by rfl) ?_ (by assumption) ?_
                rotate_left
                · (intro w hSw; (try dsimp only at hSw); go_simp; (try with_reducible rfl))
                try simp only [Act.put, List.setIfInBounds_toArray, List.set_cons_zero, List.set_cons_succ]
                refine take_y (i := 11) (d := some 109) (v := ?_) rfl (by kernel_rfl) (by kernel_rfl) (by kernel_rfl) (by kernel_rfl) (fun _ _ _ h => h) rfl (by rfl) ?_ (by assumption) ?_
                rotate_left
                · (intro w; go_simp; (try with_reducible rfl))
                try simp only [Act.put, List.setIfInBounds_toArray, List.set_cons_zero, List.set_cons_succ]
                refine take_y (i := 12) (d := some 110) (v := ?_) rfl (by kernel_rfl) (by kernel_rfl) (by kernel_rfl) (by kernel_rfl) (fun _ _ _ h => h) rfl (by rfl) ?_ (by assumption) ?_
                rotate_left
                · (intro w; go_simp; (try with_reducible rfl))
                try simp only [Act.put, List.setIfInBounds_toArray, List.set_cons_zero, List.set_cons_succ]
                refine take_t (i := 13) (d := some 111) (v := ?_) rfl (by kernel_rfl) (by kernel_rfl) (by kernel_rfl) (by kernel_rfl) (fun _ _ _ h => h) rfl (by rfl) ?_ (by assumption) ?_
                rotate_left
                · (intro w hSw; (try dsimp only at hSw); go_simp; (try with_reducible rfl))
                try simp only [Act.put, List.setIfInBounds_toArray, List.set_cons_zero, List.set_cons_succ]
                refine call_t (i := 3) rfl (by kernel_rfl) (by rfl) (fun K hK => ?_)
                go_simp
                go_at_call 17
                refine (CAf.out wr.drew ((HQw.out.trans HQn.out).trans (HQr.out.trans (Q.refl wr).drew))).mono ?_
                rintro e w5 ⟨rfl, q5⟩
                have HQ5 := Lib.hid (((Q.refl wr).drew).trans q5)
                clear q5
                have hHeld : ((fun U => U.cell? ⟨w.heap.size, 0, none⟩ = some (.slice A ks.length ca) ∧ U.cell? ⟨w.heap.size, 1, none⟩ = some (.slice S ms d) ∧ U.cell? ⟨w.heap.size + 1, 5, none⟩ = some (.slice (some tad) T.length kt) ∧ U.cell? ⟨B, 0, none⟩ = some (.slice F2 R.length cr2) ∧ U.cell? ⟨B, 1, none⟩ = some (.slice A2 c'.V.length l1) ∧ U.cell? ⟨B, 2, none⟩ = some (.slice D2 c'.N.length l2) ∧ U.cell? ⟨B, 3, none⟩ = some (.slice E2 c'.M.length l3) ∧ U.cell? ⟨B, 4, none⟩ = some (.slice Pa2 P.length kp2) ∧ U.cell? ⟨B, 5, none⟩ = some (.slice Ta2 T.length kt2) ∧ U.cell? (tad.add g) = some (.slice (some rad) tr.length sc) ∧ U.cell? (rad.add k) = some (.int .i64 tr[k])) : World → Prop) _ := ALL2.out _ (HQr.out.trans HQ5.out)
                refine hK.out _ _ (fun _ => hHeld) ?_
                clear hK K
                try simp only [Act.put, List.setIfInBounds_toArray, List.set_cons_zero, List.set_cons_succ]
                refine call_t (i := 14) rfl (by kernel_rfl) (by rfl) (fun K hK => ?_)
                go_simp
                go_at_call 48
                refine (CR1.out w5 ((HQw.out.trans HQn.out).trans (HQr.out.trans HQ5.out)) ((HGn.out.q (HQr.out.trans HQ5.out)).v.rds) HJc.out HJl.out).mono ?_
                rintro e w6 ⟨rfl, q6⟩
                have HQ6 := Lib.hid ((HQ5.out).trans q6)
                clear q6
                have hHeld : ((fun U => U.cell? ⟨w.heap.size, 0, none⟩ = some (.slice A ks.length ca) ∧ U.cell? ⟨w.heap.size, 1, none⟩ = some (.slice S ms d) ∧ U.cell? ⟨w.heap.size + 1, 5, none⟩ = some (.slice (some tad) T.length kt) ∧ U.cell? ⟨B, 0, none⟩ = some (.slice F2 R.length cr2) ∧ U.cell? ⟨B, 1, none⟩ = some (.slice A2 c'.V.length l1) ∧ U.cell? ⟨B, 2, none⟩ = some (.slice D2 c'.N.length l2) ∧ U.cell? ⟨B, 3, none⟩ = some (.slice E2 c'.M.length l3) ∧ U.cell? ⟨B, 4, none⟩ = some (.slice Pa2 P.length kp2) ∧ U.cell? ⟨B, 5, none⟩ = some (.slice Ta2 T.length kt2) ∧ U.cell? (tad.add g) = some (.slice (some rad) tr.length sc) ∧ U.cell? (rad.add k) = some (.int .i64 tr[k])) : World → Prop) _ := ALL2.out _ (HQr.out.trans HQ6.out)
                refine hK.out _ _ (fun _ => hHeld) ?_
                clear hK K
                try simp only [Act.put, List.setIfInBounds_toArray, List.set_cons_zero, List.set_cons_succ]
                refine take_y (i := 15) (d := some 113) (v := ?_) rfl (by kernel_rfl) (by kernel_rfl) (by kernel_rfl) (by kernel_rfl) (fun _ _ _ h => h) rfl (by rfl) ?_ (by assumption) ?_
                rotate_left
                · (intro w; go_simp; (try with_reducible rfl))
                try simp only [Act.put, List.setIfInBounds_toArray, List.set_cons_zero, List.set_cons_succ]
                refine call_t (i := 16) rfl (by kernel_rfl) (by rfl) (fun K hK => ?_)
                go_simp
                have hHeld : ((fun U => U.cell? ⟨w.heap.size, 0, none⟩ = some (.slice A ks.length ca) ∧ U.cell? ⟨w.heap.size, 1, none⟩ = some (.slice S ms d) ∧ U.cell? ⟨w.heap.size + 1, 5, none⟩ = some (.slice (some tad) T.length kt) ∧ U.cell? ⟨B, 0, none⟩ = some (.slice F2 R.length cr2) ∧ U.cell? ⟨B, 1, none⟩ = some (.slice A2 c'.V.length l1) ∧ U.cell? ⟨B, 2, none⟩ = some (.slice D2 c'.N.length l2) ∧ U.cell? ⟨B, 3, none⟩ = some (.slice E2 c'.M.length l3) ∧ U.cell? ⟨B, 4, none⟩ = some (.slice Pa2 P.length kp2) ∧ U.cell? ⟨B, 5, none⟩ = some (.slice Ta2 T.length kt2) ∧ U.cell? (tad.add g) = some (.slice (some rad) tr.length sc) ∧ U.cell? (rad.add k) = some (.int .i64 tr[k])) : World → Prop) _ := ALL2.out _ (HQr.out.trans (HQ6.out.alloc (Obj.cells #[.int .i64 (atV ks f), .int .i64 (repV ks c'.V tr[k])] 48)))
                refine hK.out _ _ (fun _ => hHeld) ?_
                clear hK K
                try simp only [Act.put, List.setIfInBounds_toArray, List.set_cons_zero, List.set_cons_succ]
                refine call_t (i := 17) rfl (by kernel_rfl) (by rfl) (fun K hK => ?_)
                have HOw := Lib.hid (Tr.row_kept HR.out (HQ6.out.alloc (Obj.cells #[.int .i64 (atV ks f), .int .i64 (repV ks c'.V tr[k])] 48)) (Nat.le_refl _))
                have HQa := Lib.hid ((HQr.out.trans HQ6.out).alloc (Obj.cells #[.int .i64 (atV ks f), .int .i64 (repV ks c'.V tr[k])] 48))
                refine wp_append_src _ (.tmp 98) (.tmp 114) _ rfl wc.heap.size 48 i0 _ 2 16 Tryz.underlying36 Hi.out Hz0.out Hz1.out Hz2.out rfl (by omega) _ (pr.length + k) _ rfl HOw.out (some ⟨w6.heap.size, 0, none⟩) 1 1 [.int .i64 (atV ks f), .int .i64 (repV ks c'.V tr[k])] rfl rfl (src_block (heap_alloc_new w6 (Obj.cells #[.int .i64 (atV ks f), .int .i64 (repV ks c'.V tr[k])] 48))) (by simp [Value.oneCell']) (by have := HlP.out; have := HlT.out; unfold maxLen; omega) (by have := HlP.out; have := HlT.out; omega) HQa.out.size ?_
                intro v7 w7 own7 gr7 at7
                have HQ7 : Hid (Q wc w7) := Lib.hid (HQa.out.grown gr7 HQa.out.size (fun b hb => (HOw.out.lt b hb).1))
                rw [HTk.out] at own7
                have Own7 := Lib.hid own7
                clear own7 gr7 at7
                have hHeld : ((fun U => U.cell? ⟨w.heap.size, 0, none⟩ = some (.slice A ks.length ca) ∧ U.cell? ⟨w.heap.size, 1, none⟩ = some (.slice S ms d) ∧ U.cell? ⟨w.heap.size + 1, 5, none⟩ = some (.slice (some tad) T.length kt) ∧ U.cell? ⟨B, 0, none⟩ = some (.slice F2 R.length cr2) ∧ U.cell? ⟨B, 1, none⟩ = some (.slice A2 c'.V.length l1) ∧ U.cell? ⟨B, 2, none⟩ = some (.slice D2 c'.N.length l2) ∧ U.cell? ⟨B, 3, none⟩ = some (.slice E2 c'.M.length l3) ∧ U.cell? ⟨B, 4, none⟩ = some (.slice Pa2 P.length kp2) ∧ U.cell? ⟨B, 5, none⟩ = some (.slice Ta2 T.length kt2) ∧ U.cell? (tad.add g) = some (.slice (some rad) tr.length sc) ∧ U.cell? (rad.add k) = some (.int .i64 tr[k])) : World → Prop) _ := ALL2.out _ HQ7.out
                refine hK.out _ _ (fun _ => hHeld) ?_
                clear hK K
                try simp only [Act.put]
                refine call_t (i := 18) rfl (by kernel_rfl) (by rfl) (fun K hK => ?_)
                go_simp
                refine hK.out _ _ (fun hz => by cases hz) ?_
                clear hK K
                try simp only [Act.put]
                refine done_t (by kernel_rfl) ?_ _
                go_wp2_with fail
                go_roundw
                case rel => exact ⟨k + 1, v7, by omega, by go_num, rfl, Own7, HQ7⟩
                case measure => simp [intOf]; omega
              · obtain rfl : k = tr.length := by omega
                rw [List.take_length] at HR
                have d1 : decide ((tr.length : Int) < (tr.length : Int)) = false := decide_eq_false (by omega)
                have d2 : decide (tr.length < tr.length) = false := decide_eq_false (by omega)
                have HRf := HR
                have HX9 := Lib.hid (HX.out.q ((HQ3.out.trans HQn.out).trans HQr.out))
                have BZ := Lib.hid (HX9.out.set (.slice F2 R.length cr2) (.slice A2 c'.V.length l1) (.slice D2 c'.N.length l2) (.slice E2 c'.M.length l3) (.slice Pa2 P.length kp2) (.slice Ta2 T.length kt2))
                have hgr := Lib.hid (set6_grown wr Br (.slice F2 R.length cr2) (.slice A2 c'.V.length l1) (.slice D2 c'.N.length l2) (.slice E2 c'.M.length l3) (.slice Pa2 P.length kp2) (.slice Ta2 T.length kt2))
                clear z0 z1 HR ALS hkl hlt
                go_upto_region 21 with fail
                clear z2 z9 d1 d2 j0 j1 j2 hlP hlT
                have hx9 := HX9.out
                have x0 := hx9.c.c0
                have xf0 := hx9.f0
                have x1 := hx9.c.c1
                have xf1 := hx9.f1
                have x2 := hx9.c.c2
                have xf2 := hx9.f2
                have x3 := hx9.c.c3
                have xf3 := hx9.f3
                have x4 := hx9.c.c4
                have xf4 := hx9.f4
                have x5 := hx9.c.c5
                have xf5 := hx9.f5
                clear hx9
                rename_i Kx Ky hret Qz hbk
                go_cut [9] (fun s wz => s = v ∧ wz = ((((((wr.setCell ⟨Br, 0, none⟩ (.slice F2 R.length cr2)).setCell ⟨Br, 1, none⟩ (.slice A2 c'.V.length l1)).setCell ⟨Br, 2, none⟩ (.slice D2 c'.N.length l2)).setCell ⟨Br, 3, none⟩ (.slice E2 c'.M.length l3)).setCell ⟨Br, 4, none⟩ (.slice Pa2 P.length kp2)).setCell ⟨Br, 5, none⟩ (.slice Ta2 T.length kt2)))
                case first =>
                  go_wp2_with fail
                  go_meet
                  exact ⟨rfl, rfl⟩
                case rest =>
                obtain ⟨hs9, rfl⟩ := hcut
                replace hs9 := hs9.symm
                subst hs9
                clear x0 x1 x2 x3 x4 x5 xf0 xf1 xf2 xf3 xf4 xf5 z3 z4 z5 z6 z7 z8
                refine hbk _ _ ?_
                refine wp_ret ?_
                have y0 := BZ.out.c.c0
                have y1 := BZ.out.c.c1
                have y2 := BZ.out.c.c2
                have y3 := BZ.out.c.c3
                have y4 := BZ.out.c.c4
                have y5 := BZ.out.c.c5
                have z5' : (P.set g []).length = P.length := by simp
                have z6' : (T.set g []).length = T.length := by simp
                refine bodyPost_ret (v := .tuple #[gvP R c' (P.set g []) (T.set g []) F2 A2 D2 E2 Pa2 Ta2 cr2 l1 l2 l3 kp2 kt2, v]) (by unfold gvP; rw [z5', z6']; simp [results, Tryz.f11, go_sem, y0, y1, y2, y3, y4, y5]) rfl ?_
                first | rw [if_neg HNe.out] | skip
                rw [← HLo.out, ← HHi.out, ← HC'.out, HPr.out, HTr.out]
                have hbr := HBr.out
                have hg := HGn.out.q HQr.out
                have hg2 := hg.to (agree_grown (P := fun b => (K b ∨ w.heap.size ≤ b) ∧ b ≠ Br) hgr.out (fun hk => hk.2 rfl)) (K' := fun b => K b ∨ w.heap.size ≤ b) (fun b hb _ => hb.1)
                have hw := HQw.out.size
                have hwn := HQn.out.size
                have hw3 := HW3.out
                have hown := HRf.out.kept hgr.out (.inr (fun e => by have := (HRf.out.lt _ e).1; omega))
                have hown2 := Tr.row_kept hown (Q.refl _) (by omega : w.heap.size ≤ wc.heap.size)
                exact oneref hg2 (by unfold comeV; rw [List.length_append, List.length_map, List.length_map]; exact hown2) (grown_q hgr.out ((HQw.out.trans HQn.out).trans HQr.out) (by omega))
end Go.Proofs.YtjmopbimleoidaaGreat.Ig
