/-
  What the proofs lean on, part 11 of 20.
-/
import Derived.Test.YtnifmfdlocgefaaGreatPe
import Derived.Test.YtnifmfdlocgefaaGreatPi
import Derived.Test.YtnifmfdlocgefaaGreatPj
namespace Go.Proofs.YtnifmfdlocgefaaGreat.Ig
open Go.RowKit Kit Tr Uf
open Go.Proofs.YtnifmfdlocgefaaGreat.Hs (Keys Ints BoxT KeysP IntsP)
open Go.Proofs.YtnifmfdlocgefaaGreat.St (cellsQ cellsQ_append cellsQ_len cellsQ_one pairInfo PI)
/-- a graph that can be read, in blocks of a kind (nothing said of what the slices could hold) -/
structure GRQ (w : World) (K : Nat → Prop) (R : List Int) (c : Cells) (P T : List (List Int)) (F A D E Pa Ta : Option Addr) (k1 k2 k3 : Nat) : Prop where
  r : RdsP w K F (cellsI R)
  v : RdsP w K A (cellsI c.V)
  n : RdsP w K D (cellsP c.N)
  m : RdsP w K E (cellsI c.M)
  p : KeysP w K Pa P
  t : KeysP w K Ta T
  lv : c.V.length ≤ k1
  ln : c.N.length ≤ k2
  lm : c.M.length ≤ k3
theorem GRQ.to {w W : World} {K K' : Nat → Prop} {R : List Int} {c : Cells} {P T : List (List Int)} {F A D E Pa Ta : Option Addr} {k1 k2 k3 : Nat} (h : GRQ w K R c P T F A D E Pa Ta k1 k2 k3) (ha : w.heap.size ≤ W.heap.size ∧ ∀ p : Addr, K p.block → p.block < w.heap.size → W.cell? p = w.cell? p) (hK : ∀ b, K b → b < w.heap.size → K' b) : GRQ W K' R c P T F A D E Pa Ta k1 k2 k3 :=
  ⟨h.r.toP ha.1 ha.2 hK, h.v.toP ha.1 ha.2 hK, h.n.toP ha.1 ha.2 hK, h.m.toP ha.1 ha.2 hK, h.p.toP ha.1 ha.2 hK, h.t.toP ha.1 ha.2 hK, h.lv, h.ln, h.lm⟩
theorem GRQ.rd {w : World} {K : Nat → Prop} {R : List Int} {c : Cells} {P T : List (List Int)} {F A D E Pa Ta : Option Addr} {k1 k2 k3 : Nat} (h : GRQ w K R c P T F A D E Pa Ta k1 k2 k3) : Rd w c A k1 D k2 E k3 := ⟨h.v.rds, h.n.rds, h.m.rds, h.lv, h.ln, h.lm⟩
theorem GRQ.q {w W : World} {K : Nat → Prop} {R : List Int} {c : Cells} {P T : List (List Int)} {F A D E Pa Ta : Option Addr} {k1 k2 k3 : Nat} (h : GRQ w K R c P T F A D E Pa Ta k1 k2 k3) (q : Q w W) : GRQ W K R c P T F A D E Pa Ta k1 k2 k3 := h.to (agree_q q) (fun _ h _ => h)
theorem CR.of {w : World} {K : Nat → Prop} {R : List Int} {c : Cells} {P T : List (List Int)} {F A D E Pa Ta : Option Addr} {k1 k2 k3 : Nat} (h : GRQ w K R c P T F A D E Pa Ta k1 k2 k3) : CR w K c A k1 D k2 E k3 := ⟨h.v, h.n, h.m, h.lv, h.ln, h.lm⟩
/-- where an answer lies, when the box is made behind it, or ahead -/
theorem KeysP.behind {K : Nat → Prop} {W6 U U0 wE : World} {A : Option Addr} {ks : List (List Int)} {B : Nat} (h : KeysP U (fun b => K b ∨ U0.heap.size ≤ b) A ks) (q0 : W6.heap.size ≤ U0.heap.size) (q : Q U wE) (hB : U.heap.size ≤ B ∨ B < U0.heap.size ∧ ∀ b, K b → b ≠ B) : KeysP wE (fun b => (K b ∨ W6.heap.size ≤ b) ∧ b ≠ B) A ks := h.toP (agree_q (P := fun b => K b ∨ U0.heap.size ≤ b) q).1 (agree_q (P := fun b => K b ∨ U0.heap.size ≤ b) q).2 (fun b hb hl => ⟨hb.elim .inl (fun h => .inr (by omega)), hB.elim (fun h => by omega) (fun h => hb.elim (h.2 b) (fun h2 => by omega))⟩)
theorem CR.ahead {K : Nat → Prop} {W6 U U0 wE : World} {c : Cells} {A D E : Option Addr} {k1 k2 k3 B : Nat} (h : CR U (fun b => K b ∨ U0.heap.size ≤ b) c A k1 D k2 E k3) (q0 : W6.heap.size ≤ U0.heap.size) (q : Q U wE) (hB : U.heap.size ≤ B ∨ B < U0.heap.size ∧ ∀ b, K b → b ≠ B) : CR wE (fun b => (K b ∨ W6.heap.size ≤ b) ∧ b ≠ B) c A k1 D k2 E k3 := h.to (agree_q (P := fun b => K b ∨ U0.heap.size ≤ b) q) (fun b hb hl => ⟨hb.elim .inl (fun h => .inr (by omega)), hB.elim (fun h => by omega) (fun h => hb.elim (h.2 b) (fun h2 => by omega))⟩)

end Go.Proofs.YtnifmfdlocgefaaGreat.Ig
